import PyProof.Rows.All
import Wide.All
import OpenK.AllK
import Wide.FinOn
import Lean
import PyProof.EqAt
import PyProof.EqKinds
import PyProof.TupleCall
import KE.BitLaws
import PySem.Challenge.RW_letterall_k45_claims_looked_over
set_option Elab.async false
set_option linter.all false
set_option maxRecDepth 100000
set_option maxHeartbeats 8000000
namespace L2
open PySem PySem.Spec PyProof.Rows
noncomputable abbrev Key:=Sum Int Str
noncomputable def keyIs:Key→Value→Bool
 | .inl k,v=>Value.isInt k v
 | .inr x,v=>Value.isStrOf x v
noncomputable def keyH (w:World):Key→Int
 | .inl k=>hashInt k
 | .inr x=>hashStr w x
theorem keyIs_shape:∀ {k:Key}{v:Value},keyIs k v=true→(∃ i t,k=Sum.inl i∧v=Value.int i t)∨(∃ x t,k=Sum.inr x∧v=Value.str x t)
 | .inl i,v,h=>by
  obtain ⟨t,e⟩:=Value.isInt_shape (k:=i) (v:=v) h;exact .inl ⟨i,t,rfl,e⟩
 | .inr x,v,h=>by
  obtain ⟨t,e⟩:=Value.isStrOf_shape (x:=x) (v:=v) h;exact .inr ⟨x,t,rfl,e⟩
theorem keyIs_int (i:Int) (t:Tok):keyIs (.inl i) (.int i t)=true:=by simp [keyIs,Value.isInt]
theorem keyIs_str (x:Str) (t:Tok):keyIs (.inr x) (.str x t)=true:=by simp [keyIs,Value.isStrOf]
theorem key_ll (a b:Int):decide ((Sum.inl a:Key)=Sum.inl b)=(a==b):=by
 by_cases e:a=b
 ·subst e;simp
 ·have h:¬ (Sum.inl a:Key)=Sum.inl b:=fun q=>e (Sum.inl.inj q)
  rw [decide_eq_false h];exact (beq_eq_false_iff_ne.mpr e).symm
theorem key_rr (a b:Str):decide ((Sum.inr a:Key)=Sum.inr b)=decide (a=b):=by
 by_cases e:a=b
 ·subst e;simp
 ·have h:¬ (Sum.inr a:Key)=Sum.inr b:=fun q=>e (Sum.inr.inj q)
  rw [decide_eq_false h,decide_eq_false e]
theorem key_lr (a:Int) (b:Str):decide ((Sum.inl a:Key)=Sum.inr b)=false:=decide_eq_false (fun q=>nomatch q)
theorem key_rl (a:Str) (b:Int):decide ((Sum.inr a:Key)=Sum.inl b)=false:=decide_eq_false (fun q=>nomatch q)
noncomputable def mixKind (prog:Program) (w:World):PySem.KeyKind prog w Key where
 is:=keyIs
 hash:=keyH w
 inj:=fun v a b ha hb=>by
  rcases keyIs_shape ha with ⟨i,t,rfl,rfl⟩ | ⟨x,t,rfl,rfl⟩
  ·rcases keyIs_shape hb with ⟨j,u,rfl,e⟩ | ⟨y,u,rfl,e⟩
   ·injection e with e1 _;rw [e1]
   ·exact nomatch e
  ·rcases keyIs_shape hb with ⟨j,u,rfl,e⟩ | ⟨y,u,rfl,e⟩
   ·exact nomatch e
   ·injection e with e1 _;rw [e1]
 byValue:=fun k v h=>by
  rcases keyIs_shape h with ⟨i,t,rfl,rfl⟩ | ⟨x,t,rfl,rfl⟩ <;> rfl
 pyHash:=fun hv h=>by
  rcases keyIs_shape hv with ⟨i,t,rfl,rfl⟩ | ⟨x,t,rfl,rfl⟩
  ·exact wpAny_pyHash_int h
  ·exact wpAny_pyHash_str h
 eqBool:=fun hu hv h=>by
  rcases keyIs_shape hu with ⟨i,t,rfl,rfl⟩ | ⟨x,t,rfl,rfl⟩
  ·rcases keyIs_shape hv with ⟨j,u,rfl,rfl⟩ | ⟨y,u,rfl,rfl⟩
   ·rw [key_ll] at h;exact wpAny_eqBool_int h
   ·rw [key_lr] at h;exact SeqAt.EqAt.int_str i t y u _ _ _ _ h
  ·rcases keyIs_shape hv with ⟨j,u,rfl,rfl⟩ | ⟨y,u,rfl,rfl⟩
   ·rw [key_rl] at h;exact SeqAt.EqAt.str_int x t j u _ _ _ _ h
   ·rw [key_rr] at h;exact wpAny_eqBool_str h
 «strs»:=fun k x t v h=>by
  rcases keyIs_shape h with ⟨i,u,rfl,e⟩ | ⟨y,u,rfl,e⟩
  ·exact nomatch e
  ·injection e with e1 _
   subst e1;cases v <;> rfl
theorem mixKind_int (prog:Program) (w:World) (i:Int) (t:Tok):(mixKind prog w).is (.inl i) (.int i t)=true:=keyIs_int i t
theorem mixKind_str (prog:Program) (w:World) (x:Str) (t:Tok):(mixKind prog w).is (.inr x) (.str x t)=true:=keyIs_str x t
inductive V where
 | non | bl (b:Bool) | int (i:Int) | str (x:Str) | byt (b:Array UInt8) | flt (b:UInt64) | ref (a:Addr) | ty (n:String)
 deriving DecidableEq
noncomputable def RelV:V→Value→Prop
 | .non,u=>u=Value.none
 | .bl b,u=>u=Value.bool b
 | .int i,u=>∃ t,u=Value.int i t
 | .str x,u=>∃ t,u=Value.str x t
 | .byt b,u=>∃ t,u=Value.bytes b t
 | .flt b,u=>∃ t,u=Value.float b t
 | .ref a,u=>u=Value.ref a
 | .ty n,u=>u=Value.type n
noncomputable abbrev Vals:List V→List Value→Prop:=Paired RelV
theorem Vals.length {xs:List V}{us:List Value}(r:Vals xs us):xs.length=us.length:=Paired.length r
theorem Vals.get:∀ {xs:List V}{us:List Value}{i:Nat}{x:V},Vals xs us→xs[i]?=some x→∃ u,us[i]?=some u∧RelV x u
 | _,_,_,_,.nil,e=>by simp at e
 | _,_,0,_,.cons r _,e=>by simp at e;subst e;exact ⟨_,rfl,r⟩
 | _,_,i+1,x,.cons _ t,e=>by
  obtain ⟨u,h1,h2⟩:=Vals.get (i:=i) (x:=x) t (by simpa using e);exact ⟨u,by simpa using h1,h2⟩
theorem Vals.set {x:V}{u:Value}(r:RelV x u):∀ {xs:List V}{us:List Value}(i:Nat),Vals xs us→Vals (xs.set i x) (us.set i u)
 | _,_,_,.nil=>.nil
 | _,_,0,.cons _ t=>.cons r t
 | _,_,i+1,.cons q t=>.cons q (Vals.set r i t)
theorem Vals.append:∀ {xs ys:List V}{us ws:List Value},Vals xs us→Vals ys ws→Vals (xs++ys) (us++ws)
 | _,_,_,_,.nil,s=>s
 | _,_,_,_,.cons r t,s=>.cons r (Vals.append t s)
theorem Vals.take:∀ {xs:List V}{us:List Value}(n:Nat),Vals xs us→Vals (xs.take n) (us.take n)
 | _,_,0,_=>.nil
 | _,_,_+1,.nil=>.nil
 | _,_,n+1,.cons r t=>.cons r (Vals.take n t)
theorem Vals.drop:∀ {xs:List V}{us:List Value}(n:Nat),Vals xs us→Vals (xs.drop n) (us.drop n)
 | _,_,0,r=>r
 | _,_,_+1,.nil=>.nil
 | _,_,n+1,.cons _ t=>Vals.drop n t
noncomputable def RelO:Option V→Option Value→Prop
 | some v,some u=>RelV v u
 | none,none=>True
 | _,_=>False
noncomputable def KV {κ:Type}:List (κ×V)→List (κ×Value)→Prop:=Paired fun (p:κ×V) (q:κ×Value)=>p.1=q.1∧RelV p.2 q.2
noncomputable def kV:Key→V
 | .inl i=>.int i
 | .inr x=>.str x
inductive HO where
 | lst (xs:List V)
 | tup (xs:List V)
 | dK (kvs:List (Key×V)) | dT (kvs:List (List Key×V))
 | set (S:Int→Bool) (n:Nat)
 | ins (C dx:Addr) (fs:List (Str×V))
 | own (x:Addr)
 | xd (fs:List (Str×V))
 | met (f x:Addr)
 | rng (lo hi:Int)
 | frz (o:Obj) (u:HO)
 | tbl (ps:Array Value)
 | ext (φ:Heap→Prop)
noncomputable abbrev Hp:=Addr→Option HO
noncomputable def upd (H:Hp) (a:Addr) (o:HO):Hp:=fun b=>if b=a then some o else H b
theorem upd_same {H:Hp}{a:Addr}{o:HO}:upd H a o a=some o:=by unfold upd;rw [if_pos rfl]
theorem upd_ne {H:Hp}{a b:Addr}{o:HO}(h:b≠a):upd H a o b=H b:=by unfold upd;rw [if_neg h]
theorem ne_of {H:Hp}{a b:Addr}{o u:HO}(h:H a=some o) (h':H b=some u) (d:o≠u):a≠b:=by
 intro e;subst e;rw [h] at h';exact d (Option.some.inj h')
theorem ne_of_none {H:Hp}{a b:Addr}{o:HO}(h:H a=some o) (h':H b=none):a≠b:=by
 intro e;subst e;rw [h] at h';cases h'
section
variable (P:Program) (w:World)
noncomputable def TupP (h:Heap) (a:Addr) (its:Array Value):Prop:=∃ o,h.get? a=some o∧o.cls=.type "tuple"∧o.dict=none∧∃ n,o.data=.seq its n
theorem TupP.to {h:Heap}{a:Addr}{its:Array Value}(x:TupP h a its):IsTup h a its:=let ⟨o,e,c,_,n,d⟩:=x;⟨o,e,c,n,d⟩
theorem TupP.new (h:Heap) (its:Array Value):TupP (h.push { cls:=.type "tuple",data:=.seq its }) h.objs.size its:=⟨_,Heap.get?_push_size _ rfl,rfl,rfl,_,rfl⟩
noncomputable def ObjOk (H:Hp) (h:Heap) (a:Addr):HO→Prop
 | .lst xs=>xs.length≤sizeLine∧∃ (its:List Value) (n:Nat),Vals xs its∧h.get? a=some { cls:=.type "list",data:=.seq its.toArray n }
 | .tup xs=>xs.length≤sizeLine∧∃ its:List Value,Vals xs its∧TupP h a its.toArray
 | .dK kvs=>kvs.length≤sizeLine∧(a==sysModules)=false∧∃ vs,KV kvs vs∧h.DictOf (mixKind P w) a vs
 | .dT kvs=>kvs.length≤sizeLine∧(a==sysModules)=false∧∃ xs:List (List Key×Addr×Value),
   Paired (fun (p:List Key×V) (q:List Key×Addr×Value)=>p.1=q.1∧H q.2.1=some (.tup (p.1.map kV))∧RelV p.2 q.2.2) kvs xs ∧
   ∃ o es ep,h.get? a=some o∧o.ExactDict∧o.data=.dict es ep∧es.toList=xs.map (entryOfKey (tupleKind (mixKind P w)))∧(xs.map (·.1)).Nodup
 | .set S n=>h.SetOf (intKind P w) a S n
 | .ins C dx fs=>H dx=some (.own a)∧fs.length≤1000∧dx≠a∧h.get? a=some (PySem.W.instObj C dx) ∧
   ∃ mA,h.Ns1 dx mA∧(∀ f,RelO (fs.lookup f) (mA f))∧PySem.Within mA (fs.map (·.1))
 | .own _=>∃ o,h.get? a=some o
 | .xd fs=>∃ mA,h.Ns1 a mA∧∀ f,RelO (fs.lookup f) (mA f)
 | .rng lo hi=>∃ t u v,h.get? a=some { cls:=.type "range",data:=.fields #[.int lo t,.int hi u,.int 1 v] }
 | .frz o u=>h.get? a=some o∧ObjOk H h a u
 | .tbl ps=>h.get? a=some { cls:=.none,data:=.fields ps }
 | .met f x=>h.get? a=some (PySem.W.methodObj (.ref f) (.ref x))
 | .ext φ=>φ h∧(∃ o,h.get? a=some o)∧∀ h1 h2:Heap,φ h1→(∀ o,h1.get? a=some o→h2.get? a=some o)→φ h2
noncomputable def HOk (H:Hp) (h:Heap):Prop:=∀ a o,H a=some o→ObjOk P w H h a o
end
section
variable {P:Program}{w:World}{H H':Hp}{h h':Heap}{a:Addr}{o:HO}
theorem ObjOk.lt (x:ObjOk P w H h a o):a < h.objs.size:=by
 cases o with
 | lst xs=>obtain ⟨_,_,_,_,e⟩:=x;exact Heap.lt_size e
 | tup xs=>obtain ⟨_,_,_,p⟩:=x;exact p.to.lt
 | dK kvs=>obtain ⟨_,_,_,_,o,_,_,e,_⟩:=x;exact Heap.lt_size e
 | dT kvs=>obtain ⟨_,_,_,_,o,_,_,e,_⟩:=x;exact Heap.lt_size e
 | set S n=>obtain ⟨o,_,_,_,e,_⟩:=x;exact Heap.lt_size e
 | ins C dx fs=>obtain ⟨_,_,_,e,_⟩:=x;exact Heap.lt_size e
 | own y=>obtain ⟨_,e⟩:=x;exact Heap.lt_size e
 | xd fs=>obtain ⟨_,⟨_,_,_,e,_⟩,_⟩:=x;exact Heap.lt_size e
 | rng lo hi=>obtain ⟨_,_,_,e⟩:=x;exact Heap.lt_size e
 | frz ob u=>obtain ⟨e,_⟩:=x;exact Heap.lt_size e
 | tbl ps=>exact Heap.lt_size (show h.get? a=some _ from x)
 | met f y=>exact Heap.lt_size (show h.get? a=some _ from x)
 | ext φ=>obtain ⟨_,⟨_,e⟩,_⟩:=x;exact Heap.lt_size e
theorem Paired.mapP {α β:Type}{F G:α→β→Prop}:∀ {l₁:List α}{l₂:List β},Paired F l₁ l₂→(∀ a b,F a b→G a b)→Paired G l₁ l₂
 | _,_,.nil,_=>.nil
 | _,_,.cons r t,f=>.cons (f _ _ r) (Paired.mapP t f)
theorem ObjOk.stay (x:ObjOk P w H h a o) (k:∀ b u,(b=a∨H b=some (.own a))→h.get? b=some u→h'.get? b=some u)
  (ho:∀ b,H b=some (.own a)→H' b=some (.own a)) (ht:∀ b xs,H b=some (.tup xs)→H' b=some (.tup xs)):ObjOk P w H' h' a o:=by
 induction o with
 | lst xs=>obtain ⟨z,its,n,r,e⟩:=x;exact ⟨z,its,n,r,k _ _ (.inl rfl) e⟩
 | tup xs=>obtain ⟨z,its,r,ob,e,c⟩:=x;exact ⟨z,its,r,ob,k _ _ (.inl rfl) e,c⟩
 | dK kvs=>obtain ⟨z,y,vs,r,ob,es,ep,e,c⟩:=x;exact ⟨z,y,vs,r,ob,es,ep,k _ _ (.inl rfl) e,c⟩
 | dT kvs =>
  obtain ⟨z,y,xs,r,ob,es,ep,e,c⟩:=x;exact ⟨z,y,xs,Paired.mapP r fun p q z=>⟨z.1,ht _ _ z.2.1,z.2.2⟩,ob,es,ep,k _ _ (.inl rfl) e,c⟩
 | set S n=>obtain ⟨ob,es,ep,t,e,c⟩:=x;exact ⟨ob,es,ep,t,k _ _ (.inl rfl) e,c⟩
 | ins C dx fs =>
  obtain ⟨d,z,ne,e,mA,⟨od,es,ep,e2,c⟩,r⟩:=x;exact ⟨ho _ d,z,ne,k _ _ (.inl rfl) e,mA,⟨od,es,ep,k _ _ (.inr d) e2,c⟩,r⟩
 | own y=>obtain ⟨ob,e⟩:=x;exact ⟨ob,k _ _ (.inl rfl) e⟩
 | xd fs=>obtain ⟨mA,⟨od,es,ep,e,c⟩,r⟩:=x;exact ⟨mA,⟨od,es,ep,k _ _ (.inl rfl) e,c⟩,r⟩
 | rng lo hi=>obtain ⟨t,u,v,e⟩:=x;exact ⟨t,u,v,k _ _ (.inl rfl) e⟩
 | frz ob u ih=>obtain ⟨e,q⟩:=x;exact ⟨k _ _ (.inl rfl) e,ih q⟩
 | tbl ps =>
  have e:h.get? a=some { cls:=.none,data:=.fields ps }:=x;show h'.get? a=some { cls:=.none,data:=.fields ps };exact k a _ (.inl rfl) e
 | met f y =>
  have e:h.get? a=some (PySem.W.methodObj (.ref f) (.ref y)):=x;show h'.get? a=some (PySem.W.methodObj (.ref f) (.ref y));exact k a _ (.inl rfl) e
 | ext φ=>obtain ⟨p,⟨o,e⟩,st⟩:=x;exact ⟨st _ _ p fun o q=>k _ _ (.inl rfl) q,⟨o,k _ _ (.inl rfl) e⟩,st⟩
theorem HOk.lt (x:HOk P w H h) (e:H a=some o):a < h.objs.size:=(x a o e).lt
theorem HOk.fresh (x:HOk P w H h) (e:h.objs.size≤a):H a=none:=by
 cases q:H a with
 | none=>rfl
 | some u=>exact absurd (Nat.lt_of_lt_of_le (x.lt q) e) (Nat.lt_irrefl _)
theorem HOk.kept (x:HOk P w H h) (k:∀ b u,h.get? b=some u→h'.get? b=some u):HOk P w H h':=fun a o e =>
 (x a o e).stay (fun b u _ q=>k b u q) (fun _ q=>q) fun _ _ q=>q
theorem HOk.laid (x:HOk P w H h) (k:∀ b u,h.get? b=some u→h'.get? b=some u) (hp:h.objs.size≤a) (new:ObjOk P w (upd H a o) h' a o):HOk P w (upd H a o) h':=fun b u e=>by
 have hn:=x.fresh hp
 by_cases hb:b=a
 ·subst hb;rw [upd_same] at e;cases e;exact new
 ·rw [upd_ne hb] at e;exact (x b u e).stay (fun c v _ q=>k c v q) (fun c q=>by rw [upd_ne (ne_of_none q hn)];exact q) fun c xs q=>by rw [upd_ne (ne_of_none q hn)];exact q
end
noncomputable def Rd (H:Hp) (a:Addr) (u:HO):Prop:=H a=some u∨∃ o,H a=some (.frz o u)
theorem Rd.ok {P:Program}{w:World}{H:Hp}{h:Heap}{a:Addr}{u:HO}(r:Rd H a u) (x:HOk P w H h):ObjOk P w H h a u:=by
 rcases r with r | ⟨o,r⟩
 ·exact x a u r
 ·obtain ⟨_,q⟩:=x a _ r;exact q
noncomputable def Mut:Option HO→Prop
 | some (.lst _)=>True
 | some (.dK _)=>True
 | some (.dT _)=>True
 | some (.set _ _)=>True
 | some (.ins _ _ _)=>True
 | some (.ext _)=>True
 | _=>False
section
variable {P:Program}{w:World}{H:Hp}{h h':Heap}{x e:Addr}{o':HO}
theorem HOk.write (ok:HOk P w H h) (mu:Mut (H x)) (he:e=x∨H e=some (.own x)) (k:∀ b u,b≠e→h.get? b=some u→h'.get? b=some u) (heo:∃ u,h'.get? e=some u)
  (new:ObjOk P w (upd H x o') h' x o'):HOk P w (upd H x o') h':=fun b u q=>by
 have nown:∀ c y,H c=some (.own y)→c≠x:=fun c y r z=>by subst z;rw [r] at mu;exact mu
 have ntup:∀ c xs,H c=some (.tup xs)→c≠x:=fun c xs r z=>by subst z;rw [r] at mu;exact mu
 by_cases hb:b=x
 ·subst hb;rw [upd_same] at q;cases q;exact new
 ·rw [upd_ne hb] at q
  by_cases hbe:b=e
  ·have q':H b=some (.own x):=by
    rcases he with z | z
    ·exact absurd (hbe.trans z) hb
    ·rw [hbe];exact z
   rw [q] at q';cases q';obtain ⟨v,hv⟩:=heo;exact ⟨v,by rw [hbe];exact hv⟩
  ·refine (ok b u q).stay (fun c v hc r=>k c v ?_ r) (fun c r=>by rw [upd_ne (nown c b r)];exact r) fun c xs r=>by rw [upd_ne (ntup c xs r)];exact r
   rcases hc with rfl | hc
   ·exact hbe
   ·rintro rfl;rcases he with z | z
    ·exact nown c b hc z
    ·rw [hc] at z;cases z;exact hb rfl
end
structure Un (fs ex:List Addr) (H H':Hp) (h h':Heap):Prop where
 keep:∀ b o,h.get? b=some o→H b=none→b ∉ fs→b ∉ ex→h'.get? b=some o
 slot:∀ b o,h.get? b=some o→H b=none→b∈fs→b ∉ ex→∃ sl,h'.get? b=some { o with slots:=sl }
 free:∀ b o,h.get? b=some o→H b=none→b ∉ ex→H' b=none
 there:∀ b o,h.get? b=some o→b ∉ ex→∃ o',h'.get? b=some o'
 tups:∀ b xs,H b=some (.tup xs)→H' b=some (.tup xs)
 frzs:∀ b o u,H b=some (.frz o u)→H' b=some (.frz o u)
 tbls:∀ b ps,H b=some (.tbl ps)→∃ more,H' b=some (.tbl (ps++more))
section
variable {fs fs' ex ex':List Addr}{H H1 H2:Hp}{h h1 h2 h':Heap}{a x e:Addr}{o:HO}
theorem Un.any (u:Un fs ex H H1 h h1) {b:Addr}{ob:Obj}(q:h.get? b=some ob) (n:H b=none) (hx:b ∉ ex):∃ sl,h1.get? b=some { ob with slots:=sl }:=by
 by_cases hb:b∈fs
 ·exact u.slot b ob q n hb hx
 ·exact ⟨ob.slots,u.keep b ob q n hb hx⟩
theorem Un.kept (k:∀ b u,h.get? b=some u→h'.get? b=some u):Un fs ex H H h h' :=
 ⟨fun b ob q _ _ _=>k b ob q,fun b ob q _ _ _=>⟨ob.slots,k b ob q⟩,fun _ _ _ n _=>n,fun b ob q _=>⟨ob,k b ob q⟩,fun _ _ q=>q,fun _ _ _ q=>q,fun _ ps q=>⟨#[],by rw [q];simp⟩⟩
theorem Un.refl:Un fs ex H H h h:=Un.kept fun _ _ q=>q
theorem Un.laid (k:∀ b u,h.get? b=some u→h'.get? b=some u) (hp:h.objs.size≤a) (hn:H a=none):Un fs ex H (upd H a o) h h' where
 keep:=fun b u q _ _ _=>k b u q
 slot:=fun b u q _ _ _=>⟨u.slots,k b u q⟩
 free:=fun b u q n _=>by rw [upd_ne (Nat.ne_of_lt (Nat.lt_of_lt_of_le (Heap.lt_size q) hp))];exact n
 there:=fun b u q _=>⟨u,k b u q⟩
 tups:=fun b xs q=>by rw [upd_ne (ne_of_none q hn)];exact q
 frzs:=fun b u xs q=>by rw [upd_ne (ne_of_none q hn)];exact q
 tbls:=fun b ps q=>⟨#[],by rw [upd_ne (ne_of_none q hn),q];simp⟩
theorem Un.write (mu:Mut (H x)) (he:e=x∨H e=some (.own x)) (k:∀ b u,b≠e→h.get? b=some u→h'.get? b=some u) (heo:∃ u,h'.get? e=some u):Un fs ex H (upd H x o) h h':=by
 have hx:∀ b,H b=none→b≠x:=fun b n z=>by subst z;rw [n] at mu;exact mu
 have hb:∀ b,H b=none→b≠e:=fun b n z=>by
  subst z;rcases he with r | r
  ·exact hx b n r
  ·rw [n] at r;cases r
 have hm:∀ b u,H b=some u→¬ Mut (some u)→b≠x:=fun b u q nm z=>by subst z;rw [q] at mu;exact nm mu
 refine ⟨fun b u q n _ _=>k b u (hb b n) q,fun b u q n _ _=>⟨u.slots,k b u (hb b n) q⟩,fun b u q n _=>by rw [upd_ne (hx b n)];exact n,fun b u q _=>?_,
  fun b xs q=>by rw [upd_ne (hm b _ q fun z=>z)];exact q,fun b u xs q=>by rw [upd_ne (hm b _ q fun z=>z)];exact q,fun b ps q=>⟨#[],by rw [upd_ne (hm b _ q fun z=>z),q];simp⟩⟩
 by_cases hbe:b=e
 ·subst hbe;exact heo
 ·exact ⟨u,k b u hbe q⟩
end
noncomputable def trk (h:Heap) (H:Hp):List Addr:=(List.range h.objs.size).filter fun a=>(H a).isSome
noncomputable def hidT (h:Heap) (H:Hp):Heap:=PySem.W.hideAll h (trk h H)
theorem hidT_size (h:Heap) (H:Hp):(hidT h H).objs.size=h.objs.size:=PySem.W.hideAll_size _ _
theorem hidT_get {h:Heap}{H:Hp}{b:Addr}{o:Obj}(e:h.get? b=some o) (n:H b=none):(hidT h H).get? b=some o :=
 PySem.W.hideAll_get _ e fun hm=>by
  have q:(H b).isSome=true:=(List.mem_filter.mp hm).2;rw [n] at q;simp at q
theorem of_hidT {h:Heap}{H:Hp}{b:Addr}{o:Obj}(e:(hidT h H).get? b=some o):h.get? b=some o∧H b=none:=by
 have e':h.get? b=some o:=PySem.W.of_hideAll (trk h H) e;refine ⟨e',?_⟩;cases q:H b with
 | none=>rfl
 | some x =>
  have hm:b∈trk h H:=List.mem_filter.mpr ⟨List.mem_range.mpr (Heap.lt_size e'),by simp [q]⟩;have z:(hidT h H).get? b=none:=PySem.W.hideAll_none (trk h H) hm;rw [z] at e;cases e
structure Mod (K:PySem.W.Frag) (mg:Str→Option Value) (base:Heap):Prop where
 kin:K.In base
 glob:base.Ns mainGlobals mg
 blt:∃ mb,base.Ns builtinsNs mb∧∀ x:Str,x ≠ "__name__"→mb x=bootBuiltins x
 nolimit:base.NoLimit
structure Cx where
 prog:Program
 w:World
 K:PySem.W.Frag
 mg:Str→Option Value
 base:Heap
 A:Around
 N:List Str
 s₀:Shared
 H₀:Hp
 env:Env
 outer:List Env
 stack:List Env
 ex:List Addr
 fn:Str→Bool
 calm:Bool
 pn:List (Addr×Obj)
 xe:Value→Shared→Prop
noncomputable def frs (l:List Env):List Addr:=l.filterMap (·.frame)
noncomputable abbrev Cx.fs (X:Cx):List Addr:=frs X.outer
noncomputable def Vis (sc:Scope) (x:Str):Prop:=sc.names.lookup x=some .local∨sc.names.lookup x=some .cell∨sc.names.lookup x=some .free
noncomputable def Loc (sc:Scope) (x:Str):Prop:=sc.names.lookup x=some .local∨sc.names.lookup x=some .cell
noncomputable def Look (env:Env) (h:Heap) (m:Str→Option Value) (x:Str) (u:Value):Prop :=
 (env.kindOf x=some .local∧m x=some u)∨((env.kindOf x=some .cell∨env.kindOf x=some .free)∧∃ c,env.cells.lookup x=some c∧h.IsCell c (some u))
structure Cx.Ok (X:Cx):Prop where
 mod:Mod X.K X.mg X.base
 kind:X.env.scope.kind=.function
 glob:X.env.globals=mainGlobals
 blt:X.env.builtins=builtinsNs
 above:X.s₀.heap.objs.size≤X.env.locals
 inj:∀ x y c,X.env.cells.lookup x=some c→X.env.cells.lookup y=some c→x=y
 has:∀ x,(X.env.kindOf x=some .cell∨X.env.kindOf x=some .free)→∃ c,X.env.cells.lookup x=some c
 cab:∀ x c,X.fn x=true→X.env.cells.lookup x=some c→X.s₀.heap.objs.size≤c
 hd:X.calm=true→X.A.handled=none
 frames:X.A.frames=some X.stack
 stk:X.stack=X.outer∨(X.stack=X.env::X.outer∧X.env.frame=some X.env.locals)
 exf:∀ b∈X.ex,b≠X.env.locals∧∀ x c,X.env.cells.lookup x=some c→c≠b
 bs:∀ b o,X.base.get? b=some o→X.s₀.heap.get? b=some o∧X.H₀ b=none
 bsz:X.base.objs.size≤X.s₀.heap.objs.size
 noex:∀ b o,X.base.get? b=some o→b ∉ X.ex
 exfs:∀ b∈X.ex,b ∉ X.fs
 funs:X.s₀.heap.FunFrames X.base X.outer
 frf:∀ b∈X.fs,X.H₀ b=none
structure Inv (X:Cx) (pins:List (Addr×Obj)) (σ:List (Option V)) (H:Hp) (s:Shared):Prop where
 ok:X.Ok
 os:s.os=X.s₀.os
 bare:AllBare s.gens
 base:Un X.fs X.ex X.H₀ H X.s₀.heap s.heap
 loc:∃ m,s.heap.Ns X.env.locals m∧∀ (i:Nat) (x:Str) (v:V),X.N[i]?=some x→σ[i]?=some (some v)→Vis X.env.scope x→∃ u,RelV v u∧Look X.env s.heap m x u
 cell:∀ x c,X.env.cells.lookup x=some c→∃ v,s.heap.IsCell c v
 free:H X.env.locals=none
 freeC:∀ x c,X.env.cells.lookup x=some c→H c=none
 pin:∀ p∈X.pn++pins,s.heap.get? p.1=some p.2∧H p.1=none∧p.1≠X.env.locals∧p.1 ∉ X.fs∧∀ v,p.2.data≠.cell v
 hok:HOk X.prog X.w H s.heap
 len:σ.length=X.N.length
section
variable {X:Cx}{pins:List (Addr×Obj)}{σ:List (Option V)}{H H':Hp}{s:Shared}{h':Heap}
theorem Cx.Ok.nofr (ok:X.Ok) {b:Addr}{o:Obj}(e:X.base.get? b=some o):b ∉ X.fs:=fun hb=>by
 have:=(ok.funs.mem hb).1;rw [e] at this;cases this
theorem Inv.bs (I:Inv X pins σ H s):∀ b o,X.base.get? b=some o→s.heap.get? b=some o∧H b=none:=fun b o e =>
 ⟨I.base.keep b o (I.ok.bs b o e).1 (I.ok.bs b o e).2 (I.ok.nofr e) (I.ok.noex b o e),I.base.free b o (I.ok.bs b o e).1 (I.ok.bs b o e).2 (I.ok.noex b o e)⟩
theorem Inv.bk (I:Inv X pins σ H s):∀ b o,X.base.get? b=some o→s.heap.get? b=some o:=fun b o e=>(I.bs b o e).1
theorem Inv.mod (I:Inv X pins σ H s):Mod X.K X.mg X.base:=I.ok.mod
theorem Inv.kIn (I:Inv X pins σ H s):X.K.In s.heap:=I.ok.mod.kin.keeps I.bk
theorem Inv.lt (I:Inv X pins σ H s):X.env.locals < s.heap.objs.size:=let ⟨_,hn,_⟩:=I.loc;hn.lt
theorem Inv.sz (I:Inv X pins σ H s):X.s₀.heap.objs.size≤s.heap.objs.size:=Nat.le_trans I.ok.above (Nat.le_of_lt I.lt)
theorem Inv.nofs (I:Inv X pins σ H s) {a:Addr}(h:s.heap.objs.size≤a):a ∉ X.fs:=fun hb=>by
 obtain ⟨_,o,ho,_⟩:=I.ok.funs.mem hb;exact absurd (Nat.lt_of_lt_of_le (Heap.lt_size ho) (Nat.le_trans I.sz h)) (Nat.lt_irrefl _)
theorem Inv.cne (I:Inv X pins σ H s):∀ x c,X.env.cells.lookup x=some c→c≠X.env.locals:=fun x c e z=>by
 obtain ⟨v,o,ho,hd⟩:=I.cell x c e;obtain ⟨m,⟨o',es,ep,ho',hd',_⟩,_⟩:=I.loc;rw [z,ho'] at ho;cases ho;rw [hd'] at hd;cases hd
theorem Inv.funs (I:Inv X pins σ H s):s.heap.FunFrames X.base X.outer:=by
 have all:∀ (l:List Env),(∀ b∈frs l,b∈X.fs)→X.s₀.heap.FunFrames X.base l→s.heap.FunFrames X.base l:=by
  intro l
  induction l with
  | nil=>intro _ _;trivial
  | cons env r ih =>
   intro hs hl;obtain ⟨hk,⟨L,o,hf,hn,ho,hd⟩,hr⟩:=hl;have hL:L∈X.fs:=hs L (by unfold frs;rw [List.filterMap_cons,hf];exact List.mem_cons_self);obtain ⟨sl,e⟩:=I.base.slot L o ho (I.ok.frf L hL) hL fun z=>I.ok.exfs L z hL
   exact ⟨hk,⟨L,_,hf,hn,e,hd⟩,ih (fun b hb=>hs b (by unfold frs;rw [List.filterMap_cons,hf];exact List.mem_cons_of_mem _ hb)) hr⟩
 exact all X.outer (fun _ hb=>hb) I.ok.funs
theorem Inv.stack (I:Inv X pins σ H s):s.heap.FunFrames X.base X.stack:=by
 rcases I.ok.stk with e | ⟨e,hf⟩
 ·rw [e];exact I.funs
 ·rw [e];obtain ⟨m,hn,_⟩:=I.loc;refine .cons (by rw [I.ok.kind];decide) hf hn ?_ I.funs;exact Heap.get?_none_of_le (Nat.le_trans I.ok.bsz I.ok.above)
theorem Inv.stkSub (I:Inv X pins σ H s):∀ b∈frs X.stack,b∈X.env.locals::X.fs:=fun b hb=>by
 rcases I.ok.stk with e | ⟨e,hf⟩
 ·rw [e] at hb;exact List.mem_cons_of_mem _ hb
 ·rw [e] at hb;unfold frs at hb;rw [List.filterMap_cons,hf] at hb;exact hb
theorem Inv.stkFree (I:Inv X pins σ H s):∀ b∈frs X.stack,H b=none:=fun b hb=>by
 rcases List.mem_cons.mp (I.stkSub b hb) with e | hb
 ·rw [e];exact I.free
 ·obtain ⟨_,o,ho,_⟩:=I.ok.funs.mem hb;exact I.base.free b o ho (I.ok.frf b hb) fun z=>I.ok.exfs b z hb
theorem Inv.step {g':Array GenState}{t':Nat}{d':Drawn}{ch:List Addr}(I:Inv X pins σ H s)
  (hch:∀ b∈ch,(b∈X.ex∨X.s₀.heap.objs.size≤b)∧b≠X.env.locals∧(∀ x c,X.env.cells.lookup x=some c→c≠b)∧∀ p∈X.pn++pins,p.1≠b)
  (keep:∀ b o,b≠X.env.locals→b ∉ X.fs→b ∉ ch→s.heap.get? b=some o→H b=none→h'.get? b=some o)
  (slot:∀ b o,b≠X.env.locals→b∈X.fs→b ∉ ch→s.heap.get? b=some o→H b=none→∃ sl,h'.get? b=some { o with slots:=sl }) (free:∀ b o,b ∉ ch→s.heap.get? b=some o→H b=none→H' b=none)
  (there:∀ b o,b ∉ ch→s.heap.get? b=some o→∃ o',h'.get? b=some o')
  (tups:∀ b xs,H b=some (.tup xs)→H' b=some (.tup xs)) (frzs:∀ b o u,H b=some (.frz o u)→H' b=some (.frz o u)) (tbls:∀ b ps,H b=some (.tbl ps)→∃ more,H' b=some (.tbl (ps++more)))
  (ns:∀ m,s.heap.Ns X.env.locals m→h'.Ns X.env.locals m) (hok:HOk X.prog X.w H' h') (hg:AllBare g') :
  Inv X pins σ H' { s with heap:=h',gens:=g',drawn:=d',toks:=t' }:=by
 have neL:∀ b o,X.s₀.heap.get? b=some o→b≠X.env.locals:=fun b o e=>Nat.ne_of_lt (Nat.lt_of_lt_of_le (Heap.lt_size e) I.ok.above)
 have neC:∀ b o,X.s₀.heap.get? b=some o→b ∉ X.ex→b ∉ ch:=fun b o e hx hb=>by
  rcases (hch b hb).1 with z | z
  ·exact hx z
  ·exact absurd (Nat.lt_of_lt_of_le (Heap.lt_size e) z) (Nat.lt_irrefl _)
 have cellK:∀ x c,X.env.cells.lookup x=some c→∀ v,s.heap.IsCell c v→h'.IsCell c v:=by
  rintro x c e v ⟨o,ho,hd⟩;have nch:c ∉ ch:=fun z=>(hch c z).2.2.1 x c e rfl
  by_cases hc:c∈X.fs
  ·obtain ⟨sl,q⟩:=slot c o (I.cne x c e) hc nch ho (I.freeC x c e);exact ⟨_,q,hd⟩
  ·exact ⟨o,keep c o (I.cne x c e) hc nch ho (I.freeC x c e),hd⟩
 refine ⟨I.ok,I.os,hg,⟨fun b o e n hb hx=>?_,fun b o e n hb hx=>?_,fun b o e n hx=>?_,fun b o e hx=>?_,fun b xs e=>tups b xs (I.base.tups b xs e),fun b o xs e=>frzs b o xs (I.base.frzs b o xs e),fun b ps e=>?_⟩,?_,fun x c e=>?_,?_,fun x c e=>?_,fun p hp=>?_,hok,I.len⟩
 ·exact keep b o (neL b o e) hb (neC b o e hx) (I.base.keep b o e n hb hx) (I.base.free b o e n hx)
 ·obtain ⟨sl,e1⟩:=I.base.slot b o e n hb hx;obtain ⟨sl',e2⟩:=slot b _ (neL b o e) hb (neC b o e hx) e1 (I.base.free b o e n hx);exact ⟨sl',e2⟩
 ·obtain ⟨o',e1⟩:=I.base.there b o e hx;exact free b o' (neC b o e hx) e1 (I.base.free b o e n hx)
 ·obtain ⟨o',e1⟩:=I.base.there b o e hx;exact there b o' (neC b o e hx) e1
 ·obtain ⟨m1,e1⟩:=I.base.tbls b ps e;obtain ⟨m2,e2⟩:=tbls b _ e1;exact ⟨m1++m2,by rw [e2,Array.append_assoc]⟩
 ·obtain ⟨m,hn,hl⟩:=I.loc;refine ⟨m,ns m hn,fun i x v e1 e2 e3=>?_⟩;obtain ⟨u,r,l⟩:=hl i x v e1 e2 e3;refine ⟨u,r,?_⟩;rcases l with l | ⟨k,c,e,z⟩
  ·exact .inl l
  ·exact .inr ⟨k,c,e,cellK x c e _ z⟩
 ·obtain ⟨v,z⟩:=I.cell x c e;exact ⟨v,cellK x c e v z⟩
 ·obtain ⟨m,⟨o,_,_,ho,_⟩,_⟩:=I.loc;exact free _ o (fun z=>(hch _ z).2.1 rfl) ho I.free
 ·obtain ⟨v,o,ho,hd⟩:=I.cell x c e;exact free c o (fun z=>(hch c z).2.2.1 x c e rfl) ho (I.freeC x c e)
 ·obtain ⟨e,n,ne,nf,d⟩:=I.pin p hp;have nch:p.1 ∉ ch:=fun z=>(hch p.1 z).2.2.2 p hp rfl
  exact ⟨keep p.1 p.2 ne nf nch e n,free p.1 p.2 nch e n,ne,nf,d⟩
theorem Inv.un {t':Nat}(I:Inv X pins σ H s) (u:Un X.fs [] H H' s.heap h') (hok:HOk X.prog X.w H' h'):Inv X pins σ H' { s with heap:=h',toks:=t' }:=by
 obtain ⟨m,⟨o,es,ep,ho,r⟩,_⟩:=id I.loc;obtain ⟨sl,hL⟩:=u.any ho I.free (by simp)
 exact I.step (g':=s.gens) (d':=s.drawn) (ch:=[]) (fun _ z=>nomatch z) (fun b o _ hb _ e n=>u.keep b o e n hb (by simp)) (fun b o _ hb _ e n=>u.slot b o e n hb (by simp)) (fun b o _ e n=>u.free b o e n (by simp)) (fun b o _ e=>u.there b o e (by simp)) u.tups u.frzs u.tbls (fun m' hm=>by
  obtain ⟨o',es',ep',ho',r'⟩:=hm;rw [ho] at ho';cases ho'
  exact ⟨_,es',ep',hL,r'⟩) hok I.bare
theorem Inv.call {g':Array GenState}{t':Nat}{d':Drawn}{ch:List Addr}(I:Inv X pins σ H s) (u:Un (frs X.stack) ch H H' s.heap h') (hok:HOk X.prog X.w H' h') (hg:AllBare g')
  (hch:∀ b∈ch,(b∈X.ex∨X.s₀.heap.objs.size≤b)∧b≠X.env.locals∧(∀ x c,X.env.cells.lookup x=some c→c≠b)∧∀ p∈X.pn++pins,p.1≠b) :
  Inv X pins σ H' { s with heap:=h',gens:=g',drawn:=d',toks:=t' }:=by
 obtain ⟨m,⟨o,es,ep,ho,r⟩,_⟩:=id I.loc;obtain ⟨sl,hL⟩:=u.any ho I.free fun z=>(hch _ z).2.1 rfl
 exact I.step (ch:=ch) hch (fun b o hL hb hc e n=>u.keep b o e n (fun z=>(List.mem_cons.mp (I.stkSub b z)).elim hL hb) hc) (fun b o _ _ hc e n=>u.any e n hc) (fun b o hc e n=>u.free b o e n hc) (fun b o hc e=>u.there b o e hc) u.tups u.frzs u.tbls (fun m' hm=>by
  obtain ⟨o',es',ep',ho',r'⟩:=hm;rw [ho] at ho';cases ho'
  exact ⟨_,es',ep',hL,r'⟩) hok hg
theorem Inv.turned {t':Nat}{it:Addr}(I:Inv X pins σ H s) (k:∀ b o,b≠it→s.heap.get? b=some o→h'.get? b=some o) (hn:H it=none) (hL:it≠X.env.locals)
  (h1:it∈X.ex∨X.s₀.heap.objs.size≤it) (h2:∀ x c,X.env.cells.lookup x=some c→c≠it) (h3:∀ p∈X.pn++pins,p.1≠it):Inv X pins σ H { s with heap:=h',toks:=t' }:=by
 have nit:∀ b u,H b=some u→b≠it:=fun b u e z=>by rw [z,hn] at e;cases e
 refine I.step (g':=s.gens) (d':=s.drawn) (ch:=[it]) (fun b hb=>?_) (fun b o _ _ hc e _=>k b o (fun z=>hc (by simp [z])) e) (fun b o _ _ hc e _=>⟨o.slots,k b o (fun z=>hc (by simp [z])) e⟩) (fun _ _ _ _ n=>n)
  (fun b o hc e=>⟨o,k b o (fun z=>hc (by simp [z])) e⟩) (fun _ _ e=>e) (fun _ _ _ e=>e) (fun b ps e=>⟨#[],by rw [e];simp⟩) (fun m hm=>?_) (fun b u e=>?_) I.bare
 ·have e:b=it:=by simpa using hb
  subst e;exact ⟨h1,hL,h2,h3⟩
 ·obtain ⟨o,es,ep,ho,r⟩:=hm;exact ⟨o,es,ep,k _ o (Ne.symm hL) ho,r⟩
 ·refine (I.hok b u e).stay (fun c v hc q=>k c v ?_ q) (fun _ q=>q) fun _ _ q=>q
  rcases hc with z | z
  ·rw [z];exact nit b u e
  ·exact nit c _ z
theorem Inv.tok (I:Inv X pins σ H s) (t:Nat):Inv X pins σ H { s with toks:=t }:=I.un (h':=s.heap) (t':=t) Un.refl I.hok
theorem Inv.kept {t':Nat}(I:Inv X pins σ H s) (k:∀ b u,s.heap.get? b=some u→h'.get? b=some u):Inv X pins σ H { s with heap:=h',toks:=t' }:=I.un (Un.kept k) (I.hok.kept k)
theorem Inv.laid {a:Addr}{o:HO}{t':Nat}(I:Inv X pins σ H s) (k:∀ b u,s.heap.get? b=some u→h'.get? b=some u) (hp:s.heap.objs.size≤a) (new:ObjOk X.prog X.w (upd H a o) h' a o) :
  Inv X pins σ (upd H a o) { s with heap:=h',toks:=t' }:=I.un (Un.laid k hp (I.hok.fresh hp)) (I.hok.laid k hp new)
theorem Inv.write {x e:Addr}{o:HO}{t':Nat}(I:Inv X pins σ H s) (mu:Mut (H x)) (he:e=x∨H e=some (.own x)) (k:∀ b u,b≠e→s.heap.get? b=some u→h'.get? b=some u) (heo:∃ u,h'.get? e=some u)
  (new:ObjOk X.prog X.w (upd H x o) h' x o):Inv X pins σ (upd H x o) { s with heap:=h',toks:=t' }:=I.un (Un.write mu he k heo) (I.hok.write mu he k heo new)
theorem Inv.weak {σ':List (Option V)}(I:Inv X pins σ H s) (hl:σ'.length=σ.length) (w:∀ (i:Nat) v,σ'[i]?=some (some v)→σ[i]?=some (some v)):Inv X pins σ' H s :=
 ⟨I.ok,I.os,I.bare,I.base,let ⟨m,hn,hl'⟩:=I.loc;⟨m,hn,fun i x v e1 e2 e3=>hl' i x v e1 (w i v e2) e3⟩,I.cell,I.free,I.freeC,I.pin,I.hok,hl.trans I.len⟩
theorem Inv.pins_of {pins':List (Addr×Obj)}(I:Inv X pins σ H s) (h:∀ p∈pins',s.heap.get? p.1=some p.2∧H p.1=none∧p.1≠X.env.locals∧p.1 ∉ X.fs∧∀ v,p.2.data≠.cell v):Inv X pins' σ H s :=
 ⟨I.ok,I.os,I.bare,I.base,I.loc,I.cell,I.free,I.freeC,fun p hp=>(List.mem_append.mp hp).elim (fun z=>I.pin p (List.mem_append_left _ z)) (h p),I.hok,I.len⟩
theorem nodup_ix {N:List Str}(hN:N.Nodup) {i j:Nat}{x:Str}(a:N[i]?=some x) (b:N[j]?=some x):i=j:=by
 obtain ⟨h1,e1⟩:=List.getElem?_eq_some_iff.mp a;obtain ⟨h2,e2⟩:=List.getElem?_eq_some_iff.mp b;exact (List.getElem_inj hN).mp (e1.trans e2.symm)
theorem store_ok2 {M:Model}{A:Around}{E:Value→Shared→Prop}{i:Nat}{x:Str}{v:V}{u:Value}{Q:Unit→Shared→Prop}(I:Inv X pins σ H s) (hN:X.N.Nodup) (hi:X.N[i]?=some x) (hx:Loc X.env.scope x) (r:RelV v u)
  (h:∀ s',Inv X pins (σ.set i (some v)) H s'→(∃ a,Heap.SameBut a s.heap s'.heap∧(a=X.env.locals∨X.env.cells.lookup x=some a))→Q () s') (hf:X.fn x=true∨X.env.scope.names.lookup x=some .local:=by first | exact .inl rfl | exact .inr rfl | assumption):wpAny M A (storeName X.env x u) Q E s:=by
 obtain ⟨m,hn,hl⟩:=id I.loc;have hcls:(X.env.scope.kind==.class || (X.env.scope.kind==.module&&X.env.locals != X.env.globals))=false:=by rw [I.ok.kind];rfl
 have hiσ:i < σ.length:=by rw [I.len];exact (List.getElem?_eq_some_iff.mp hi).1
 have cne:=I.cne;have tracked:∀ {a:Addr} {h':Heap},(∃ o,s.heap.get? a=some o∧H a=none)→Heap.SameBut a s.heap h'→HOk X.prog X.w H h':=fun {a h'} ha hs b ob e=>by
  obtain ⟨_,_,hfree⟩:=ha;refine (I.hok b ob e).stay (fun c w' hc q=>(hs.2 c ?_).trans q) (fun _ q=>q) fun _ _ q=>q
  rintro rfl;rcases hc with rfl | hc
  ·rw [hfree] at e;cases e
  ·rw [hfree] at hc;cases hc
 rcases hx with hk | hk
 ·refine wpAny_storeName_local hk hn (fun h' hn' hs=>?_) hcls;obtain ⟨oL,_,_,hoL,_⟩:=id hn;refine h _ ⟨I.ok,I.os,I.bare,⟨fun b o e n hb hx=>?_,fun b o e n hb hx=>?_,I.base.free,fun b o e hx=>?_,I.base.tups,I.base.frzs,I.base.tbls⟩,⟨_,hn',fun j y v' e1 e2 e3=>?_⟩,fun y c e=>?_,I.free,I.freeC,fun p hp=>?_,tracked ⟨oL,hoL,I.free⟩ hs,by simpa using I.len⟩ ⟨_,hs,.inl rfl⟩
  ·exact (hs.2 b (Nat.ne_of_lt (Nat.lt_of_lt_of_le (Heap.lt_size e) I.ok.above))).trans (I.base.keep b o e n hb hx)
  ·obtain ⟨sl,e1⟩:=I.base.slot b o e n hb hx;exact ⟨sl,(hs.2 b (Nat.ne_of_lt (Nat.lt_of_lt_of_le (Heap.lt_size e) I.ok.above))).trans e1⟩
  ·obtain ⟨o',e1⟩:=I.base.there b o e hx;exact ⟨o',(hs.2 b (Nat.ne_of_lt (Nat.lt_of_lt_of_le (Heap.lt_size e) I.ok.above))).trans e1⟩
  ·by_cases hj:j=i
   ·subst hj;rw [hi] at e1;cases e1;rw [List.getElem?_set_self hiσ] at e2;cases e2;exact ⟨u,r,.inl ⟨hk,by simp⟩⟩
   ·rw [List.getElem?_set_ne (Ne.symm hj)] at e2;obtain ⟨u',r',q⟩:=hl j y v' e1 e2 e3;refine ⟨u',r',?_⟩;rcases q with ⟨k,e⟩ | ⟨k,c,e,z⟩
    ·refine .inl ⟨k,?_⟩;have:y≠x:=fun e=>hj (nodup_ix hN e1 (e ▸ hi))
     simp [this,e]
    ·exact .inr ⟨k,c,e,z.sameBut hs (cne y c e)⟩
  ·obtain ⟨w',z⟩:=I.cell y c e;exact ⟨w',z.sameBut hs (cne y c e)⟩
  ·obtain ⟨e,n,ne,nf,d⟩:=I.pin p hp;exact ⟨(hs.2 p.1 ne).trans e,n,ne,nf,d⟩
 ·have hfn:X.fn x=true:=by
   rcases hf with z | z
   ·exact z
   ·rw [z] at hk;cases hk
  obtain ⟨c,hc⟩:=I.ok.has x (.inl hk);obtain ⟨w',z⟩:=I.cell x c hc;refine wpAny_storeName_cell I.ok.kind hk hc z (fun h' hc' hs=>?_);obtain ⟨oc,hoc,hocd⟩:=id z;refine h { s with heap:=h' } ⟨I.ok,I.os,I.bare,⟨fun b o e n hb hx=>?_,fun b o e n hb hx=>?_,I.base.free,fun b o e hx=>?_,I.base.tups,I.base.frzs,I.base.tbls⟩,⟨m,hn.sameBut hs (Ne.symm (cne x c hc)),fun j y v' e1 e2 e3=>?_⟩,fun y c' e=>?_,I.free,I.freeC,fun p hp=>?_,tracked ⟨oc,hoc,I.freeC x c hc⟩ hs,by simpa using I.len⟩ ⟨c,hs,.inr hc⟩
  ·exact (hs.2 b (Nat.ne_of_lt (Nat.lt_of_lt_of_le (Heap.lt_size e) (I.ok.cab x c hfn hc)))).trans (I.base.keep b o e n hb hx)
  ·obtain ⟨sl,e1⟩:=I.base.slot b o e n hb hx;exact ⟨sl,(hs.2 b (Nat.ne_of_lt (Nat.lt_of_lt_of_le (Heap.lt_size e) (I.ok.cab x c hfn hc)))).trans e1⟩
  ·obtain ⟨o',e1⟩:=I.base.there b o e hx;exact ⟨o',(hs.2 b (Nat.ne_of_lt (Nat.lt_of_lt_of_le (Heap.lt_size e) (I.ok.cab x c hfn hc)))).trans e1⟩
  ·by_cases hj:j=i
   ·subst hj;rw [hi] at e1;cases e1;rw [List.getElem?_set_self hiσ] at e2;cases e2;exact ⟨u,r,.inr ⟨.inl hk,c,hc,hc'⟩⟩
   ·rw [List.getElem?_set_ne (Ne.symm hj)] at e2;obtain ⟨u',r',q⟩:=hl j y v' e1 e2 e3;refine ⟨u',r',?_⟩;rcases q with q | ⟨k,c',e,z'⟩
    ·exact .inl q
    ·refine .inr ⟨k,c',e,z'.sameBut hs ?_⟩;rintro rfl;exact hj (nodup_ix hN e1 (I.ok.inj _ _ _ e hc ▸ hi))
  ·by_cases hcc:c'=c
   ·subst hcc;exact ⟨_,hc'⟩
   ·obtain ⟨w2,z2⟩:=I.cell y c' e;exact ⟨w2,z2.sameBut hs hcc⟩
  ·obtain ⟨e,n,ne,nf,d⟩:=I.pin p hp;refine ⟨(hs.2 p.1 ?_).trans e,n,ne,nf,d⟩;intro q;rw [q,hoc] at e;have q':oc=p.2:=Option.some.inj e;exact d w' (by rw [← q'];exact hocd)
theorem store_ok {M:Model}{A:Around}{E:Value→Shared→Prop}{i:Nat}{x:Str}{v:V}{u:Value}{Q:Unit→Shared→Prop}(I:Inv X pins σ H s) (hN:X.N.Nodup) (hi:X.N[i]?=some x) (hx:Loc X.env.scope x) (r:RelV v u)
  (h:∀ s',Inv X pins (σ.set i (some v)) H s'→Q () s') (hf:X.fn x=true∨X.env.scope.names.lookup x=some .local:=by first | exact .inl rfl | exact .inr rfl | assumption):wpAny M A (storeName X.env x u) Q E s :=
 store_ok2 I hN hi hx r (fun s' I' _=>h s' I') hf
theorem Inv.call' {s':Shared}{ch:List Addr}(I:Inv X pins σ H s) (ho:s'.os=s.os) (u:Un (frs X.stack) ch H H' s.heap s'.heap) (hok:HOk X.prog X.w H' s'.heap) (hg:AllBare s'.gens)
  (hch:∀ b∈ch,(b∈X.ex∨X.s₀.heap.objs.size≤b)∧b≠X.env.locals∧(∀ x c,X.env.cells.lookup x=some c→c≠b)∧∀ p∈X.pn++pins,p.1≠b):Inv X pins σ H' s':=by
 obtain ⟨h',g',d',t',o'⟩:=s';have e:o'=s.os:=ho;subst e;exact I.call (g':=g') (t':=t') (d':=d') u hok hg hch
end
noncomputable abbrev XK:=Value→Option Addr→Hp→Prop
noncomputable abbrev St:=List (Option V)
noncomputable abbrev VK:=V→Hp→Prop
noncomputable abbrev TE:=St→Hp→VK→Prop
noncomputable abbrev TT:=St→Hp→(Bool→Hp→Prop)→Prop
noncomputable abbrev TA:=St→Hp→(List V→Hp→Prop)→Prop
structure Ends where
 nx:St→Hp→Prop
 rt:VK
 bk:St→Hp→Prop:=fun _ _=>False
 ct:St→Hp→Prop:=fun _ _=>False
noncomputable abbrev TS:=Ends→St→Hp→Prop
noncomputable def EP (X:Cx) (pins:List (Addr×Obj)) (σ:St) (Q:VK) (u:Value) (s':Shared):Prop:=∃ v H',Inv X pins σ H' s'∧RelV v u∧Q v H'
noncomputable def TP (X:Cx) (pins:List (Addr×Obj)) (σ:St) (Q:Bool→Hp→Prop) (b:Bool) (s':Shared):Prop:=∃ H',Inv X pins σ H' s'∧Q b H'
noncomputable def AP (X:Cx) (pins:List (Addr×Obj)) (σ:St) (Q:List V→Hp→Prop) (us:List Value) (s':Shared):Prop:=∃ vs H',Inv X pins σ H' s'∧Vals vs us∧Q vs H'
noncomputable def SP (X:Cx) (pins:List (Addr×Obj)) (D:Ends) (f:Flow) (s':Shared):Prop :=
 match f with
 | .next=>∃ σ' H',Inv X pins σ' H' s'∧D.nx σ' H'
 | .brk=>∃ σ' H',Inv X pins σ' H' s'∧D.bk σ' H'
 | .cont=>∃ σ' H',Inv X pins σ' H' s'∧D.ct σ' H'
 | .ret u=>∃ v σ' H',Inv X pins σ' H' s'∧RelV v u∧D.rt v H'
noncomputable def PE (X:Cx) (e:Expr) (t:TE):Prop :=
 ∀ (pins:List (Addr×Obj)) (s:Shared) (σ:St) (H:Hp) (Q:VK),Inv X pins σ H s→t σ H Q→wpAny (model X.prog X.w) X.A (eval e X.env) (EP X pins σ Q) X.xe s
noncomputable def PT (X:Cx) (e:Expr) (t:TT):Prop :=
 ∀ (pins:List (Addr×Obj)) (s:Shared) (σ:St) (H:Hp) (Q:Bool→Hp→Prop),Inv X pins σ H s→t σ H Q→wpAny (model X.prog X.w) X.A (isTrue e X.env (eval e X.env)) (TP X pins σ Q) X.xe s
noncomputable def PW (X:Cx) (e:Expr) (t:TT):Prop :=
 ∀ (whole:Sem Value) (pins:List (Addr×Obj)) (s:Shared) (σ:St) (H:Hp) (Q:Bool→Hp→Prop),Inv X pins σ H s→t σ H Q→wpAny (model X.prog X.w) X.A (isTrue e X.env whole) (TP X pins σ Q) X.xe s
theorem PW.pt {X:Cx}{e:Expr}{t:TT}(h:PW X e t):PT X e t:=h _
noncomputable def PA (X:Cx) (es:List Expr) (t:TA):Prop :=
 ∀ (pos:Pos) (pins:List (Addr×Obj)) (s:Shared) (σ:St) (H:Hp) (Q:List V→Hp→Prop),Inv X pins σ H s→t σ H Q→wpAny (model X.prog X.w) X.A (spliced (backTo pos (starEach es X.env))) (AP X pins σ Q) X.xe s
noncomputable def PS (X:Cx) (st:Stmt) (t:TS):Prop :=
 ∀ (pins:List (Addr×Obj)) (s:Shared) (σ:St) (H:Hp) (D:Ends),Inv X pins σ H s→t D σ H→wpAny (model X.prog X.w) X.A (exec st X.env) (SP X pins D) X.xe s
noncomputable def PSs (X:Cx) (st:List Stmt) (t:TS):Prop :=
 ∀ (pins:List (Addr×Obj)) (s:Shared) (σ:St) (H:Hp) (D:Ends),Inv X pins σ H s→t D σ H→wpAny (model X.prog X.w) X.A (execs st X.env) (SP X pins D) X.xe s
theorem thn {α:Type}{t:Sem α}{Q Q':α→Shared→Prop}{M:Model}{A:Around}{E:Value→Shared→Prop}{s:Shared}(h:wpAny M A t Q E s) (hQ:∀ a s,Q a s→Q' a s):wpAny M A t Q' E s:=wpAny_mono h hQ fun _ _ x=>x
section
variable {X:Cx}
noncomputable def tVar (i:Nat):TE:=fun σ H Q=>∃ v,σ[i]?=some (some v)∧Q v H
noncomputable def tC (v:V):TE:=fun _ H Q=>Q v H
theorem pe_var {i:Nat}{x:Str}{pos:Pos}(hN:X.N[i]?=some x) (hv:Vis X.env.scope x) (hd:(x==("__debug__":Str))=false:=by decide) (hcd:(x==("__classdict__":Str))=false:=by decide):PE X (.Name x pos) (tVar i):=by
 intro pins s σ H Q I h;obtain ⟨v,e,h⟩:=h;obtain ⟨m,hn,hl⟩:=I.loc;obtain ⟨u,r,l⟩:=hl i x v hN e hv;have fin:EP X pins σ Q u s:=⟨v,H,I,r,h⟩;rcases l with ⟨hk,hm⟩ | ⟨hk,c,hc,hcell⟩
 ·exact wpAny_Name (wpAny_loadName_local I.ok.kind hk hn hm fin) hd
 ·rcases hk with hk | hk
  ·exact wpAny_Name (wpAny_loadName_cell I.ok.kind hk hc hcell fin) hd
  ·exact wpAny_Name (wpAny_loadName_free I.ok.kind hk hc hcell fin hcd) hd
theorem pe_int {i j pos}:PE X (.Constant (.int i) j pos) (tC (.int i)):=fun _ _ _ H _ I h=>wpAny_Constant_int ⟨.int i,H,I.tok _,⟨_,rfl⟩,h⟩
theorem pe_bl {b j pos}:PE X (.Constant (.bool b) j pos) (tC (.bl b)):=fun _ _ _ H _ I h=>Constant_bool ⟨.bl b,H,I,rfl,h⟩
theorem pe_non {j pos}:PE X (.Constant .none j pos) (tC .non):=fun _ _ _ H _ I h=>Constant_none ⟨.non,H,I,rfl,h⟩
theorem pe_str {x j pos}:PE X (.Constant (.str x) j pos) (tC (.str x)):=fun _ _ _ H _ I h=>Calls.Constant_str ⟨.str x,H,I.tok _,⟨_,rfl⟩,h⟩
noncomputable def Gl (X:Cx) (x:Str):Prop:=X.env.kindOf x=some .globalImplicit
theorem ld_glob {E:Value→Shared→Prop}{pins:List (Addr×Obj)}{s:Shared}{σ:St}{H:Hp}{x:Str}{u:Value}{pos:Pos}{Q:Value→Shared→Prop}(I:Inv X pins σ H s) (hg:Gl X x) (hm:X.mg x=some u) (h:Q u s)
  (hd:(x==("__debug__":Str))=false:=by decide):wpAny (model X.prog X.w) X.A (eval (.Name x pos) X.env) Q E s :=
 Calls.Name_function_global I.ok.kind hg (Calls.loadGlobal_global (by rw [I.ok.glob];exact I.mod.glob.keeps I.bk) hm h) hd
theorem ld_blt {E:Value→Shared→Prop}{pins:List (Addr×Obj)}{s:Shared}{σ:St}{H:Hp}{x:Str}{u:Value}{pos:Pos}{Q:Value→Shared→Prop}(I:Inv X pins σ H s) (hg:Gl X x) (hm:X.mg x=none) (hv:bootBuiltins x=some u) (h:Q u s)
  (hn:x ≠ "__name__":=by decide) (hd:(x==("__debug__":Str))=false:=by decide):wpAny (model X.prog X.w) X.A (eval (.Name x pos) X.env) Q E s:=by
 obtain ⟨mb,h1,h2⟩:=I.mod.blt;exact Calls.Name_function_global I.ok.kind hg (Calls.loadGlobal_builtin (by rw [I.ok.glob];exact I.mod.glob.keeps I.bk) hm (by rw [I.ok.blt];exact h1.keeps I.bk) ((h2 x hn).trans hv) h) hd
theorem pe_glob {x:Str}{v:V}{u:Value}{pos:Pos}(hg:Gl X x) (hm:X.mg x=some u) (r:RelV v u) (hd:(x==("__debug__":Str))=false:=by decide):PE X (.Name x pos) (tC v) :=
 fun _ _ _ H _ I h=>ld_glob I hg hm ⟨v,H,I,r,h⟩ hd
theorem pe_bltn {x:Str}{v:V}{u:Value}{pos:Pos}(hg:Gl X x) (hm:X.mg x=none) (hv:bootBuiltins x=some u) (r:RelV v u) (hn:x ≠ "__name__":=by decide) (hd:(x==("__debug__":Str))=false:=by decide):PE X (.Name x pos) (tC v) :=
 fun _ _ _ H _ I h=>ld_blt I hg hm hv ⟨v,H,I,r,h⟩ hn hd
variable {a b:Expr}{ta tb:TE}{pos:Pos}
theorem RelV.none_iff {x:V}{v:Value}(r:RelV x v):(v==Value.none)=decide (x=.non):=by
 cases x with
 | non=>cases r;rfl
 | bl _=>cases r;rfl
 | int _=>obtain ⟨t,rfl⟩:=r;rfl
 | str _=>obtain ⟨t,rfl⟩:=r;rfl
 | byt _=>obtain ⟨t,rfl⟩:=r;rfl
 | flt _=>obtain ⟨t,rfl⟩:=r;rfl
 | ref _=>cases r;rfl
 | ty _=>cases r;rfl
variable {tA tB':TT}{rest:List Expr}
noncomputable def tAnd (t u:TT):TT:=fun σ H Q=>t σ H fun c H1=>if c=true then u σ H1 Q else Q false H1
noncomputable def tOr (t u:TT):TT:=fun σ H Q=>t σ H fun c H1=>if c=true then Q true H1 else u σ H1 Q
noncomputable def tNot (t:TT):TT:=fun σ H Q=>t σ H fun c H1=>Q (!c) H1
theorem pw_and1 (ha:PT X a tA):PW X (.BoolOp .And [a] pos) tA:=by
 intro wh pins s σ H Q I h;refine isTrue_and (thn (ha pins s σ H Q I h) fun c s1 e=>?_);cases c with
 | true=>exact isTrue_and_nil e
 | false=>exact e
theorem pw_or1 (ha:PT X a tA):PW X (.BoolOp .Or [a] pos) tA:=by
 intro wh pins s σ H Q I h;refine isTrue_or (thn (ha pins s σ H Q I h) fun c s1 e=>?_);cases c with
 | false=>exact isTrue_or_nil e
 | true=>exact e
theorem pw_and (ha:PT X a tA) (hb:PW X (.BoolOp .And (b::rest) pos) tB'):PW X (.BoolOp .And (a::b::rest) pos) (tAnd tA tB'):=by
 intro wh pins s σ H Q I h;refine isTrue_and (thn (ha pins s σ H _ I h) ?_);rintro c s1 ⟨H1,I1,q1⟩;cases c with
 | true=>exact hb wh pins s1 σ H1 Q I1 q1
 | false=>exact ⟨H1,I1,q1⟩
theorem pw_or (ha:PT X a tA) (hb:PW X (.BoolOp .Or (b::rest) pos) tB'):PW X (.BoolOp .Or (a::b::rest) pos) (tOr tA tB'):=by
 intro wh pins s σ H Q I h;refine isTrue_or (thn (ha pins s σ H _ I h) ?_);rintro c s1 ⟨H1,I1,q1⟩;cases c with
 | true=>exact ⟨H1,I1,q1⟩
 | false=>exact hb wh pins s1 σ H1 Q I1 q1
theorem pt_not (ha:PT X a tA):PT X (.UnaryOp .Not a pos) (tNot tA):=by
 intro pins s σ H Q I h;exact isTrue_not (ha pins s σ H (fun c H1=>Q (!c) H1) I h)
noncomputable def tAndV (ta tb:TE):TE:=fun σ H Q=>ta σ H fun x H1=>∃ c,x=.bl c∧if c=true then tb σ H1 Q else Q (.bl false) H1
noncomputable def tOrV (ta tb:TE):TE:=fun σ H Q=>ta σ H fun x H1=>∃ c,x=.bl c∧if c=true then Q (.bl true) H1 else tb σ H1 Q
noncomputable def tNotV (ta:TE):TE:=fun σ H Q=>ta σ H fun x H1=>∃ c,x=.bl c∧Q (.bl (!c)) H1
theorem pe_one {op}{t:TE}(h:PE X a t):PE X (.BoolOp op [a] pos) t:=fun pins s σ H Q I hw=>BoolOp_one (h pins s σ H Q I hw)
theorem pe_and (ha:PE X a ta) (hb:PE X (.BoolOp .And (b::rest) pos) tb):PE X (.BoolOp .And (a::b::rest) pos) (tAndV ta tb):=by
 intro pins s σ H Q I h;refine BoolOp_and (thn (ha pins s σ H _ I h) ?_);rintro v s1 ⟨x,H1,I1,r1,q1⟩;obtain ⟨c,rfl,q1⟩:=q1;cases r1;refine wpAny_truthy_bool ?_;cases c with
 | true=>exact hb pins s1 σ H1 Q I1 q1
 | false=>exact ⟨.bl false,H1,I1,rfl,q1⟩
theorem pe_or (ha:PE X a ta) (hb:PE X (.BoolOp .Or (b::rest) pos) tb):PE X (.BoolOp .Or (a::b::rest) pos) (tOrV ta tb):=by
 intro pins s σ H Q I h;refine BoolOp_or (thn (ha pins s σ H _ I h) ?_);rintro v s1 ⟨x,H1,I1,r1,q1⟩;obtain ⟨c,rfl,q1⟩:=q1;cases r1;refine wpAny_truthy_bool ?_;cases c with
 | false=>exact hb pins s1 σ H1 Q I1 q1
 | true=>exact ⟨.bl true,H1,I1,rfl,q1⟩
theorem pe_not (ha:PE X a ta):PE X (.UnaryOp .Not a pos) (tNotV ta):=by
 intro pins s σ H Q I h;refine UnaryOp_ (thn (ha pins s σ H _ I h) ?_);rintro v s1 ⟨x,H1,I1,r1,q1⟩;obtain ⟨c,rfl,q1⟩:=q1;cases r1;exact not_of (wpAny_truthy_bool ⟨.bl (!c),H1,I1,rfl,q1⟩)
noncomputable def tIf (t:TT) (ta tb:TE):TE:=fun σ H Q=>t σ H fun c H1=>if c=true then ta σ H1 Q else tb σ H1 Q
theorem pe_ifExp {c:Expr}(hc:PT X c tA) (ha:PE X a ta) (hb:PE X b tb):PE X (.IfExp c a b pos) (tIf tA ta tb):=by
 intro pins s σ H Q I h;refine wpAny_IfExp (thn (hc pins s σ H _ I h) ?_);rintro d s1 ⟨H1,I1,q1⟩;cases d with
 | true=>exact ha pins s1 σ H1 Q I1 q1
 | false=>exact hb pins s1 σ H1 Q I1 q1
end
noncomputable def SqL (K:PySem.W.Frag) (H:Hp) (a:Addr) (xs:List V):Prop :=
 Rd H a (.lst xs) ∨
  ∃ (o:Obj) (its:Array Value) (n:Nat),K.lookup a=some o∧o.cls=.type "list"∧o.dict=none∧o.data=.seq its n∧its.size≤sizeLine∧Vals xs its.toList
noncomputable def SqT (K:PySem.W.Frag) (H:Hp) (a:Addr) (xs:List V):Prop :=
 Rd H a (.tup xs) ∨
  ∃ (o:Obj) (its:Array Value) (n:Nat),K.lookup a=some o∧o.cls=.type "tuple"∧o.dict=none∧o.data=.seq its n∧its.size≤sizeLine∧Vals xs its.toList
noncomputable def absV:Value→Option V
 | .none=>some .non
 | .bool b=>some (.bl b)
 | .int i _=>some (.int i)
 | .str x _=>some (.str x)
 | .bytes b _=>some (.byt b)
 | .float b _=>some (.flt b)
 | .ref a=>some (.ref a)
 | .type n=>some (.ty n)
 | _=>none
theorem RelV.abs {x:V}{u:Value}(r:RelV x u):absV u=some x:=by
 cases x with
 | non=>cases r;rfl
 | bl _=>cases r;rfl
 | int _=>obtain ⟨t,rfl⟩:=r;rfl
 | str _=>obtain ⟨t,rfl⟩:=r;rfl
 | byt _=>obtain ⟨t,rfl⟩:=r;rfl
 | flt _=>obtain ⟨t,rfl⟩:=r;rfl
 | ref _=>cases r;rfl
 | ty _=>cases r;rfl
theorem RelV.inj {x y:V}{u:Value}(r:RelV x u) (q:RelV y u):x=y:=Option.some.inj (r.abs.symm.trans q.abs)
theorem Vals.inj {xs ys:List V}{us:List Value}(a:Vals xs us) (b:Vals ys us):xs=ys:=by
 induction a generalizing ys with
 | nil=>cases b;rfl
 | cons r t ih =>
  cases b with
  | cons r' t'=>rw [r.inj r',ih t']
section
variable {X:Cx}{pins:List (Addr×Obj)}{σ:St}{H:Hp}{s:Shared}{a:Addr}{xs ys:List V}
theorem Inv.list (I:Inv X pins σ H s) (h:SqL X.K H a xs):∃ its:List Value,Vals xs its∧PlainL s.heap a its.toArray∧xs.length≤sizeLine:=by
 rcases h with h | ⟨o,its,n,hk,hc,hd,hs,hz,r⟩
 ·obtain ⟨z,its,n,r,e⟩:=h.ok I.hok;exact ⟨its,r,⟨_,n,e,rfl,rfl,rfl⟩,z⟩
 ·refine ⟨its.toList,r,⟨o,n,I.kIn a o hk,hc,hd,by simpa using hs⟩,?_⟩;have e:=r.length;simp only [Array.length_toList] at e;omega
theorem Inv.tuple (I:Inv X pins σ H s) (h:SqT X.K H a xs):∃ its:List Value,Vals xs its∧IsTup s.heap a its.toArray∧xs.length≤sizeLine:=by
 rcases h with h | ⟨o,its,n,hk,hc,hd,hs,hz,r⟩
 ·obtain ⟨z,its,r,p⟩:=h.ok I.hok;exact ⟨its,r,p.to,z⟩
 ·refine ⟨its.toList,r,⟨o,I.kIn a o hk,hc,n,by simpa using hs⟩,?_⟩;have e:=r.length;simp only [Array.length_toList] at e;omega
theorem Inv.tupleP (I:Inv X pins σ H s) (h:SqT X.K H a xs):∃ its:List Value,Vals xs its∧TupP s.heap a its.toArray∧xs.length≤sizeLine:=by
 rcases h with h | ⟨o,its,n,hk,hc,hd,hs,hz,r⟩
 ·obtain ⟨z,its,r,p⟩:=h.ok I.hok;exact ⟨its,r,p,z⟩
 ·refine ⟨its.toList,r,⟨o,I.kIn a o hk,hc,hd,n,by simpa using hs⟩,?_⟩;have e:=r.length;simp only [Array.length_toList] at e;omega
theorem Inv.list_inj (I:Inv X pins σ H s) (h:SqL X.K H a xs) (h':SqL X.K H a ys):xs=ys:=by
 obtain ⟨its,r,⟨o,n,e,_,_,d⟩,_⟩:=I.list h;obtain ⟨its',r',⟨o',n',e',_,_,d'⟩,_⟩:=I.list h';rw [e] at e';cases e';rw [d] at d';injection d' with d1 _
 have:its=its':=by simpa using congrArg Array.toList d1
 subst this;exact r.inj r'
theorem Inv.tuple_inj (I:Inv X pins σ H s) (h:SqT X.K H a xs) (h':SqT X.K H a ys):xs=ys:=by
 obtain ⟨its,r,⟨o,e,_,n,d⟩,_⟩:=I.tuple h;obtain ⟨its',r',⟨o',e',_,n',d'⟩,_⟩:=I.tuple h';rw [e] at e';cases e';rw [d] at d';injection d' with d1 _
 have:its=its':=by simpa using congrArg Array.toList d1
 subst this;exact r.inj r'
end
noncomputable abbrev Cx.wish (X:Cx) (E:Value→Shared→Prop):Cx:={ X with xe:=E }
noncomputable abbrev Cx.nox (X:Cx):Cx:=X.wish fun _ _=>False
theorem Cx.Ok.wish {X:Cx}(ok:X.Ok) (E:Value→Shared→Prop):(X.wish E).Ok :=
 ⟨ok.mod,ok.kind,ok.glob,ok.blt,ok.above,ok.inj,ok.has,ok.cab,ok.hd,ok.frames,ok.stk,ok.exf,ok.bs,ok.bsz,ok.noex,ok.exfs,ok.funs,ok.frf⟩
theorem Cx.Ok.unwish {X:Cx}{E:Value→Shared→Prop}(ok:(X.wish E).Ok):X.Ok :=
 ⟨ok.mod,ok.kind,ok.glob,ok.blt,ok.above,ok.inj,ok.has,ok.cab,ok.hd,ok.frames,ok.stk,ok.exf,ok.bs,ok.bsz,ok.noex,ok.exfs,ok.funs,ok.frf⟩
section
variable {X:Cx}{pins:List (Addr×Obj)}{σ:St}{H:Hp}{s:Shared}{E:Value→Shared→Prop}
theorem Inv.wish (I:Inv X pins σ H s) (E:Value→Shared→Prop):Inv (X.wish E) pins σ H s:=⟨I.ok.wish E,I.os,I.bare,I.base,I.loc,I.cell,I.free,I.freeC,I.pin,I.hok,I.len⟩
theorem Inv.unwish (I:Inv (X.wish E) pins σ H s):Inv X pins σ H s:=⟨I.ok.unwish,I.os,I.bare,I.base,I.loc,I.cell,I.free,I.freeC,I.pin,I.hok,I.len⟩
theorem SP.unwish {D:Ends}{f:Flow}{s':Shared}(h:SP (X.wish E) pins D f s'):SP X pins D f s':=by
 cases f with
 | next=>obtain ⟨σ',H',I,q⟩:=h;exact ⟨σ',H',I.unwish,q⟩
 | brk=>obtain ⟨σ',H',I,q⟩:=h;exact ⟨σ',H',I.unwish,q⟩
 | cont=>obtain ⟨σ',H',I,q⟩:=h;exact ⟨σ',H',I.unwish,q⟩
 | ret u=>obtain ⟨v,σ',H',I,r,q⟩:=h;exact ⟨v,σ',H',I.unwish,r,q⟩
theorem PT.nox {e:Expr}{t:TT}(h:PT X.nox e t):PT X e t:=fun pins s σ H Q I hw =>
 wpAny_mono (h pins s σ H Q (I.wish _) hw) (fun _ _ ⟨H',I',q⟩=>⟨H',I'.unwish,q⟩) fun _ _ z=>False.elim z
theorem PSs.nox {st:List Stmt}{t:TS}(h:PSs X.nox st t):PSs X st t:=fun pins s σ H D I hw =>
 wpAny_mono (h pins s σ H D (I.wish _) hw) (fun _ _ q=>q.unwish) fun _ _ z=>False.elim z
end
section
variable {X:Cx}{st:Stmt}{rest:List Stmt}{t u:TS}{e:Expr}{te:TE}{pos:Pos}
noncomputable def tNext:TS:=fun D σ H=>D.nx σ H
noncomputable def tSeq (t u:TS):TS:=fun D σ H=>t { D with nx:=u D } σ H
theorem pss_nil:PSs X [] tNext:=fun _ _ σ H _ I h=>wpAny_execs_nil ⟨σ,H,I,h⟩
theorem pss_cons (h1:PS X st t) (h2:PSs X rest u):PSs X (st::rest) (tSeq t u):=by
 intro pins s σ H D I h;refine wpAny_execs_cons (thn (h1 pins s σ H { D with nx:=u D } I h) fun f s1 q=>?_);cases f with
 | next =>
  obtain ⟨σ',H',I',q⟩:=q;exact h2 pins s1 σ' H' D I' q
 | ret v=>exact q
 | brk=>exact q
 | cont=>exact q
noncomputable def tBreak:TS:=fun D σ H=>D.bk σ H
noncomputable def tCont:TS:=fun D σ H=>D.ct σ H
theorem ps_pass:PS X (.Pass pos) tNext:=fun _ _ σ H _ I h=>wpAny_Pass ⟨σ,H,I,h⟩
theorem ps_break:PS X (.Break pos) tBreak:=fun _ _ σ H _ I h=>wpAny_Break ⟨σ,H,I,h⟩
theorem ps_continue:PS X (.Continue pos) tCont:=fun _ _ σ H _ I h=>wpAny_Continue ⟨σ,H,I,h⟩
theorem Inv.quiet {pins:List (Addr×Obj)}{σ:St}{H:Hp}{s:Shared}(I:Inv X pins σ H s):interactive X.env=false:=by simp [interactive,I.ok.kind]
noncomputable def tDrop (te:TE):TS:=fun D σ H=>te σ H fun _ H1=>D.nx σ H1
theorem ps_expr (he:PE X e te) (hs:swapsWith e none pos.line X.env=pure false:=by rfl):PS X (.Expr e pos) (tDrop te):=by
 intro pins s σ H D I h;exact wpAny_Expr_any (thn (he pins s σ H _ I h) fun v s1 ⟨x,H1,I1,r1,q1⟩=>⟨σ,H1,I1,q1⟩) I.quiet hs
noncomputable def tRet (te:TE):TS:=fun D σ H=>te σ H D.rt
theorem ps_ret (he:PE X e te):PS X (.Return (some e) pos) (tRet te):=by
 intro pins s σ H D I h;refine wpAny_Return_some (thn (he pins s σ H _ I h) ?_);rintro v s1 ⟨x,H1,I1,r1,q1⟩;exact ⟨x,σ,H1,I1,r1,q1⟩
noncomputable def tRetN:TS:=fun D _ H=>D.rt .non H
theorem ps_retN:PS X (.Return none pos) tRetN:=fun _ _ σ H _ I h=>wpAny_Return_none ⟨.non,σ,H,I,rfl,h⟩
noncomputable def tIfS (c:TT) (t u:TS):TS:=fun D σ H=>c σ H fun b H1=>if b=true then t D σ H1 else u D σ H1
theorem ps_if {c:Expr}{a b:List Stmt}{tc:TT}(hc:PT X c tc) (ha:PSs X a t) (hb:PSs X b u):PS X (.If c a b pos) (tIfS tc t u):=by
 intro pins s σ H D I h;refine wpAny_If (thn (hc pins s σ H _ I h) ?_);rintro d s1 ⟨H1,I1,q1⟩;cases d with
 | true=>exact ha pins s1 σ H1 D I1 q1
 | false=>exact hb pins s1 σ H1 D I1 q1
end
noncomputable abbrev TG:=V→St→Hp→(St→Hp→Prop)→Prop
noncomputable abbrev TGs:=List V→St→Hp→(St→Hp→Prop)→Prop
noncomputable def PG (X:Cx) (target:Expr) (t:TG):Prop :=
 ∀ (pins:List (Addr×Obj)) (s:Shared) (σ:St) (H:Hp) (v:V) (u:Value) (Q:St→Hp→Prop),Inv X pins σ H s→RelV v u→t v σ H Q →
  wpAny (model X.prog X.w) X.A (assign target X.env u) (fun _ s'=>∃ σ' H',Inv X pins σ' H' s'∧Q σ' H') X.xe s
noncomputable def PGs (X:Cx) (ts:List Expr) (t:TGs):Prop :=
 ∀ (pins:List (Addr×Obj)) (s:Shared) (σ:St) (H:Hp) (vs:List V) (us:List Value) (Q:St→Hp→Prop),Inv X pins σ H s→Vals vs us→t vs σ H Q →
  wpAny (model X.prog X.w) X.A (assignInOrder ((assignEach ts X.env).map (·.2)) us) (fun _ s'=>∃ σ' H',Inv X pins σ' H' s'∧Q σ' H') X.xe s
noncomputable abbrev TSet:=V→V→V→Hp→(Hp→Prop)→Prop
noncomputable def PSet (X:Cx) (t:TSet):Prop :=
 ∀ (pins:List (Addr×Obj)) (s:Shared) (σ:St) (H:Hp) (o i v:V) (ov iv u:Value) (Q:Hp→Prop),Inv X pins σ H s→RelV o ov→RelV i iv→RelV v u→t o i v H Q →
  wpAny (model X.prog X.w) X.A (setItem ov iv u) (fun _ s'=>∃ H',Inv X pins σ H' s'∧Q H') X.xe s
section
variable {X:Cx}{pos:Pos}
noncomputable def gName (i:Nat):TG:=fun v σ H Q=>Q (σ.set i (some v)) H
theorem pg_name {i:Nat}{x:Str}(hN:X.N.Nodup) (hi:X.N[i]?=some x) (hx:Loc X.env.scope x) (hf:X.fn x=true∨X.env.scope.names.lookup x=some .local:=by first | exact .inl rfl | exact .inr rfl | assumption):PG X (.Name x pos) (gName i):=by
 intro pins s σ H v u Q I r h;exact wpAny_assign_Name (store_ok I hN hi hx r (fun s' I'=>⟨_,H,I',h⟩) hf)
noncomputable def gNil:TGs:=fun vs σ H Q=>vs=[]∧Q σ H
noncomputable def gCons (t:TG) (u:TGs):TGs:=fun vs σ H Q=>∃ v r,vs=v::r∧t v σ H fun σ' H'=>u r σ' H' Q
theorem pgs_nil:PGs X [] gNil:=by
 intro pins s σ H vs us Q I r h;obtain ⟨e,h⟩:=h;subst e;cases r;exact assignInOrder_nil ⟨σ,H,I,h⟩
theorem pgs_cons {e:Expr}{es:List Expr}{t:TG}{u:TGs}(h1:PG X e t) (h2:PGs X es u)
  (hs:(assignEach (e::es) X.env).map (·.2)=assign e X.env::(assignEach es X.env).map (·.2):=by rfl):PGs X (e::es) (gCons t u):=by
 intro pins s σ H vs us Q I r h;obtain ⟨v,vr,e1,h⟩:=h;subst e1;cases r with
 | cons r rr =>
  rw [hs];refine assignInOrder_cons (thn (h1 pins s σ H _ _ _ I r h) ?_);rintro _ s1 ⟨σ1,H1,I1,q1⟩;exact h2 pins s1 σ1 H1 _ _ Q I1 rr q1
noncomputable def gTup (K:PySem.W.Frag) (n:Nat) (t:TGs):TG:=fun v σ H Q=>∃ a xs,v=.ref a∧SqT K H a xs∧xs.length=n∧t xs σ H Q
theorem pg_tup {es:List Expr}{k:Nat}{t:TGs}{n:Nat}(hc:X.calm=true) (h:PGs X es t)
  (hn:(assignEach es X.env).length=n:=by rfl) (hst:(assignEach es X.env).findIdx? (·.1)=none:=by rfl):PG X (.Tuple es k pos) (gTup X.K n t):=by
 intro pins s σ H v u Q I r hw;obtain ⟨a,xs,e1,hq,hl,hw⟩:=hw;subst e1;cases r;obtain ⟨its,rv,ht,hz⟩:=I.tuple hq;refine assign_Tuple_tuple (I.ok.hd hc) ht (by simp [hn,← hl,rv.length]) hst fun h' hx=>?_
 have I1:Inv X pins σ H { s with heap:=h' }:=I.kept (t':=s.toks) fun b o e=>hx b o (Nat.ne_of_lt (Heap.lt_size e)) e
 exact h pins _ σ H xs _ Q I1 (by simpa using rv) hw
noncomputable def gSub (to ti:TE) (t:TSet):TG:=fun v σ H Q=>to σ H fun o H1=>ti σ H1 fun i H2=>t o i v H2 fun H3=>Q σ H3
theorem pg_sub {o i:Expr}{to ti:TE}{t:TSet}(ho:PE X o to) (hi:PE X i ti) (hs:PSet X t)
  (ha:∀ v,assign (.Subscript o i pos) X.env v=(do
   let ov ← holding [v] (eval o X.env)
   let iv ← holding [v,ov] (eval i X.env)
   standAt pos
   holding [v,ov,iv] (setItem ov iv v)
   release [v,ov,iv] []):=by intro _;rfl):PG X (.Subscript o i pos) (gSub to ti t):=by
 intro pins s σ H v u Q I r h;rw [ha];refine wpAny_bind (wpAny_holding (thn (ho pins s σ H _ I h) ?_));rintro ov s1 ⟨x,H1,I1,r1,q1⟩;refine wpAny_bind (wpAny_holding (thn (hi pins s1 σ H1 _ I1 q1) ?_));rintro iv s2 ⟨y,H2,I2,r2,q2⟩;refine wpAny_bind (wpAny_standAt (wpAny_bind (wpAny_holding (thn (hs pins s2 σ H2 x y v ov iv u _ I2 r1 r2 r q2) ?_))));rintro _ s3 ⟨H3,I3,q3⟩;exact wpAny_release ⟨σ,H3,I3,q3⟩
noncomputable def tAsg (te:TE) (g:TG):TS:=fun D σ H=>te σ H fun x H1=>g x σ H1 D.nx
theorem ps_asg {tg e:Expr}{te:TE}{g:TG}(he:PE X e te) (hg:PG X tg g) (hs:swapsWithSole [tg] e pos.line X.env=pure false:=by rfl) (hw:swappedStores [tg] e X.env=pure none:=by rfl)
  (h1:(assignEach [tg] X.env).map (·.2)=[assign tg X.env]:=by rfl):PS X (.Assign [tg] e pos) (tAsg te g):=by
 intro pins s σ H D I h;refine wpAny_Assign_stores (thn (he pins s σ H _ I h) ?_) hs hw;rintro v s1 ⟨x,H1,I1,r1,q1⟩;rw [h1];exact thn (hg pins s1 σ H1 x v _ I1 r1 q1) fun _ s2 q=>q
noncomputable def tPar (i j:Nat) (ta:TA):TS:=fun D σ H=>ta σ H fun vs H1=>∃ v w,vs=[v,w]∧D.nx ((σ.set i (some v)).set j (some w)) H1
theorem ps_par {i j:Nat}{x y:Str}{a b:Expr}{ta:TA}{px py pt:Pos}{kt k2 pt2}(hc:X.calm=true) (hN:X.N.Nodup) (hi:X.N[i]?=some x) (hj:X.N[j]?=some y) (hij:i≠j)
  (hx:X.env.scope.names.lookup x=some .local) (hy:X.env.scope.names.lookup y=some .local) (ha:PA X [a,b] ta)
  (hw:swappedStores [.Tuple [.Name x px,.Name y py] kt pt] (.Tuple [a,b] k2 pt2) X.env=pure (some [x,y]))
  (hs:swapsWithSole [.Tuple [.Name x px,.Name y py] kt pt] (.Tuple [a,b] k2 pt2) pos.line X.env=pure false:=by rfl) :
  PS X (.Assign [.Tuple [.Name x px,.Name y py] kt pt] (.Tuple [a,b] k2 pt2) pos) (tPar i j ta):=by
 intro pins s σ H D I h;rw [exec_Assign_arm];refine wpAny_bind (wpAny_standAt ?_);rw [hs];refine wpAny_bind (wpAny_pure ?_);rw [if_neg (by decide)];refine wpAny_bind (Tuple_ (thn (ha _ pins s σ H _ I h) ?_));rintro us s1 ⟨vs,H1,I1,r1,q1⟩;obtain ⟨v,w,e1,q1⟩:=q1;subst e1;obtain ⟨u1,u2,rfl,rv,rw'⟩:∃ u1 u2,us=[u1,u2]∧RelV v u1∧RelV w u2:=by
  cases r1 with
  | cons p q =>
   cases q with
   | cons p' q' =>
    cases q';exact ⟨_,_,rfl,p,p'⟩
 refine wpAny_newObj_type ?_ (by show 2≤sizeLine;decide)
 have I2:Inv X pins σ H1 { s1 with heap:=s1.heap.push { cls:=.type "tuple",data:=.seq [u1,u2].toArray } }:=I1.kept (t':=s1.toks) fun b o e=>Heap.get?_push_of_some _ e
 rw [hw];refine wpAny_bind (wpAny_pure ?_)
 show wpAny (model X.prog X.w) X.A (do rule "assign.swapped-stores";let items ← unpackItems (.ref s1.heap.objs.size) 2 none;assignInOrder [fun v=>bindName X.env y v,fun v=>bindName X.env x v] items.reverse;pure Flow.next) _ _ _;refine wpAny_bind (wpAny_rule (wpAny_bind (unpackItems_tuple (items:=#[u1,u2]) (I.ok.hd hc) (IsTup.new s1.heap _) fun h' hx'=>?_)));have I3:=I2.kept (h':=h') (t':=s1.toks) fun b o e=>hx' b o (Nat.ne_of_lt (Heap.lt_size e)) e
 show wpAny _ _ (assignInOrder [fun v=>bindName X.env y v,fun v=>bindName X.env x v] [u2,u1] >>= fun _=>pure Flow.next) _ _ _;refine wpAny_bind (assignInOrder_cons (wpAny_bindName (store_ok I3 hN hj (.inl hy) rw' (fun s2 I4=>?_) (.inr hy))));refine assignInOrder_cons (wpAny_bindName (store_ok I4 hN hi (.inl hx) rv (fun s3 I5=>assignInOrder_nil (wpAny_pure ?_)) (.inr hx)));rw [List.set_comm _ _ (Ne.symm hij)] at I5;exact ⟨_,H1,I5,q1⟩
end
section
variable {X:Cx}{pos:Pos}
end
structure It where
 go:Nat→Hp→Prop
 yld:Nat→Hp→V→Hp→Prop
 stop:Nat→Hp→Prop
noncomputable def FpOk (X:Cx) (pins:List (Addr×Obj)) (H:Hp) (b:Addr):Prop :=
 H b=none∧b≠X.env.locals∧b ∉ X.fs∧(b∈X.ex∨X.s₀.heap.objs.size≤b)∧(∀ x c,X.env.cells.lookup x=some c→c≠b)∧∀ p∈X.pn++pins,p.1≠b
theorem Inv.fpOk {X:Cx}{pins:List (Addr×Obj)}{σ:St}{H H':Hp}{s:Shared}{b:Addr}(I:Inv X pins σ H s) (hb:s.heap.objs.size≤b) (hn:H' b=none):FpOk X pins H' b:=by
 refine ⟨hn,Nat.ne_of_gt (Nat.lt_of_lt_of_le I.lt hb),I.nofs hb,.inr (Nat.le_trans I.sz hb),fun x c e z=>?_,fun p hp z=>?_⟩
 ·obtain ⟨v,q⟩:=I.cell x c e;exact absurd (Nat.lt_of_lt_of_le q.lt (by rw [z];exact hb)) (Nat.lt_irrefl _)
 ·exact absurd (Nat.lt_of_lt_of_le (Heap.lt_size (I.pin p hp).1) (by rw [z];exact hb)) (Nat.lt_irrefl _)
structure Turn (P:Program) (w:World) (K:PySem.W.Frag) (tg:Expr) (J:It) (fp:List Addr) (it:Addr) (tn:Nat→Heap→Prop):Prop where
 mem:it∈fp
 obj:∀ i h,tn i h→∀ b∈fp,∃ o,h.get? b=some o∧∀ v,o.data≠.cell v
 keep:∀ i h h',tn i h→(∀ b∈fp,∀ o,h.get? b=some o→h'.get? b=some o)→tn i h'
 item:∀ (X:Cx),X.prog=P→X.w=w→X.K=K→X.calm=true→∀ (i:Nat) (pins:List (Addr×Obj)) (s:Shared) (σ:St) (H:Hp) (E:Value→Shared→Prop),Inv X pins σ H s→(∀ b∈fp,FpOk X pins H b)→tn i s.heap→J.go i H →
  wpAny (model P w) X.A (pyNext (.ref it)) (fun r s1=>∃ u,r=some u ∧
   wpAny (model P w) X.A (letOwnedTupleGo tg (.ref it) u) (fun _ s2=>∃ x H',Inv X pins σ H' s2∧RelV x u∧J.yld i H x H'∧tn (i+1) s2.heap∧∀ b∈fp,H' b=none) E s1) E s
 done:∀ (X:Cx),X.prog=P→X.w=w→X.K=K→X.calm=true→∀ (i:Nat) (pins:List (Addr×Obj)) (s:Shared) (σ:St) (H:Hp) (E:Value→Shared→Prop),Inv X pins σ H s→(∀ b∈fp,FpOk X pins H b)→tn i s.heap→J.stop i H →
  wpAny (model P w) X.A (pyNext (.ref it)) (fun r s1=>r=none∧Inv X pins σ H s1) E s
 self:∀ (A:Around) (i:Nat) (s:Shared) (Q:Value→Shared→Prop) (E:Value→Shared→Prop),tn i s.heap→Q (.ref it) s→wpAny (model P w) A (pyIter (.ref it)) Q E s
noncomputable abbrev TI:=St→Hp→(It→Hp→Prop)→Prop
noncomputable def PIE (X:Cx) (pins:List (Addr×Obj)) (σ:St) (tg:Expr) (R:It→Hp→Prop) (itv:Value) (s2:Shared):Prop :=
 ∃ (it:Addr) (fp:List Addr) (tn:Nat→Heap→Prop) (J:It) (H':Hp),itv=.ref it∧Inv X pins σ H' s2∧Turn X.prog X.w X.K tg J fp it tn∧tn 0 s2.heap∧(∀ b∈fp,FpOk X pins H' b)∧R J H'
noncomputable def PI (X:Cx) (tg iter:Expr) (wi:TI):Prop :=
 ∀ (pins:List (Addr×Obj)) (s:Shared) (σ:St) (H:Hp) (R:It→Hp→Prop),Inv X pins σ H s→wi σ H R →
  wpAny (model X.prog X.w) X.A (eval iter X.env) (fun v s1=>wpAny (model X.prog X.w) X.A (pyIter v) (PIE X pins σ tg R) X.xe s1) X.xe s
theorem go_of {M:Model}{A:Around}{E:Value→Shared→Prop}{s:Shared}{tg:Expr}{it:Addr}{u:Value}{o:Obj}{n:String}{vs:Array Value}{Q:Unit→Shared→Prop}(ho:s.heap.get? it=some o) (hc:o.cls=.type n) (hd:o.data=.fields vs)
    (hn:["enumerate", "zip", "dict_itemiterator", "dict_reverseitemiterator", "odict_iterator", "itertools.zip_longest", "itertools.pairwise"].contains n=false) (hQ:Q () s):wpAny M A (letOwnedTupleGo tg (.ref it) u) Q E s:=by
  unfold letOwnedTupleGo;cases tg <;> first
    | exact wpAny_pure hQ
    | (cases u <;> first
        | exact wpAny_pure hQ
        | (refine wpAny_bind (wpAny_load ho ?_)
           rw [hc,hd]
           show wpAny M A (if (["enumerate", "zip", "dict_itemiterator", "dict_reverseitemiterator", "odict_iterator", "itertools.zip_longest", "itertools.pairwise"].contains n&&vs[0]?==some (rawInt _))=true then _ else _) Q E s;rw [if_neg (by intro h;rw [hn,Bool.false_and] at h;cases h)]
           exact wpAny_pure hQ))
noncomputable def Itl (K:PySem.W.Frag) (a:Addr):It :=
 ⟨fun i H=>∃ xs x,SqL K H a xs∧xs[i]?=some x,fun i H x H'=>H'=H∧∀ xs,SqL K H a xs→xs[i]?=some x,fun i H=>∃ xs,SqL K H a xs∧xs.length≤i⟩
noncomputable def Itt (K:PySem.W.Frag) (a:Addr):It :=
 ⟨fun i H=>∃ xs x,SqT K H a xs∧xs[i]?=some x,fun i H x H'=>H'=H∧∀ xs,SqT K H a xs→xs[i]?=some x,fun i H=>∃ xs,SqT K H a xs∧xs.length≤i⟩
noncomputable def Itr (lo:Int) (n:Nat):It:=⟨fun i _=>i < n,fun i H x H'=>H'=H∧x=.int (lo+i),fun i _=>n≤i⟩
theorem turn_list {P:Program}{w:World}{K:PySem.W.Frag}{tg:Expr}(a it:Addr):Turn P w K tg (Itl K a) [it] it (fun i h=>h.IsListIter it a i) where
 mem:=by simp
 obj:=fun i h st b hb=>by
  have e:b=it:=by simpa using hb
  subst e;obtain ⟨o,e,c,d⟩:=st;exact ⟨o,e,fun v z=>by rw [d] at z;cases z⟩
 keep:=fun i h h' st k=>st.at fun o e=>k it (by simp) o e
 item:=by
  intro X hP hw hK hc i pins s σ H E I hf st hg;subst hP hw hK;obtain ⟨xs,x,hq,hx⟩:=hg;obtain ⟨its,rv,p,hz⟩:=I.list hq;obtain ⟨u,hu,ru⟩:=rv.get hx;obtain ⟨f0,f1,f2,f3,f4,f5⟩:=hf it (by simp);refine wpAny_pyNext_list_item st p.isList (x:=u) (by simpa using hu) fun h' st' sb=>?_
  have I1:Inv X pins σ H { s with heap:=h' }:=I.turned (t':=s.toks) (fun b o hb e=>(sb.2 b hb).trans e) f0 f1 f3 f4 f5;obtain ⟨o,e,c,d⟩:=id st';exact ⟨u,rfl,go_of (s:={ s with heap:=h' }) e c d (by decide) ⟨x,H,I1,ru,⟨rfl,fun ys hy=>by rw [I.list_inj hy hq];exact hx⟩,st',fun b hb=>(hf b hb).1⟩⟩
 done:=by
  intro X hP hw hK hc i pins s σ H E I hf st hg;subst hP hw hK;obtain ⟨xs,hq,hx⟩:=hg;obtain ⟨its,rv,p,hz⟩:=I.list hq;obtain ⟨f0,f1,f2,f3,f4,f5⟩:=hf it (by simp);have hl:=rv.length;exact wpAny_pyNext_list_end (I.ok.hd hc) st p.isList (by simp;omega) fun h' eb=>⟨rfl,I.turned (t':=s.toks) (fun b o hb e=>eb b o hb e) f0 f1 f3 f4 f5⟩
 self:=fun _ _ _ _ _ st h=>wpAny_pyIter_listiter st h
theorem turn_tuple {P:Program}{w:World}{K:PySem.W.Frag}{tg:Expr}(a it:Addr):Turn P w K tg (Itt K a) [it] it (fun i h=>h.IsTupleIter it a i) where
 mem:=by simp
 obj:=fun i h st b hb=>by
  have e:b=it:=by simpa using hb
  subst e;obtain ⟨o,e,c,d⟩:=st;exact ⟨o,e,fun v z=>by rw [d] at z;cases z⟩
 keep:=fun i h h' st k=>st.at fun o e=>k it (by simp) o e
 item:=by
  intro X hP hw hK hc i pins s σ H E I hf st hg;subst hP hw hK;obtain ⟨xs,x,hq,hx⟩:=hg;obtain ⟨its,rv,p,hz⟩:=I.tuple hq;obtain ⟨u,hu,ru⟩:=rv.get hx;obtain ⟨f0,f1,f2,f3,f4,f5⟩:=hf it (by simp);refine wpAny_pyNext_tuple_item st (show s.heap.IsTuple a its.toArray from p) (x:=u) (by simpa using hu) fun h' st' sb=>?_
  have I1:Inv X pins σ H { s with heap:=h' }:=I.turned (t':=s.toks) (fun b o hb e=>(sb.2 b hb).trans e) f0 f1 f3 f4 f5;obtain ⟨o,e,c,d⟩:=id st';exact ⟨u,rfl,go_of (s:={ s with heap:=h' }) e c d (by decide) ⟨x,H,I1,ru,⟨rfl,fun ys hy=>by rw [I.tuple_inj hy hq];exact hx⟩,st',fun b hb=>(hf b hb).1⟩⟩
 done:=by
  intro X hP hw hK hc i pins s σ H E I hf st hg;subst hP hw hK;obtain ⟨xs,hq,hx⟩:=hg;obtain ⟨its,rv,p,hz⟩:=I.tuple hq;obtain ⟨f0,f1,f2,f3,f4,f5⟩:=hf it (by simp);have hl:=rv.length;exact wpAny_pyNext_tuple_end (I.ok.hd hc) st (show s.heap.IsTuple a its.toArray from p) (by simp;omega) fun h' eb=>⟨rfl,I.turned (t':=s.toks) (fun b o hb e=>eb b o hb e) f0 f1 f3 f4 f5⟩
 self:=fun _ _ _ _ _ st h=>wpAny_pyIter_tupleiter st h
theorem turn_range {P:Program}{w:World}{K:PySem.W.Frag}{tg:Expr}(it:Addr) (lo:Int) (n:Nat):Turn P w K tg (Itr lo n) [it] it (fun i h=>IsRangeIter h it (lo+(i:Nat) * 1) ((n:Int) - (i:Nat)) 1) where
 mem:=by simp
 obj:=fun i h st b hb=>by
  have e:b=it:=by simpa using hb
  subst e
  exact ⟨_,st,fun v z=>by
   have z':Data.fields _=Data.cell v:=z
   cases z'⟩
 keep:=fun i h h' st k=>k it (by simp) _ st
 item:=by
  intro X hP hw hK hc i pins s σ H E I hf st hg;subst hP hw hK;obtain ⟨f0,f1,f2,f3,f4,f5⟩:=hf it (by simp);have W:=Walks.range (prog:=X.prog) (w:=X.w) (I.ok.hd hc) it lo 1 n;refine W.item i s _ _ hg st fun v h' tk hv st' kk=>?_
  obtain ⟨t,rfl⟩:=hv;have I1:Inv X pins σ H { s with heap:=h',toks:=tk }:=I.turned (fun b o hb e=>kk b o (by simpa using hb) e) f0 f1 f3 f4 f5
  refine ⟨_,rfl,go_of (s:={ s with heap:=h',toks:=tk }) (n := "range_iterator") st' rfl rfl (by decide) ⟨.int (lo+i),H,I1,⟨t,?_⟩,⟨rfl,rfl⟩,st',fun b hb=>(hf b hb).1⟩⟩;rw [Int.mul_one]
 done:=by
  intro X hP hw hK hc i pins s σ H E I hf st hg;subst hP hw hK;obtain ⟨f0,f1,f2,f3,f4,f5⟩:=hf it (by simp);exact wpAny_pyNext_range_end (I.ok.hd hc) st (by have:n≤i:=hg;omega) fun h' eb=>⟨rfl,I.turned (t':=s.toks) (fun b o hb e=>eb b o hb e) f0 f1 f3 f4 f5⟩
 self:=fun _ _ _ _ _ st h=>wpAny_pyIter_rangeiter st h
section
variable {X:Cx}{tg:Expr}
noncomputable def iList (K:PySem.W.Frag) (tl:TE):TI:=fun σ H R=>tl σ H fun x H1=>∃ a,x=.ref a∧(∃ xs,SqL K H1 a xs)∧R (Itl K a) H1
noncomputable def iTup (K:PySem.W.Frag) (tl:TE):TI:=fun σ H R=>tl σ H fun x H1=>∃ a,x=.ref a∧(∃ xs,SqT K H1 a xs)∧R (Itt K a) H1
theorem pi_list {l:Expr}{tl:TE}(hl:PE X l tl):PI X tg l (iList X.K tl):=by
 intro pins s σ H R I h;refine thn (hl pins s σ H _ I h) ?_;rintro v s1 ⟨x,H1,I1,r1,q1⟩;obtain ⟨a,e,⟨xs,hq⟩,q⟩:=q1;subst e;cases r1;obtain ⟨its,rv,p,hz⟩:=I1.list hq;refine wpAny_pyIter_list p.isList ?_;refine ⟨s1.heap.objs.size,[s1.heap.objs.size],_,_,H1,rfl,I1.kept (t':=s1.toks) fun b o e=>Heap.get?_push_of_some _ e,turn_list a _,⟨_,Heap.get?_push_size _ rfl,rfl,rfl⟩,fun b hb=>?_,q⟩;have e:b=s1.heap.objs.size:=by simpa using hb
 subst e;exact I1.fpOk (Nat.le_refl _) (I1.hok.fresh (Nat.le_refl _))
theorem pi_tup {l:Expr}{tl:TE}(hl:PE X l tl):PI X tg l (iTup X.K tl):=by
 intro pins s σ H R I h;refine thn (hl pins s σ H _ I h) ?_;rintro v s1 ⟨x,H1,I1,r1,q1⟩;obtain ⟨a,e,⟨xs,hq⟩,q⟩:=q1;subst e;cases r1;obtain ⟨its,rv,p,hz⟩:=I1.tuple hq;refine wpAny_pyIter_tuple (show s1.heap.IsTuple a its.toArray from p) ?_;refine ⟨s1.heap.objs.size,[s1.heap.objs.size],_,_,H1,rfl,I1.kept (t':=s1.toks) fun b o e=>Heap.get?_push_of_some _ e,turn_tuple a _,⟨_,Heap.get?_push_size _ rfl,rfl,rfl⟩,fun b hb=>?_,q⟩;have e:b=s1.heap.objs.size:=by simpa using hb
 subst e;exact I1.fpOk (Nat.le_refl _) (I1.hok.fresh (Nat.le_refl _))
theorem range_it {pins:List (Addr×Obj)}{σ:St}{H:Hp}{s:Shared}{R:It→Hp→Prop}{E:Value→Shared→Prop}{lo hi:Int}{t u v:Tok}{tk:Nat}(I:Inv X pins σ H s) (h1:-(2 ^ 62)≤lo) (h2:lo < 2 ^ 62) (h3:-(2 ^ 62)≤hi) (h4:hi < 2 ^ 62)
  (q:R (Itr lo (hi - lo).toNat) H):wpAny (model X.prog X.w) X.A (pyIter (.ref s.heap.objs.size)) (PIE X pins σ tg R) E { s with heap:=s.heap.push { cls:=.type "range",data:=.fields #[.int lo t,.int hi u,.int 1 v] },toks:=tk }:=by
 refine wpAny_pyIter_range (IsRange.new ..) (small_one h1 h2 h3 h4) ?_
 have I1:Inv X pins σ H { s with heap:=s.heap.push { cls:=.type "range",data:=.fields #[.int lo t,.int hi u,.int 1 v] },toks:=tk }:=I.kept fun b o e=>Heap.get?_push_of_some _ e
 refine ⟨(s.heap.push { cls:=.type "range",data:=.fields #[.int lo t,.int hi u,.int 1 v] }).objs.size,[(s.heap.push { cls:=.type "range",data:=.fields #[.int lo t,.int hi u,.int 1 v] }).objs.size],_,_,H,rfl,
  I1.kept (t':=tk) fun b o e=>Heap.get?_push_of_some _ e,turn_range _ lo (hi - lo).toNat,?_,fun b hb=>?_,q⟩
 ·have e1:lo+((0:Nat):Int) * 1=lo:=by simp
  have e2:(((hi - lo).toNat:Nat):Int) - ((0:Nat):Int)=Builtin.Range.rangeSize lo hi 1:=by rw [rangeSize_one];split <;> omega
  show IsRangeIter _ _ (lo+((0:Nat):Int) * 1) ((((hi - lo).toNat:Nat):Int) - ((0:Nat):Int)) 1;rw [e1,e2];exact Heap.get?_push_size _ rfl
 ·have e:b=(s.heap.push { cls:=.type "range",data:=.fields #[.int lo t,.int hi u,.int 1 v] }).objs.size:=by simpa using hb
  subst e;exact I1.fpOk (Nat.le_refl _) (I1.hok.fresh (Nat.le_refl _))
noncomputable def iRng1 (ta:TA):TI:=fun σ H R=>ta σ H fun vs H1=>∃ j:Int,vs=[.int j]∧-(2 ^ 62)≤j∧j < 2 ^ 62∧R (Itr 0 j.toNat) H1
theorem pi_range1 {a:Expr}{ta:TA}{p pos:Pos}(hg:Gl X "range") (hm:X.mg "range"=none) (ha:PA X [a] ta) (hs:starEach [a] X.env=[(false,eval a X.env)]:=by rfl):PI X tg (.Call (.Name "range" p) [a] [] pos) (iRng1 ta):=by
 intro pins s σ H R I h;refine Call_ (ld_blt I hg hm boot_range (PyProof.Rows.callWith_type1 (thn (ha pos pins s σ H _ I h) ?_) hs rfl));rintro us s1 ⟨vs,H1,I1,r1,q1⟩;obtain ⟨j,e,q1,q2,q⟩:=q1;subst e;cases r1 with
 | cons r rr =>
  cases rr;obtain ⟨t,rfl⟩:=r;exact call_range_1 (range_it I1 (by omega) (by omega) q1 q2 (by simpa using q))
noncomputable def tFor (wi:TI) (g:TG) (tb:TS):TS:=fun D σ H=>wi σ H fun J H1=>∃ W:Nat→Nat→St→Hp→Prop,(∃ m,W 0 m σ H1)∧∀ i m σ H,W i m σ H →
 (J.stop i H∧D.nx σ H)∨(J.go i H∧∃ N:St→Hp→Prop,(∀ σ' H',N σ' H'→∃ m',m' < m∧W (i+1) m' σ' H')∧∀ x H',J.yld i H x H'→g x σ H' fun σ2 H2=>tb { D with nx:=N,ct:=N,bk:=D.nx } σ2 H2)
noncomputable def pinsAt (fp:List Addr) (h:Heap):List (Addr×Obj):=fp.filterMap fun b=>(h.get? b).map fun o=>(b,o)
theorem mem_pinsAt {fp:List Addr}{h:Heap}{b:Addr}{o:Obj}(hb:b∈fp) (e:h.get? b=some o):(b,o)∈pinsAt fp h:=List.mem_filterMap.mpr ⟨b,hb,by rw [e];rfl⟩
theorem of_pinsAt {fp:List Addr}{h:Heap}{p:Addr×Obj}(hp:p∈pinsAt fp h):p.1∈fp∧h.get? p.1=some p.2:=by
 obtain ⟨b,hb,e⟩:=List.mem_filterMap.mp hp;cases q:h.get? b with
 | none=>rw [q] at e;cases e
 | some o =>
  rw [q] at e;have e':(b,o)=p:=Option.some.inj e;subst e';exact ⟨hb,q⟩
theorem Inv.pinned {pins:List (Addr×Obj)}{σ:St}{H:Hp}{s:Shared}{fp:List Addr}(I:Inv X pins σ H s) (hf:∀ b∈fp,FpOk X pins H b) (ho:∀ b∈fp,∃ o,s.heap.get? b=some o∧∀ v,o.data≠.cell v):Inv X (pins++pinsAt fp s.heap) σ H s :=
 I.pins_of fun p hp=>(List.mem_append.mp hp).elim (fun z=>I.pin p (List.mem_append_right _ z)) fun z=>by
  obtain ⟨hb,e⟩:=of_pinsAt z;obtain ⟨f0,f1,f2,_⟩:=hf p.1 hb;obtain ⟨o,e',d⟩:=ho p.1 hb;rw [e] at e';cases e';exact ⟨e,f0,f1,f2,d⟩
theorem Inv.unpinned {pins pl:List (Addr×Obj)}{σ:St}{H:Hp}{s:Shared}(I:Inv X (pins++pl) σ H s):Inv X pins σ H s:=I.pins_of fun p hp=>I.pin p (List.mem_append_right _ (List.mem_append_left _ hp))
theorem ps_for {iter:Expr}{body:List Stmt}{wi:TI}{g:TG}{tb:TS}{pos:Pos}(hp:PassesOwn (model X.prog X.w) X.A X.env X.xe) (hc:X.calm=true) (hi:PI X tg iter wi) (hg:PG X tg g) (hb:PSs X body tb)
  (hs:∀ x,foldedSetIterable iter X.env x=pure x:=by intro _;rfl):PS X (.For tg iter body [] pos) (tFor wi g tb):=by
 intro pins s σ H D I h;refine wpAny_For (thn (hi pins s σ H _ I h) fun v s1 h1=>thn h1 fun itv s2 h2=>?_) hs;obtain ⟨it,fp,tn,J,H2,e,I2,T,st2,f2,W,⟨m0,w0⟩,turn⟩:=h2;subst e
 -- what stays true of the iterator's objects through the loop
 have stat:∀ {H':Hp},(∀ b∈fp,H' b=none)→∀ b∈fp,FpOk X pins H' b:=fun hn b hb=>⟨hn b hb,(f2 b hb).2⟩
 refine codeAny_forLoop_any (fun n s'=>∃ i σ' H',Inv X pins σ' H' s'∧tn i s'.heap∧(∀ b∈fp,H' b=none)∧W i n σ' H') ?_ m0 ⟨0,σ,H2,I2,st2,fun b hb=>(f2 b hb).1,w0⟩;rintro n s3 ⟨i,σ3,H3,I3,st3,fr3,w3⟩;rcases turn i n σ3 H3 w3 with ⟨stop,qn⟩ | ⟨go,N,hN,step⟩
 ·refine wpAny_passesOwn hp (thn (T.done X rfl rfl rfl hc i pins s3 σ3 H3 X.xe I3 (stat fr3) st3 stop) ?_);rintro r s4 ⟨hr,I4⟩;subst hr;exact wpAny_execs_nil ⟨σ3,H3,I4,qn⟩
 ·refine wpAny_passesOwn hp (thn (T.item X rfl rfl rfl hc i pins s3 σ3 H3 X.xe I3 (stat fr3) st3 go) ?_);rintro r s4 ⟨u,hr,h4⟩;subst hr;refine wpAny_passesOwn hp (thn h4 ?_);rintro _ s5 ⟨x,H5,I5,r5,y5,st5,fr5⟩;have I5':=I5.pinned (stat fr5) (T.obj _ _ st5);refine wpAny_passesOwn hp (thn (hg _ s5 σ3 H5 x u _ I5' r5 (step x H5 y5)) ?_);rintro _ s6 ⟨σ6,H6,I6,q6⟩;refine wpAny_passesOwn hp (thn (hb _ s6 σ6 H6 _ I6 q6) fun f s7 q7=>?_);have again:∀ {σ7:St} {H7:Hp},Inv X (pins++pinsAt fp s5.heap) σ7 H7 s7→N σ7 H7→∃ m,m < n∧∃ i σ' H',Inv X pins σ' H' s7∧tn i s7.heap∧(∀ b∈fp,H' b=none)∧W i m σ' H':=fun {σ7 H7} I7 n7=>by
   obtain ⟨m',hm,w7⟩:=hN σ7 H7 n7;refine ⟨m',hm,i+1,σ7,H7,I7.unpinned,T.keep _ _ _ st5 fun b hb o e=>(I7.pin (b,o) (List.mem_append_right _ (List.mem_append_right _ (mem_pinsAt hb e)))).1,fun b hb=>?_,w7⟩;obtain ⟨o,e,d⟩:=T.obj _ _ st5 b hb;exact (I7.pin (b,o) (List.mem_append_right _ (List.mem_append_right _ (mem_pinsAt hb e)))).2.1
  cases f with
  | next=>obtain ⟨σ7,H7,I7,n7⟩:=q7;exact again I7 n7
  | cont=>obtain ⟨σ7,H7,I7,n7⟩:=q7;exact again I7 n7
  | brk=>obtain ⟨σ7,H7,I7,q7⟩:=q7;exact ⟨σ7,H7,I7.unpinned,q7⟩
  | ret v=>obtain ⟨x7,σ7,H7,I7,r7,q7⟩:=q7;exact ⟨x7,σ7,H7,I7.unpinned,r7,q7⟩
end
noncomputable abbrev R2:=V→V→Hp→VK→Prop
noncomputable def OpR (X:Cx) (f:Value→Value→Sem Value) (r:R2):Prop :=
 ∀ (pins:List (Addr×Obj)) (s:Shared) (σ:St) (H:Hp) (x y:V) (v u:Value) (Q:VK),Inv X pins σ H s→RelV x v→RelV y u→r x y H Q →
  wpAny (model X.prog X.w) X.A (f v u) (EP X pins σ Q) X.xe s
noncomputable def UnR (X:Cx) (f:Value→Sem Value) (r:V→Hp→VK→Prop):Prop :=
 ∀ (pins:List (Addr×Obj)) (s:Shared) (σ:St) (H:Hp) (x:V) (v:Value) (Q:VK),Inv X pins σ H s→RelV x v→r x H Q →
  wpAny (model X.prog X.w) X.A (f v) (EP X pins σ Q) X.xe s
noncomputable def CallR (X:Cx) (f:Value) (r:List V→Hp→VK→Prop):Prop :=
 ∀ (pins:List (Addr×Obj)) (s:Shared) (σ:St) (H:Hp) (xs:List V) (us:List Value) (Q:VK),Inv X pins σ H s→Vals xs us→r xs H Q →
  wpAny (model X.prog X.w) X.A (call f us) (EP X pins σ Q) X.xe s
noncomputable def TruR (X:Cx) (r:V→Hp→(Bool→Hp→Prop)→Prop):Prop :=
 ∀ (pins:List (Addr×Obj)) (s:Shared) (σ:St) (H:Hp) (x:V) (v:Value) (Q:Bool→Hp→Prop),Inv X pins σ H s→RelV x v→r x H Q →
  wpAny (model X.prog X.w) X.A (truthy v) (TP X pins σ Q) X.xe s
noncomputable def tOp (r:R2) (ta tb:TE):TE:=fun σ H Q=>ta σ H fun x H1=>tb σ H1 fun y H2=>r x y H2 Q
noncomputable def tUn (r:V→Hp→VK→Prop) (ta:TE):TE:=fun σ H Q=>ta σ H fun x H1=>r x H1 Q
noncomputable def rI (C:Int→Int→Prop) (g:Int→Int→V):R2:=fun x y H Q=>∃ i j,x=.int i∧y=.int j∧C i j∧Q (g i j) H
noncomputable def rI0 (g:Int→Int→V):R2:=fun x y H Q=>∃ i j,x=.int i∧y=.int j∧Q (g i j) H
noncomputable def rU (g:Int→V):V→Hp→VK→Prop:=fun x H Q=>∃ i,x=.int i∧Q (g i) H
section
variable {X:Cx}{a b c:Expr}{ta tb tc:TE}{pos:Pos}
theorem binT (ha:PE X a ta) (hb:PE X b tb) {pins:List (Addr×Obj)}{s:Shared}{σ:St}{H:Hp}{R:V→V→Hp→Prop}(I:Inv X pins σ H s)
  (h:ta σ H fun x H1=>tb σ H1 fun y H2=>R x y H2) {Q:Value→Shared→Prop} {f:Value→Value→Sem Value}
  (hf:∀ v u s2 x y H2,Inv X pins σ H2 s2→RelV x v→RelV y u→R x y H2→wpAny (model X.prog X.w) X.A (f v u) Q X.xe s2) :
  wpAny (model X.prog X.w) X.A (eval a X.env) (fun v s₁=>wpAny (model X.prog X.w) X.A (eval b X.env) (fun u s₂=>wpAny (model X.prog X.w) X.A (f v u) Q X.xe s₂) X.xe s₁) X.xe s:=by
 refine thn (ha pins s σ H _ I h) ?_;rintro v s1 ⟨x,H1,I1,r1,q1⟩;refine thn (hb pins s1 σ H1 _ I1 q1) ?_;rintro u s2 ⟨y,H2,I2,r2,q2⟩;exact hf v u s2 x y H2 I2 r1 r2 q2
theorem pe_op {op:Operator}{r:R2}(ho:OpR X (binaryOp op) r) (ha:PE X a ta) (hb:PE X b tb):PE X (.BinOp a op b pos) (tOp r ta tb):=by
 intro pins s σ H Q I h;exact wpAny_BinOp (binT ha hb I h fun v u s2 x y H2 I2 rx ry q=>ho pins s2 σ H2 x y v u Q I2 rx ry q)
theorem pe_un {op:UnaryOp}{r:V→Hp→VK→Prop}(ho:UnR X (unaryOp op) r) (ha:PE X a ta):PE X (.UnaryOp op a pos) (tUn r ta):=by
 intro pins s σ H Q I h;refine UnaryOp_ (thn (ha pins s σ H _ I h) ?_);rintro v s1 ⟨x,H1,I1,r1,q1⟩;exact ho pins s1 σ H1 x v Q I1 r1 q1
theorem opI {f:Value→Value→Sem Value}{C:Int→Int→Prop}{g:Int→Int→Int}
  (rule:∀ (i j:Int) (t u:Tok) (s:Shared) (Q:Value→Shared→Prop) (E:Value→Shared→Prop),C i j→Q (.int (g i j) s.toks) { s with toks:=s.toks+1 }→wpAny (model X.prog X.w) X.A (f (.int i t) (.int j u)) Q E s) :
  OpR X f (rI C fun i j=>.int (g i j)):=by
 intro pins s σ H x y v u Q I rx ry h;obtain ⟨i,j,rfl,rfl,hc,q⟩:=h;obtain ⟨t,rfl⟩:=rx;obtain ⟨t',rfl⟩:=ry;exact rule i j t t' s _ _ hc ⟨.int (g i j),H,I.tok _,⟨_,rfl⟩,q⟩
theorem opI0 {f:Value→Value→Sem Value}{g:Int→Int→Int}
  (rule:∀ (i j:Int) (t u:Tok) (s:Shared) (Q:Value→Shared→Prop) (E:Value→Shared→Prop),Q (.int (g i j) s.toks) { s with toks:=s.toks+1 }→wpAny (model X.prog X.w) X.A (f (.int i t) (.int j u)) Q E s) :
  OpR X f (rI0 fun i j=>.int (g i j)):=by
 intro pins s σ H x y v u Q I rx ry h;obtain ⟨i,j,rfl,rfl,q⟩:=h;obtain ⟨t,rfl⟩:=rx;obtain ⟨t',rfl⟩:=ry;exact rule i j t t' s _ _ ⟨.int (g i j),H,I.tok _,⟨_,rfl⟩,q⟩
theorem opB0 {f:Value→Value→Sem Value}{g:Int→Int→Bool}
  (rule:∀ (i j:Int) (t u:Tok) (s:Shared) (Q:Value→Shared→Prop) (E:Value→Shared→Prop),Q (.bool (g i j)) s→wpAny (model X.prog X.w) X.A (f (.int i t) (.int j u)) Q E s) :
  OpR X f (rI0 fun i j=>.bl (g i j)):=by
 intro pins s σ H x y v u Q I rx ry h;obtain ⟨i,j,rfl,rfl,q⟩:=h;obtain ⟨t,rfl⟩:=rx;obtain ⟨t',rfl⟩:=ry;exact rule i j t t' s _ _ ⟨.bl (g i j),H,I,rfl,q⟩
noncomputable def CPow (i j:Int):Prop:=0≤j∧j≤1000000∧i.natAbs < 2 ^ 64
noncomputable def CMul (i j:Int):Prop:=(-(2 ^ 64) < i∧i < 2 ^ 64)∨(-(2 ^ 64) < j∧j < 2 ^ 64)
theorem CMul.ok {i j:Int}(h:CMul i j):IntMulOk i j:=by
 rcases h with ⟨h1,h2⟩ | ⟨h1,h2⟩
 ·exact .of_left (intBits_le_64 h1 h2)
 ·exact .of_right (intBits_le_64 h1 h2)
theorem op_add:OpR X (binaryOp .Add) (rI0 fun i j=>.int (i+j)):=opI0 fun _ _ _ _ _ _ _ q=>add_int q
theorem op_sub:OpR X (binaryOp .Sub) (rI0 fun i j=>.int (i - j)):=opI0 fun _ _ _ _ _ _ _ q=>sub_int q
theorem op_mul:OpR X (binaryOp .Mult) (rI CMul fun i j=>.int (i * j)):=opI fun _ _ _ _ _ _ _ hc q=>mul_int q hc.ok
theorem op_modN:OpR X (binaryOp .Mod) (rI (fun _ j=>j≠0) fun i j=>.int (i.fmod j)):=opI fun _ _ _ _ _ _ _ hc q=>mod_int' hc q
theorem op_pow:OpR X (binaryOp .Pow) (rI CPow fun i j=>.int (i ^ j.toNat)):=opI fun _ _ _ _ _ _ _ hc q=>pow_int_small hc.1 hc.2.1 hc.2.2 q
theorem unI {f:Value→Sem Value}{g:Int→Int}
  (rule:∀ (i:Int) (t:Tok) (s:Shared) (Q:Value→Shared→Prop) (E:Value→Shared→Prop),Q (.int (g i) s.toks) { s with toks:=s.toks+1 }→wpAny (model X.prog X.w) X.A (f (.int i t)) Q E s) :
  UnR X f (rU fun i=>.int (g i)):=by
 intro pins s σ H x v Q I rx h;obtain ⟨i,rfl,q⟩:=h;obtain ⟨t,rfl⟩:=rx;exact rule i t s _ _ ⟨.int (g i),H,I.tok _,⟨_,rfl⟩,q⟩
theorem un_neg:UnR X (unaryOp .USub) (rU fun i=>.int (-i)):=unI fun _ _ _ _ _ q=>neg_int q
end
section
variable {X:Cx}{a b c:Expr}{ta tb tc:TE}{pos:Pos}
theorem op_lt:OpR X (compareOp .Lt) (rI0 fun i j=>.bl (decide (i < j))):=opB0 fun _ _ _ _ _ _ _ q=>lt_int q
theorem op_le:OpR X (compareOp .LtE) (rI0 fun i j=>.bl (decide (i≤j))):=opB0 fun _ _ _ _ _ _ _ q=>le_int q
theorem op_gt:OpR X (compareOp .Gt) (rI0 fun i j=>.bl (decide (j < i))):=opB0 fun _ _ _ _ _ _ _ q=>gt_int q
theorem op_ge:OpR X (compareOp .GtE) (rI0 fun i j=>.bl (decide (j≤i))):=opB0 fun _ _ _ _ _ _ _ q=>ge_int q
theorem OpR.or {f:Value→Value→Sem Value}{r r':R2}(h:OpR X f r) (h':OpR X f r'):OpR X f (fun x y H Q=>r x y H Q∨r' x y H Q):=by
 intro pins s σ H x y v u Q I rx ry q;rcases q with q | q
 ·exact h pins s σ H x y v u Q I rx ry q
 ·exact h' pins s σ H x y v u Q I rx ry q
theorem pe_cmpR {op:CmpOp}{r:R2}(ho:OpR X (compareOp op) r) (ha:PE X a ta) (hb:PE X b tb) (hm:behindInMarks op b=false):PE X (.Compare a [op] [b] pos) (tOp r ta tb):=by
 intro pins s σ H Q I h;exact wpAny_Compare1 (binT ha hb I h fun v u s2 x y H2 I2 rx ry q=>ho pins s2 σ H2 x y v u Q I2 rx ry q) hm
noncomputable def tTest (t:TE):TT:=fun σ H Q=>t σ H fun x H'=>∃ k,x=.bl k∧Q k H'
theorem pt_cmpR {op:CmpOp}{r:R2}(ho:OpR X (compareOp op) r) (ha:PE X a ta) (hb:PE X b tb) (hm:behindInMarks op b=false):PT X (.Compare a [op] [b] pos) (tTest (tOp r ta tb)):=by
 intro pins s σ H Q I h
 refine wpAny_isTrue_Compare1 (thn (ha pins s σ H _ I h) fun v s1 ⟨x,H1,I1,r1,q1⟩=>thn (hb pins s1 σ H1 _ I1 q1) fun u s2 ⟨y,H2,I2,r2,q2⟩ =>
  thn (ho pins s2 σ H2 x y v u _ I2 r1 r2 q2) fun c s3 ⟨z,H3,I3,r3,k,e,q3⟩=>?_) hm
 subst e;cases r3;exact wpAny_truthy_bool ⟨H3,I3,q3⟩
noncomputable def tChain (r r':R2) (ta tb tc:TE):TE:=fun σ H Q=>ta σ H fun x H1=>tb σ H1 fun y H2=>r x y H2 fun z H3=>∃ k,z=.bl k ∧
 (if k=true then tc σ H3 fun w' H4=>r' y w' H4 Q else Q (.bl false) H3)
theorem pe_chain {op op':CmpOp}{r r':R2}(ho:OpR X (compareOp op) r) (ho':OpR X (compareOp op') r') (ha:PE X a ta) (hb:PE X b tb) (hc:PE X c tc)
  (hm:lastMarks [op,op'] [b,c]=false:=by with_unfolding_all rfl):PE X (.Compare a [op,op'] [b,c] pos) (tChain r r' ta tb tc):=by
 intro pins s σ H Q I h
 refine Compare_chain (thn (ha pins s σ H _ I h) fun v s1 ⟨x,H1,I1,r1,q1⟩=>chain_link (thn (hb pins s1 σ H1 _ I1 q1) fun u s2 ⟨y,H2,I2,r2,q2⟩ =>
  thn (ho pins s2 σ H2 x y v u _ I2 r1 r2 q2) fun d s3 ⟨z,H3,I3,r3,k,e,q3⟩=>?_)) hm
 subst e;cases r3;refine wpAny_truthy_bool ?_;cases k with
 | false=>exact ite_ff ⟨.bl false,H3,I3,rfl,q3⟩
 | true=>exact ite_tt (chain_last (thn (hc pins s3 σ H3 _ I3 q3) fun w' s4 ⟨z',H4,I4,r4,q4⟩=>ho' pins s4 σ H4 y z' u w' Q I4 r2 r4 q4))
theorem pt_chain {op op':CmpOp}{r r':R2}(ho:OpR X (compareOp op) r) (ho':OpR X (compareOp op') r') (ha:PE X a ta) (hb:PE X b tb) (hc:PE X c tc)
  (hm:lastMarks [op,op'] [b,c]=false:=by with_unfolding_all rfl):PT X (.Compare a [op,op'] [b,c] pos) (tTest (tChain r r' ta tb tc)):=by
 intro pins s σ H Q I h
 refine isTrue_chain (thn (ha pins s σ H _ I h) fun v s1 ⟨x,H1,I1,r1,q1⟩=>test_link (thn (hb pins s1 σ H1 _ I1 q1) fun u s2 ⟨y,H2,I2,r2,q2⟩ =>
  thn (ho pins s2 σ H2 x y v u _ I2 r1 r2 q2) fun d s3 ⟨z,H3,I3,r3,k,e,q3⟩=>?_)) hm
 subst e;cases r3;refine wpAny_truthy_bool ?_;cases k with
 | false =>
  obtain ⟨k',e',q'⟩:=q3;cases e';exact ite_ff ⟨H3,I3,q'⟩
 | true =>
  refine ite_tt (test_last (thn (hc pins s3 σ H3 _ I3 q3) ?_));rintro w' s4 ⟨z',H4,I4,r4,q4⟩;refine thn (ho' pins s4 σ H4 y z' u w' _ I4 r2 r4 q4) ?_;rintro d' s5 ⟨z2,H5,I5,r5,k2,e2,q5⟩;subst e2;cases r5;exact wpAny_truthy_bool ⟨H5,I5,q5⟩
noncomputable def TruV (K:PySem.W.Frag) (x:V) (H:Hp) (k:Bool):Prop :=
 match x with
 | .non=>k=false
 | .bl b=>k=b
 | .int i=>k=(i != 0)
 | .str y=>y.length≤sizeLine∧k=((y.length:Int) != 0)
 | .byt y=>y.size≤sizeLine∧k=((y.size:Int) != 0)
 | .ref p=>(∃ xs,SqL K H p xs∧k=!xs.isEmpty)∨(∃ xs,SqT K H p xs∧k=!xs.isEmpty)∨∃ kvs,H p=some (.dK kvs)∧k=!kvs.isEmpty
 | _=>False
theorem isEmpty_kv {κ:Type}{kvs:List (κ×V)}{vs:List (κ×Value)}(r:KV kvs vs):(!vs.isEmpty)=!kvs.isEmpty:=by
 cases r <;> rfl
theorem isEmpty_of {xs:List V}{its:List Value}(r:Vals xs its):(!its.toArray.isEmpty)=!xs.isEmpty:=by
 cases r <;> simp
theorem line63:(sizeLine:Nat) < 2 ^ 63:=by rw [sizeLine_eq];decide
theorem tru_ok:TruR X (fun x H Q=>∃ k,TruV X.K x H k∧Q k H):=by
 intro pins s σ H x v Q I rx h;obtain ⟨k,e,q⟩:=h;have hl:=line63;have hs:sizeLine=16777216:=sizeLine_eq;cases x with
 | non =>
  cases rx;have e':k=false:=e;subst e';exact truthy_none ⟨H,I,q⟩
 | bl b =>
  cases rx;have e':k=b:=e;subst e';exact wpAny_truthy_bool ⟨H,I,q⟩
 | int i =>
  obtain ⟨t,rfl⟩:=rx;have e':k=(i != 0):=e;subst e';exact PySem.P.truthy_int ⟨H,I,q⟩
 | str y =>
  obtain ⟨t,rfl⟩:=rx;obtain ⟨hy,e'⟩:y.length≤sizeLine∧k=((y.length:Int) != 0):=e;subst e';exact PySem.P.truthy_str (by omega) ⟨H,I.tok _,q⟩
 | byt y =>
  obtain ⟨t,rfl⟩:=rx;obtain ⟨hy,e'⟩:y.size≤sizeLine∧k=((y.size:Int) != 0):=e;subst e';exact PySem.W.truthy_bytes (by omega) ⟨H,I.tok _,q⟩
 | ref p =>
  cases rx;have e':(∃ xs,SqL X.K H p xs∧k=!xs.isEmpty)∨(∃ xs,SqT X.K H p xs∧k=!xs.isEmpty)∨∃ kvs,H p=some (.dK kvs)∧k=!kvs.isEmpty:=e;rcases e' with ⟨xs,hx,e'⟩ | ⟨xs,hx,e'⟩ | ⟨kvs,hx,e'⟩
  ·subst e';obtain ⟨its,r,pl,hz⟩:=I.list hx;have hlen:=r.length;exact wpAny_truthy_list pl.isList (by simp only [List.size_toArray];omega) ⟨H,I.tok _,by rw [isEmpty_of r];exact q⟩
  ·subst e';obtain ⟨its,r,pl,hz⟩:=I.tuple hx;have hlen:=r.length;exact truthy_tuple pl (by simp only [List.size_toArray];omega) ⟨H,I.tok _,by rw [isEmpty_of r];exact q⟩
  ·subst e';obtain ⟨hz,hS,vs,r,m⟩:kvs.length≤sizeLine∧(p==sysModules)=false∧∃ vs,KV kvs vs∧s.heap.DictOf (mixKind X.prog X.w) p vs:=I.hok p _ hx;have hlen:kvs.length=vs.length:=Paired.length r;exact wpAny_truthy_dict hS m (by omega) ⟨H,I.tok _,by rw [isEmpty_kv r];exact q⟩
 | _=>exact (show False from e).elim
theorem pt_truth (ha:PE X a ta) (he:∀ whole,isTrue a X.env whole=(do let v ← whole;standAt a.pos;holding [v] (truthy v))) :
  PT X a (fun σ H Q=>ta σ H fun x H'=>∃ k,TruV X.K x H' k∧Q k H'):=by
 intro pins s σ H Q I h;exact isTrue_plain (thn (ha pins s σ H _ I h) fun v s1 ⟨x,H1,I1,r1,q1⟩=>tru_ok pins s1 σ H1 x v Q I1 r1 q1) (he _)
theorem op_add_str:OpR X (binaryOp .Add) (fun x y H Q=>∃ i j,x=.str i∧y=.str j∧i.length+j.length≤sizeLine∧Q (.str (i++j)) H):=by
 intro pins s σ H x y v u Q I rx ry h;obtain ⟨i,j,rfl,rfl,hz,q⟩:=h;obtain ⟨t,rfl⟩:=rx;obtain ⟨t',rfl⟩:=ry;exact add_str (fun t' tk=>⟨.str (i++j),H,I.tok _,⟨_,rfl⟩,q⟩) hz
theorem vals1 {x:V}{us:List Value}(r:Vals [x] us):∃ u,us=[u]∧RelV x u:=by
 cases r with
 | cons r1 r2=>cases r2;exact ⟨_,rfl,r1⟩
theorem vals2 {x y:V}{us:List Value}(r:Vals [x,y] us):∃ u w',us=[u,w']∧RelV x u∧RelV y w':=by
 cases r with
 | cons r1 r2 =>
  cases r2 with
  | cons r3 r4=>cases r4;exact ⟨_,_,rfl,r1,r3⟩
theorem call_max2 (hc:X.calm=true):CallR X (.builtin "max") (fun xs H Q=>∃ i j,xs=[.int i,.int j]∧Q (.int (if j > i then j else i)) H):=by
 intro pins s σ H xs us Q I r h;obtain ⟨i,j,rfl,q⟩:=h;obtain ⟨u,w',rfl,⟨t,rfl⟩,⟨t',rfl⟩⟩:=vals2 r;refine max_two_ints (I.ok.hd hc) fun h' tk k=>⟨_,H,I.kept k,?_,q⟩
 by_cases hj:j > i
 ·rw [if_pos hj,if_pos hj];exact ⟨_,rfl⟩
 ·rw [if_neg hj,if_neg hj];exact ⟨_,rfl⟩
theorem call_min2 (hc:X.calm=true):CallR X (.builtin "min") (fun xs H Q=>∃ i j,xs=[.int i,.int j]∧Q (.int (if j < i then j else i)) H):=by
 intro pins s σ H xs us Q I r h;obtain ⟨i,j,rfl,q⟩:=h;obtain ⟨u,w',rfl,⟨t,rfl⟩,⟨t',rfl⟩⟩:=vals2 r;refine min_two_ints (I.ok.hd hc) fun h' tk k=>⟨_,H,I.kept k,?_,q⟩
 by_cases hj:j < i
 ·rw [if_pos hj,if_pos hj];exact ⟨_,rfl⟩
 ·rw [if_neg hj,if_neg hj];exact ⟨_,rfl⟩
theorem call_int1:CallR X (.type "int") (fun xs H Q=>(∃ i,xs=[.int i]∧Q (.int i) H)∨∃ k,xs=[.bl k]∧Q (.int (if k then 1 else 0)) H):=by
 intro pins s σ H xs us Q I r h;rcases h with ⟨i,rfl,q⟩ | ⟨k,rfl,q⟩
 ·obtain ⟨u,rfl,t,rfl⟩:=vals1 r;exact call_int_int ⟨.int i,H,I,⟨_,rfl⟩,q⟩
 ·obtain ⟨u,rfl,r1⟩:=vals1 r;cases r1;exact call_int_bool ⟨.int (if k then 1 else 0),H,I.tok _,⟨_,rfl⟩,q⟩
end
structure ObjM (h:Heap) (x dx C:Addr) (mA:Str→Option Value):Prop where
 obj:h.get? x=some (PySem.W.instObj C dx)
 ns:h.Ns1 dx mA
 ne:dx≠x
section
variable {prog:Program}{w:World}{A:Around}{E:Value→Shared→Prop}{s:Shared}{K:PySem.W.Frag}{x dx C f:Addr}{mA:Str→Option Value}{name:Str}{v:Value}
end
theorem RelO.some_of {v:V}{o:Option Value}(r:RelO (some v) o):∃ u,o=some u∧RelV v u:=by
 cases o with
 | none=>exact (show False from r).elim
 | some u=>exact ⟨u,rfl,r⟩
section
variable {P:Program}{w:World}{H H':Hp}{h h':Heap}{a C dx:Addr}{fs fs':List (Str×V)}
end
structure Cls (K:PySem.W.Frag) (C:Addr):Prop where
 pg:PySem.W.plainGet K C Str.empty=true
 hd:PySem.W.hasDictIn K C=true
 po:PySem.W.plainOver K C=true
 sa:PySem.W.findIn K (.ref C) "__setattr__"=some (some (.builtin "object.__setattr__"))
theorem Cls.get {K:PySem.W.Frag}{C:Addr}(c:Cls K C) (f:Str):PySem.W.plainGet K C f=true:=c.pg
noncomputable def NoAttr (K:PySem.W.Frag) (C:Addr) (f:Str):Prop:=PySem.W.findIn K (.ref C) f=some none
structure Meth (K:PySem.W.Frag) (C:Addr) (m:Str) (f:Addr):Prop where
 at_:PySem.W.findIn K (.ref C) m=some (some (.ref f))
 fn:PySem.W.isFn K (.ref f)=true
 kp:PySem.W.keepIn K (.ref f)=true
section
variable {X:Cx}{pins:List (Addr×Obj)}{σ:St}{H:Hp}{s:Shared}{a C dx:Addr}{fs:List (Str×V)}{f:Str}{v:V}{A:Around}{E:Value→Shared→Prop}
theorem Inv.made (I:Inv X pins σ H s):Inv X pins σ (upd (upd H s.heap.objs.size (.own (s.heap.objs.size+1))) (s.heap.objs.size+1) (.ins C s.heap.objs.size []))
    { s with heap:=(s.heap.push PySem.W.emptyDict).push (PySem.W.instObj C s.heap.objs.size) }:=by
  have e1:(s.heap.push PySem.W.emptyDict).get? s.heap.objs.size=some PySem.W.emptyDict:=Heap.get?_push_size s.heap rfl;have e2:((s.heap.push PySem.W.emptyDict).push (PySem.W.instObj C s.heap.objs.size)).get? (s.heap.objs.size+1)=some (PySem.W.instObj C s.heap.objs.size):=by
    have:=Heap.get?_push_size (s.heap.push PySem.W.emptyDict) (o:=PySem.W.instObj C s.heap.objs.size) rfl
    rwa [Heap.size_push] at this
  have e3:(s.heap.push PySem.W.emptyDict).Ns s.heap.objs.size (fun _=>none):=⟨PySem.W.emptyDict,#[],_,e1,rfl,(fun e he=>absurd he (by simp)),fun _=>rfl⟩;have I1:=I.laid (a:=s.heap.objs.size) (o:=.own (s.heap.objs.size+1)) (h':=s.heap.push PySem.W.emptyDict) (t':=s.toks) (fun b u q=>Heap.get?_push_of_some _ q) (Nat.le_refl _) ⟨_,e1⟩;refine I1.laid (a:=s.heap.objs.size+1) (o:=.ins C s.heap.objs.size []) (t':=s.toks) (fun b u q=>Heap.get?_push_of_some _ q) (Nat.le_of_eq (Heap.size_push _ _)) ?_;have ne:s.heap.objs.size≠s.heap.objs.size+1:=Nat.ne_of_lt (Nat.lt_succ_self _);refine ⟨by rw [upd_ne ne,upd_same],Nat.zero_le _,ne,e2,fun _=>none,(Heap.Ns1.of_empty e3).at fun o q=>Heap.get?_push_of_some _ q,fun _=>True.intro,fun y hy=>absurd rfl hy⟩
end
section
variable {X:Cx}{o e value:Expr}{f:Str}{pos pos' tpos:Pos}{ta tv:TE}
end
section
variable {X:Cx}{pins:List (Addr×Obj)}{σ:St}{H:Hp}{s:Shared}{A:Around}{E:Value→Shared→Prop}{Q:Value→Shared→Prop}{c:Value}{b:Bool}
end
structure Room (k:Nat) (A:Around):Prop where
 hd:A.handled=none
 dp:A.depth+3 * k+5 < recursionLimit
 un:A.units+16 * k+200 < cLine
theorem Room.mono {j k:Nat}{A:Around}(r:Room k A) (h:j≤k):Room j A:=⟨r.hd,by have:=r.dp;omega,by have:=r.un;omega⟩
theorem Room.deeper {k:Nat}{A:Around}(r:Room (k+1) A) (env:Env):Room k (A.deeper env) :=
 ⟨r.hd,by have:=r.dp;show A.depth+1+3 * k+5 < _;omega,by have:=r.un;show A.units+3+16 * k+200 < _;omega⟩
theorem Room.depth {k:Nat}{A:Around}(r:Room k A):A.depth < recursionLimit:=by have:=r.dp;omega
theorem Room.units {k:Nat}{A:Around}(r:Room k A):A.units+64 < cLine:=by have:=r.un;omega
noncomputable def tNil:TA:=fun _ H Q=>Q [] H
noncomputable def tCons (ta:TE) (tr:TA):TA:=fun σ H Q=>ta σ H fun x H1=>tr σ H1 fun xs H2=>Q (x::xs) H2
section
variable {X:Cx}{e:Expr}{es:List Expr}{te:TE}{t:TA}{pos:Pos}
theorem pa_nil:PA X [] tNil:=fun _ _ _ _ H Q I h=>Calls.spliced_nil ⟨[],H,I,.nil,h⟩
theorem pa_cons (ha:PE X e te) (hr:PA X es t) (hs:starEach (e::es) X.env=(false,eval e X.env)::starEach es X.env:=by rfl):PA X (e::es) (tCons te t):=by
 intro pos pins s σ H Q I h;rw [hs];show wpAny _ _ (spliced ((false,eval e X.env)::backTo pos (starEach es X.env))) _ _ s;refine Calls.spliced_cons (thn (ha pins s σ H _ I h) ?_);rintro u s1 ⟨x,H1,I1,r1,q1⟩;refine thn (hr pos pins s1 σ H1 _ I1 q1) ?_;rintro us s2 ⟨xs,H2,I2,r2,q2⟩;exact ⟨x::xs,H2,I2,.cons r1 r2,q2⟩
noncomputable def tTup (t:TA):TE:=fun σ H Q=>t σ H fun xs H1=>xs.length≤sizeLine∧∀ p,H1 p=none→Q (.ref p) (upd H1 p (.tup xs))
noncomputable def tLst (t:TA):TE:=fun σ H Q=>t σ H fun xs H1=>xs.length≤sizeLine∧∀ p,H1 p=none→Q (.ref p) (upd H1 p (.lst xs))
theorem pe_tup {x1}(h:PA X es t):PE X (.Tuple es x1 pos) (tTup t):=by
 intro pins s σ H Q I hq;refine wpAny_Tuple_spliced (thn (h pos pins s σ H _ I hq) ?_);rintro us s1 ⟨xs,H1,I1,r,z,q⟩;refine ⟨by rw [← r.length];exact z,?_⟩;have hf:H1 s1.heap.objs.size=none:=I1.hok.fresh (Nat.le_refl _);refine ⟨.ref s1.heap.objs.size,upd H1 s1.heap.objs.size (.tup xs),I1.laid (t':=s1.toks) (fun b u e=>Heap.get?_push_of_some _ e) (Nat.le_refl _) ?_,rfl,q _ hf⟩;exact ⟨z,us,r,⟨_,Heap.get?_push_size _ rfl,rfl,rfl,_,rfl⟩⟩
theorem pe_lst (h:PA X es t):PE X (.List es pos) (tLst t):=by
 intro pins s σ H Q I hq;refine wpAny_List_spliced (thn (h pos pins s σ H _ I hq) ?_);rintro us s1 ⟨xs,H1,I1,r,z,q⟩;refine ⟨by rw [← r.length];exact z,?_⟩;have hf:H1 s1.heap.objs.size=none:=I1.hok.fresh (Nat.le_refl _);refine ⟨.ref s1.heap.objs.size,upd H1 s1.heap.objs.size (.lst xs),I1.laid (t':=s1.toks) (fun b u e=>Heap.get?_push_of_some _ e) (Nat.le_refl _) ?_,rfl,q _ hf⟩;exact ⟨z,us,0,r,Heap.get?_push_size _ rfl⟩
end
noncomputable abbrev Sp:=List V→Hp→VK→XK→Prop
noncomputable abbrev CXT:=List Env→Hp→Shared→XK→Value→Shared→Prop
structure Env0 (P:Program) (w:World) (K:PySem.W.Frag) (mg:Str→Option Value) (base:Heap) (A:Around) (outer:List Env) (s:Shared) (H:Hp):Prop where
 frames:A.frames=some outer
 mod:Mod K mg base
 bs:∀ b o,base.get? b=some o→s.heap.get? b=some o∧H b=none
 bsz:base.objs.size≤s.heap.objs.size
 funs:s.heap.FunFrames base outer
 frf:∀ b∈frs outer,H b=none
 hok:HOk P w H s.heap
 bare:AllBare s.gens
noncomputable def CE (outer:List Env) (P:Program) (w:World) (H:Hp) (s:Shared) (Q:VK) (u:Value) (s':Shared):Prop :=
 ∃ v H',s'.os=s.os∧AllBare s'.gens∧Un (frs outer) [] H H' s.heap s'.heap∧HOk P w H' s'.heap∧RelV v u∧Q v H'
noncomputable def CR (CX:CXT) (outer:List Env) (P:Program) (w:World) (H:Hp) (s:Shared) (Q:VK) (E:XK) (r:Result) (s':Shared):Prop :=
 match r with
 | .ok (.ret u)=>CE outer P w H s Q u s'
 | .ok _=>False
 | .error e=>CX outer H s E e s'
structure FnOk (P:Program) (w:World) (K:PySem.W.Frag) (mg:Str→Option Value) (base:Heap) (CX:CXT) (k:Nat) (f:Addr) (fd:FuncData) (ps:List Str) (sp:Sp):Prop where
 len:∀ vs H Q E,sp vs H Q E→vs.length=ps.length
 run:∀ (A:Around) (outer:List Env) (s:Shared) (H:Hp) (args:Args) (us:List Value) (vs:List V) (Q:VK) (E:XK),Room k A→Env0 P w K mg base A outer s H→BindsTo s fd args (ps.zip us)→Vals vs us→sp vs H Q E →
  codeAny (model P w) A (.call (.ref f) args) (CR CX outer P w H s Q E) s
section
variable {X:Cx}{pins:List (Addr×Obj)}{σ:St}{H:Hp}{s s':Shared}
theorem Inv.env0 (I:Inv X pins σ H s):Env0 X.prog X.w X.K X.mg X.base X.A X.stack s H :=
 ⟨I.ok.frames,I.ok.mod,I.bs,Nat.le_trans I.ok.bsz I.sz,I.stack,I.stkFree,I.hok,I.bare⟩
theorem Inv.after {Q:VK}{u:Value}(I:Inv X pins σ H s) (h:CE X.stack X.prog X.w H s Q u s'):EP X pins σ Q u s':=by
 obtain ⟨v,H',os,bare,un,hok,r,q⟩:=h;obtain ⟨hh,g,d,t,os'⟩:=s';obtain rfl:os'=s.os:=os;exact ⟨v,H',I.call (h':=hh) (g':=g) (d':=d) (t':=t) (ch:=[]) un hok bare (fun b z=>absurd z (by simp)),r,q⟩
end
noncomputable def tCall (sp:Sp) (dvs:List V) (E:XK) (t:TA):TE:=fun σ H Q=>t σ H fun vs H1=>sp (vs++dvs) H1 Q E
noncomputable def Binds (K:PySem.W.Frag) (fd:FuncData) (ps:List Str) (ds:List Value):Prop :=
 ∀ (s:Shared) (us:List Value),K.In s.heap→(us++ds).length=ps.length→BindsTo s fd ⟨us,[]⟩ (ps.zip (us++ds))
theorem Binds.all {K:PySem.W.Frag}{fd:FuncData}{ps:List Str}(h:∀ us:List Value,us.length=ps.length→bindArgs fd ⟨us,[]⟩=pure (ps.zip us)):Binds K fd ps []:=fun s us _ hl=>by
 rw [List.append_nil] at hl ⊢;exact .of_eq (h us hl)
noncomputable def Passes (CX:CXT) (X:Cx) (E:XK):Prop:=∀ (pins:List (Addr×Obj)) (σ:St) (H:Hp) (s:Shared) (e:Value) (s':Shared),Inv X pins σ H s→CX X.stack H s E e s'→X.xe e s'
section
variable {X:Cx}{CX:CXT}{k:Nat}{f C:Addr}{fd:FuncData}{ps:List Str}{sp:Sp}{dvs:List V}{ds:List Value}{E:XK}{x m:Str}{p pos apos:Pos}{e o:Expr}{es:List Expr}{ta:TE}{t:TA}
theorem run_fn {pins:List (Addr×Obj)}{σ:St}{H:Hp}{s:Shared}{Q:VK}{us:List Value}{vs:List V}(F:FnOk X.prog X.w X.K X.mg X.base CX k f fd ps sp) (hr:Room k X.A) (hb:Binds X.K fd ps ds) (hd:Vals dvs ds) (hx:Passes CX X E)
  (I:Inv X pins σ H s) (r:Vals vs us) (h:sp (vs++dvs) H Q E):wpAny (model X.prog X.w) X.A (call (.ref f) us) (EP X pins σ Q) X.xe s:=by
 have r2:Vals (vs++dvs) (us++ds):=r.append hd;have hl:(us++ds).length=ps.length:=by rw [← r2.length];exact F.len _ _ _ _ h
 refine wpAny_call (codeAny_mono (F.run X.A X.stack s H ⟨us,[]⟩ (us++ds) (vs++dvs) Q E hr I.env0 (hb s us I.kIn hl) r2 h) fun r s' hq=>?_);cases r with
 | error e=>exact hx pins σ H s e s' I hq
 | ok fl =>
  cases fl with
  | ret u=>exact I.after hq
  | next=>exact False.elim hq
  | brk=>exact False.elim hq
  | cont=>exact False.elim hq
theorem pe_call (F:FnOk X.prog X.w X.K X.mg X.base CX k f fd ps sp) (hr:Room k X.A) (hg:Gl X x) (hm:X.mg x=some (.ref f)) (hk:PySem.W.keepIn X.K (.ref f)=true) (hb:Binds X.K fd ps ds) (hd:Vals dvs ds) (hx:Passes CX X E)
  (ha:PA X (e::es) t) (hdb:(x==("__debug__":Str))=false:=by decide) (he:starEach (e::es) X.env=(false,eval e X.env)::starEach es X.env:=by rfl) (hpl:(backTo pos (starEach es X.env)).any (·.1)=false:=by rfl) :
  PE X (.Call (.Name x p) (e::es) [] pos) (tCall sp dvs E t):=by
 intro pins s σ H Q I h;refine wpAny_Call_Name_kw (ld_glob I hg hm ?_ hdb);refine PySem.W.callWith_K (h₀:=X.base) I.ok.mod.kin hk (thn (ha pos pins s σ H _ I h) fun us s1 ⟨vs,H1,I1,r,q⟩=>⟨I1.kIn,?_⟩) he hpl;exact run_fn F hr hb hd hx I1 r q
theorem pe_call0 (F:FnOk X.prog X.w X.K X.mg X.base CX k f fd ps sp) (hr:Room k X.A) (hg:Gl X x) (hm:X.mg x=some (.ref f)) (hk:PySem.W.keepIn X.K (.ref f)=true) (hb:Binds X.K fd ps ds) (hd:Vals dvs ds) (hx:Passes CX X E)
  (hdb:(x==("__debug__":Str))=false:=by decide):PE X (.Call (.Name x p) [] [] pos) (tCall sp dvs E tNil):=by
 intro pins s σ H Q I h;refine wpAny_Call_Name_kw (ld_glob I hg hm ?_ hdb);exact PySem.W.callWith_K0 I.kIn hk (run_fn (us:=[]) F hr hb hd hx I .nil h)
structure Mk (K:PySem.W.Frag) (C f:Addr):Prop where
 makes:PySem.W.makesIn K C=true
 init:PySem.W.findIn K (.ref C) "__init__"=some (some (.ref f))
 fn:PySem.W.isFn K (.ref f)=true
 kp:PySem.W.keepIn K (.ref C)=true
end
section
variable {X:Cx}{CX:CXT}{k:Nat}{f C:Addr}{fd:FuncData}{ps ks:List Str}{sp:Sp}{E:XK}{x m:Str}{p pos apos kpos:Pos}{e o:Expr}{es:List Expr}{kws:List Keyword}{te ta:TE}{t tk:TA}{nm:Option Str}
variable {g:List Value→List Value→List Value}{gV:List V→List V→List V}
end
structure FnScope (N P:List Str) (sc:Scope):Prop where
 kind:sc.kind=.function
 co:sc.isCoroutine=false
 gen:sc.isGenerator=false
 nd:N.Nodup
 pre:N.take P.length=P
 par:∀ x∈P,sc.names.lookup x=some .local∨sc.names.lookup x=some .cell
 nofree:∀ y∈sc.names,y.2≠.free
theorem bindL_out {kindOf:Str→Option NameKind}{x:Str}:∀ {binds:List (Str×Value)}{m:Str→Option Value},(∀ v,(x,v) ∉ binds)→bindL kindOf binds m x=m x
 | [],_,_=>rfl
 | (n,v)::r,m,h=>by
  unfold bindL;rw [bindL_out fun w hw=>h w (List.mem_cons_of_mem _ hw)];split
  ·have:x≠n:=by rintro rfl;exact h v List.mem_cons_self
   simp [this]
  ·rfl
theorem bindC_out {kindOf:Str→Option NameKind}{x:Str}:∀ {binds:List (Str×Value)}{m:Str→Option Value},(∀ v,(x,v) ∉ binds)→bindC kindOf binds m x=m x
 | [],_,_=>rfl
 | (n,v)::r,m,h=>by
  unfold bindC;rw [bindC_out fun w hw=>h w (List.mem_cons_of_mem _ hw)];split
  ·rfl
  ·have:x≠n:=by rintro rfl;exact h v List.mem_cons_self
   simp [this]
theorem bindL_get {kindOf:Str→Option NameKind}{x:Str}{v:Value}:∀ {P:List Str}{vs:List Value}{i:Nat}{m:Str→Option Value},P.Nodup→P[i]?=some x→vs[i]?=some v→kindOf x=some .local →
  bindL kindOf (P.zip vs) m x=some v
 | [],_,_,_,_,h,_,_=>by simp at h
 | _::_,[],_,_,_,_,h,_=>by simp at h
 | p::P,w::vs,0,m,nd,h1,h2,hk=>by
  simp at h1 h2;subst h1;subst h2;show bindL kindOf ((p,w)::P.zip vs) m p=_;unfold bindL;rw [bindL_out fun v hv=>(List.nodup_cons.mp nd).1 (List.of_mem_zip hv).1,if_pos hk];simp
 | p::P,w::vs,i+1,m,nd,h1,h2,hk=>by
  show bindL kindOf ((p,w)::P.zip vs) m x=_;unfold bindL;exact bindL_get (i:=i) (List.nodup_cons.mp nd).2 (by simpa using h1) (by simpa using h2) hk
theorem bindC_get {kindOf:Str→Option NameKind}{x:Str}{v:Value}:∀ {P:List Str}{vs:List Value}{i:Nat}{m:Str→Option Value},P.Nodup→P[i]?=some x→vs[i]?=some v→kindOf x≠some .local →
  bindC kindOf (P.zip vs) m x=some v
 | [],_,_,_,_,h,_,_=>by simp at h
 | _::_,[],_,_,_,_,h,_=>by simp at h
 | p::P,w::vs,0,m,nd,h1,h2,hk=>by
  simp at h1 h2;subst h1;subst h2;show bindC kindOf ((p,w)::P.zip vs) m p=_;unfold bindC;rw [bindC_out fun v hv=>(List.nodup_cons.mp nd).1 (List.of_mem_zip hv).1,if_neg hk];simp
 | p::P,w::vs,i+1,m,nd,h1,h2,hk=>by
  show bindC kindOf ((p,w)::P.zip vs) m x=_;unfold bindC;exact bindC_get (i:=i) (List.nodup_cons.mp nd).2 (by simpa using h1) (by simpa using h2) hk
noncomputable def start (N:List Str) (vs:List V):St:=vs.map some++List.replicate (N.length - vs.length) none
noncomputable def cxOf (CX:CXT) (P:Program) (w:World) (K:PySem.W.Frag) (mg:Str→Option Value) (base:Heap) (N:List Str) (qual:Str) (scope:Scope) (f:Addr) (cd:Value) (A:Around) (outer:List Env) (s:Shared) (H:Hp) (E:XK):Cx where
 prog:=P
 w:=w
 K:=K
 mg:=mg
 base:=base
 A:=A.deeper (envOfC qual scope s.heap.objs.size f cd)
 N:=N
 s₀:=s
 H₀:=H
 env:=envOfC qual scope s.heap.objs.size f cd
 outer:=outer
 stack:=envOfC qual scope s.heap.objs.size f cd::outer
 ex:=[]
 calm:=true
 fn:=fun _=>true
 pn:=[]
 xe:=fun e s'=>wpAny (model P w) (A.deeper (envOfC qual scope s.heap.objs.size f cd)) (leaving (envOfC qual scope s.heap.objs.size f cd) e) (fun _ s''=>CX outer H s E e s'') (fun e' s''=>CX outer H s E e' s'') s'
theorem cell_has {sc:Scope}{n:Nat}{x:Str}(h:sc.names.lookup x=some .cell):∃ c,(cellsFrom n sc.names []).lookup x=some c:=by
 have q:=PySem.W.cellsFrom_some sc.names n [] (.inl h);exact Option.isSome_iff_exists.mp q
theorem inv_start {CX:CXT}{P:Program}{w:World}{K:PySem.W.Frag}{mg:Str→Option Value}{base:Heap}{N ps:List Str}{qual:Str}{scope:Scope}{f:Addr}{cd:Value}{A:Around}{outer:List Env}{s s1:Shared}{H:Hp}{E:XK}{us:List Value}{vs:List V}
  (S:FnScope N ps scope) (hd:A.handled=none) (e0:Env0 P w K mg base A outer s H) (hl:vs.length=ps.length) (r:Vals vs us)
  (x:InCallC s s.heap.objs.size (bindL (envOfC qual scope s.heap.objs.size f cd).kindOf (ps.zip us) fun _=>none) (cellsFrom (s.heap.objs.size+1) scope.names []) (bindC (envOfC qual scope s.heap.objs.size f cd).kindOf (ps.zip us) fun _=>none) s1) :
  Inv (cxOf CX P w K mg base N qual scope f cd A outer s H E) [] (start N vs) H s1:=by
 have hpl:ps.length≤N.length:=by have:=congrArg List.length S.pre;rw [List.length_take] at this;omega
 obtain ⟨h1,tk,rfl,hk⟩:=x.done;have noA:∀ b:Addr,b ∉ (cxOf CX P w K mg base N qual scope f cd A outer s H E).ex:=fun b z=>absurd (show b∈([]:List Addr) from z) (by simp)
 refine ⟨⟨e0.mod,S.kind,rfl,rfl,Nat.le_refl _,fun y z c h1 h2=>?_,fun y hy=>?_,fun y c _ h=>?_,fun _=>hd,Around.frames_deeper e0.frames,.inr ⟨rfl,rfl⟩,fun b z=>absurd z (noA b),e0.bs,e0.bsz,fun b _ _=>noA b,fun b z=>absurd z (noA b),e0.funs,e0.frf⟩,
  rfl,e0.bare,Un.kept hk,⟨_,x.toInCall.ns,fun i y v h1 h2 h3=>?_⟩,fun y c h=>⟨_,x.cell y c h⟩,e0.hok.fresh (Nat.le_refl _),fun y c h=>?_,fun p hp=>absurd (show p∈([]:List (Addr×Obj)) from hp) (by simp),e0.hok.kept hk,?_⟩
 ·exact name_of_addr x.apart (PySem.mem_of_lookup h1) (PySem.mem_of_lookup h2)
 ·have hy:scope.names.lookup y=some .cell∨scope.names.lookup y=some .free:=hy;rcases hy with hy | hy
  ·exact cell_has hy
  ·exact absurd rfl (S.nofree _ (PySem.mem_of_lookup hy))
 ·exact Nat.le_of_lt (x.above y c (PySem.mem_of_lookup h))
 ·have hi:i < vs.length:=by
   unfold start at h2
   by_cases hi:i < vs.length
   ·exact hi
   ·rw [List.getElem?_append_right (by simpa using hi)] at h2;rw [List.getElem?_replicate] at h2;split at h2 <;> cases h2
  have ha:vs[i]?=some v:=by
   unfold start at h2;rw [List.getElem?_append_left (by simpa using hi),List.getElem?_map] at h2;cases e:vs[i]? with
   | none=>rw [e] at h2;cases h2
   | some a=>rw [e] at h2;cases h2;rfl
  obtain ⟨u,hu,rv⟩:=r.get ha;have hp:ps[i]?=some y:=by
   rw [← S.pre,List.getElem?_take_of_lt (by omega)];exact h1
  have ndP:ps.Nodup:=by rw [← S.pre];exact S.nd.sublist (List.take_sublist _ _)
  refine ⟨u,rv,?_⟩;rcases S.par y (List.mem_of_getElem? hp) with k | k
  ·exact .inl ⟨k,bindL_get ndP hp hu k⟩
  ·obtain ⟨c,e⟩:=cell_has (n:=s.heap.objs.size+1) k;refine .inr ⟨.inl k,c,e,?_⟩;have q:=x.cell y c e;rw [bindC_get ndP hp hu (by show scope.names.lookup y≠_;rw [k];decide)] at q;exact q
 ·exact e0.hok.fresh (Nat.le_of_lt (x.above y c (PySem.mem_of_lookup h)))
 ·unfold start;show _=N.length;rw [List.length_append,List.length_map,List.length_replicate];omega
theorem fn_of {CX:CXT}{P:Program}{w:World}{K:PySem.W.Frag}{mg:Str→Option Value}{base:Heap}{k:Nat}{f:Addr}{name qual:Str}{params:Arguments}{body:List Stmt}{scope:Scope}{dV kV doc pm cdv ct oc:Value}{an od:Option Addr}
  {osl:Array (Option Value)} {N ps:List Str} {sp:Sp} (lk:K.lookup f=some ⟨oc,od,.func (PySem.W.fnOf name qual params body scope dV kV doc pm an cdv ct),osl⟩) (hcd:PySem.W.codeIn K cdv qual=true) (S:FnScope N ps scope)
  (len:∀ vs H Q E,sp vs H Q E→vs.length=ps.length)
  (hbody:∀ (A:Around) (outer:List Env) (s:Shared) (H:Hp) (vs:List V) (Q:VK) (E:XK),Room k (A.deeper (envOfC qual scope s.heap.objs.size f cdv))→sp vs H Q E →
   ∃ t,PSs (cxOf CX P w K mg base N qual scope f cdv A outer s H E) body t∧t { nx:=fun _ H'=>Q .non H',rt:=Q } (start N vs) H) :
  FnOk P w K mg base CX (k+1) f (PySem.W.fnOf name qual params body scope dV kV doc pm an cdv ct) ps sp:=by
 refine ⟨len,fun A outer s H args us vs Q E hr e0 hb r hsp=>?_⟩;have hl:=len _ _ _ _ hsp;have KX:K.In s.heap:=e0.mod.kin.keeps fun b o e=>(e0.bs b o e).1
 have lim:s.heap.NoLimit:=e0.mod.nolimit.keeps fun b o e=>(e0.bs b o e).1
 have hkind:∀ y∈ps.zip us,scope.names.lookup y.1=some .local∨(scope.names.lookup y.1=some .cell∧((cellsFrom (s.heap.objs.size+1) scope.names []).lookup y.1).isSome=true):=by
  rintro ⟨n,v⟩ hy;rcases S.par n (List.of_mem_zip hy).1 with q | q
  ·exact .inl q
  ·exact .inr ⟨q,PySem.W.cellsFrom_some _ _ _ (.inl q)⟩
 refine codeAny_call_function hr.depth (KX _ _ lk) rfl S.co S.gen rfl (PySem.W.codeRec_of KX hcd) (hb _ _ _ _ ?_);refine wpAny_newFunctionEnv_cells S.kind hkind fun env he s1 x=>?_
 subst he;refine ⟨lim.keeps x.toInCall.keep,codeAny_func ?_⟩;obtain ⟨t,ht,hq⟩:=hbody A outer s H vs Q E (hr.deeper _) hsp;have I:Inv (cxOf CX P w K mg base N qual scope f cdv A outer s H E) [] (start N vs) H s1:=inv_start S hr.hd e0 hl r x;refine wpAny_mono (ht [] s1 (start N vs) H _ I hq) (fun fl s' hs=>?_) fun e s' hs=>hs
 have fin:∀ {σ':St} {H':Hp} {v:V} {u:Value},Inv (cxOf CX P w K mg base N qual scope f cdv A outer s H E) [] σ' H' s'→RelV v u→Q v H'→CE outer P w H s Q u s' :=
  fun {σ' H' v u} J rv q=>⟨v,H',J.os,J.bare,J.base,J.hok,rv,q⟩
 cases fl with
 | ret u =>
  obtain ⟨v,σ',H',J,rv,q⟩:=hs;exact fin J rv q
 | next =>
  obtain ⟨σ',H',J,q⟩:=hs;exact fin (v:=V.non) (u:=Value.none) J rfl q
 | brk =>
  obtain ⟨_,_,_,q⟩:=hs;exact False.elim q
 | cont =>
  obtain ⟨_,_,_,q⟩:=hs;exact False.elim q
section
variable {X:Cx}{x:Str}{p pos:Pos}{e:Expr}{es:List Expr}{t:TA}{id T:String}{r:List V→Hp→VK→Prop}
noncomputable def tCB (r:List V→Hp→VK→Prop) (t:TA):TE:=fun σ H Q=>t σ H fun vs H1=>r vs H1 Q
theorem pe_callB (hc:CallR X (.builtin id) r) (hg:Gl X x) (hm:X.mg x=none) (hv:bootBuiltins x=some (.builtin id)) (ha:PA X (e::es) t) (hn:x ≠ "__name__":=by decide) (hdb:(x==("__debug__":Str))=false:=by decide)
  (he:starEach (e::es) X.env=(false,eval e X.env)::starEach es X.env:=by rfl) (hpl:(backTo pos (starEach es X.env)).any (·.1)=false:=by rfl):PE X (.Call (.Name x p) (e::es) [] pos) (tCB r t):=by
 intro pins s σ H Q I h;refine wpAny_Call_Name_kw (ld_blt I hg hm hv ?_ hn hdb);exact PyProof.Rows.callWith_builtin1 (thn (ha pos pins s σ H _ I h) fun us s1 ⟨vs,H1,I1,r1,q1⟩=>hc pins s1 σ H1 vs us Q I1 r1 q1) he hpl
theorem pe_callTy (hc:CallR X (.type T) r) (hg:Gl X x) (hm:X.mg x=none) (hv:bootBuiltins x=some (.type T)) (ha:PA X (e::es) t) (hn:x ≠ "__name__":=by decide) (hdb:(x==("__debug__":Str))=false:=by decide)
  (he:starEach (e::es) X.env=(false,eval e X.env)::starEach es X.env:=by rfl) (hpl:(backTo pos (starEach es X.env)).any (·.1)=false:=by rfl):PE X (.Call (.Name x p) (e::es) [] pos) (tCB r t):=by
 intro pins s σ H Q I h;refine wpAny_Call_Name_kw (ld_blt I hg hm hv ?_ hn hdb);exact PyProof.Rows.callWith_type1 (thn (ha pos pins s σ H _ I h) fun us s1 ⟨vs,H1,I1,r1,q1⟩=>hc pins s1 σ H1 vs us Q I1 r1 q1) he hpl
end
end L2
namespace HT
open PySem PyProof.Rows
section
open PySem.SeqAt
open PySem.AutoSeq1 (wpAny_loadPart')
open PySem.MeetsSeq PySem.MeetsSeq2 PySem.MeetsSeq3
end
section
variable {prog:Program}{w:World}{A:Around}{E:Value→Shared→Prop}{s:Shared}
theorem cat_tup {t b:Addr}{vs ws:List Value}{Q:Value→Shared→Prop}(ht:IsTup s.heap t vs.toArray) (hb:IsTup s.heap b ws.toArray) (hv:vs≠[])
  (h1:ws=[]→Q (.ref t) s) (h2:ws≠[]→Q (.ref s.heap.objs.size) { s with heap:=s.heap.push { cls:=.type "tuple",data:=.seq (vs++ws).toArray } })
  (hsz:vs.length+ws.length≤sizeLine):wpAny (model prog w) A (binaryOp .Add (.ref t) (.ref b)) Q E s:=by
 obtain ⟨⟨cls,dd,data,sl⟩,ho,hc,n,hd⟩:=id ht;obtain ⟨⟨cls2,dd2,data2,sl2⟩,ho2,hc2,n2,hd2⟩:=id hb;simp only at hc hd hc2 hd2;subst hc hd hc2 hd2;have e:vs.toArray++ws.toArray=(vs++ws).toArray:=by simp
 by_cases hw:ws=[]
 ·exact concat_meets ⟨_,ho,rfl⟩ ⟨_,ho2,rfl⟩ noFill_tuple_add seq_tuple_add PySem.F.slot_tuple_add PySem.F.entry_tuple_add (PySem.F.args_tuple_add_2 _ _)
   (tuple_addW1 t b vs.toArray ws.toArray n n2 dd dd2 sl sl2 (by simpa using hv) (by simp [hw])) ⟨ho,ho2,h1 hw⟩
 ·refine concat_meets ⟨_,ho,rfl⟩ ⟨_,ho2,rfl⟩ noFill_tuple_add seq_tuple_add PySem.F.slot_tuple_add PySem.F.entry_tuple_add (PySem.F.args_tuple_add_2 _ _)
   (tuple_addW2 t b vs.toArray ws.toArray n n2 dd dd2 sl sl2 (by simpa using hv) (by simpa using hw) (by rw [List.size_toArray,List.size_toArray];exact hsz)) ⟨ho,ho2,?_⟩
  rw [e];exact h2 hw
noncomputable def sIx (n d:Nat):Option Int→Nat
 | none=>d
 | some v=>if v < 0 then (v+(n:Int)).toNat else min v.toNat n
theorem sIx_nat (n d k:Nat):sIx n d (some (k:Int))=min k n:=by
 show (if (k:Int) < 0 then ((k:Int)+(n:Int)).toNat else min (k:Int).toNat n)=min k n;rw [if_neg (by omega),Int.toNat_natCast]
theorem sIx_le (n d:Nat) (hd:d≤n) (o:Option Int):sIx n d o≤n:=by
 cases o with
 | none=>exact hd
 | some v =>
  show (if v < 0 then (v+(n:Int)).toNat else min v.toNat n)≤n
  by_cases hv:v < 0
  ·rw [if_pos hv];omega
  ·rw [if_neg hv];exact Nat.min_le_right _ _
theorem clip_eq (v:Int) (n d:Nat):(if v < 0 then max (v+(n:Int)) 0 else min v (n:Int))=((sIx n d (some v):Nat):Int):=by
 show (if v < 0 then max (v+(n:Int)) 0 else min v (n:Int))=(((if v < 0 then (v+(n:Int)).toNat else min v.toNat n):Nat):Int)
 by_cases hv:v < 0
 ·simp only [if_pos hv];omega
 ·simp only [if_neg hv];omega
theorem adjust_gen (lo hi:Option Int) (n:Nat):Builtin.Slice.sliceAdjust lo hi 1 (n:Int)=(((sIx n 0 lo:Nat):Int),((sIx n n hi:Nat):Int)):=by
 have h1:¬ ((1:Int) < 0):=by omega
 unfold Builtin.Slice.sliceAdjust;simp only [h1,if_false];refine Prod.ext ?_ ?_
 ·cases lo with
  | none=>rfl
  | some v=>exact clip_eq v n 0
 ·cases hi with
  | none=>rfl
  | some v=>exact clip_eq v n n
theorem places_gen (i j:Nat):Builtin.Slice.slicePlaces (i:Int) (j:Int) 1=j - i:=by
 unfold Builtin.Slice.slicePlaces;have h1:(1:Int) > 0:=by omega
 simp only [h1,if_true,Int.ediv_one];split <;> omega
theorem slicePart_ {v:Value}{o:Option Int}{Q:Option Int→Shared→Prop}(p:IsPart v o) (h:Q o s):wpAny (model prog w) A (Builtin.Slice.slicePartIndex v) Q E s:=by
 cases p with
 | none=>exact slicePart_none h
 | int i t=>exact slicePart_int h
theorem sliceApplied_gen {sl:Addr}{vl vu:Value}{lo hi:Option Int}{n:Nat}{Q:Int×Int×Nat→Shared→Prop}(hs:s.heap.IsSliceOf sl vl vu .none) (pl:IsPart vl lo) (pu:IsPart vu hi)
  (h:Q (((sIx n 0 lo:Nat):Int),1,sIx n n hi - sIx n 0 lo) s):wpAny (model prog w) A (Builtin.Slice.sliceApplied (.ref sl) (pure (n:Int))) Q E s:=by
 obtain ⟨os,hos,hcs,hds⟩:=id hs;unfold Builtin.Slice.sliceApplied Builtin.Slice.sliceFields;refine wpAny_bind (wpAny_bind (wpAny_field hos hds (x:=vl) rfl (wpAny_bind (wpAny_field hos hds (x:=vu) rfl (wpAny_bind (wpAny_field hos hds (x:=.none) rfl (wpAny_pure ?_)))))));refine wpAny_bind (slicePart_none ?_);show wpAny _ _ (if ((1:Int)==0)=true then _ else _) _ _ s;rw [if_neg (by decide)];refine wpAny_bind (slicePart_ pl (wpAny_bind (slicePart_ pu (wpAny_bind (wpAny_pure ?_)))));show wpAny _ _ (match Builtin.Slice.sliceAdjust lo hi 1 (n:Int) with | (lo,hi)=>pure (lo,(1:Int),Builtin.Slice.slicePlaces lo hi 1)) _ _ s;rw [adjust_gen lo hi n];show wpAny _ _ (pure (((sIx n 0 lo:Nat):Int),(1:Int),Builtin.Slice.slicePlaces ((sIx n 0 lo:Nat):Int) ((sIx n n hi:Nat):Int) 1)) _ _ s;rw [places_gen];exact wpAny_pure h
theorem pick_gen (xs:Array Value) (i k:Nat):((List.range k).filterMap fun (m:Nat)=>xs[((i:Int)+(m:Int) * 1).toNat]?).toArray=((xs.toList.drop i).take k).toArray:=by
 have e:(fun (m:Nat)=>xs[((i:Int)+(m:Int) * 1).toNat]?)=fun m=>xs[i+m]?:=by
  funext m;have:((i:Int)+(m:Int) * 1).toNat=i+m:=by omega
  rw [this]
 rw [e];have:=pick_run xs i k;rw [List.filterMap_map] at this;have e2:((fun x=>xs[x]?) ∘ fun x=>i+x)=fun m=>xs[i+m]?:=rfl
 rw [e2] at this;rw [this]
theorem getItem_tuple_cut {t sl:Addr}{items:Array Value}{vl vu:Value}{lo hi:Option Int}{Q:Value→Shared→Prop}(ht:IsTup s.heap t items) (hs:s.heap.IsSliceOf sl vl vu .none) (pl:IsPart vl lo) (pu:IsPart vu hi)
  (hw:¬ (sIx items.size 0 lo=0∧sIx items.size items.size hi=items.size))
  (h:Q (.ref s.heap.objs.size) { s with heap:=s.heap.push { cls:=.type "tuple",data:=.seq ((items.toList.drop (sIx items.size 0 lo)).take (sIx items.size items.size hi - sIx items.size 0 lo)).toArray } })
  (hsz:items.size≤sizeLine):wpAny (model prog w) A (getItem (.ref t) (.ref sl)) Q E s:=by
 have htake:sizeOk (.seq ((items.toList.drop (sIx items.size 0 lo)).take (sIx items.size items.size hi - sIx items.size 0 lo)).toArray):=by
  show ((items.toList.drop (sIx items.size 0 lo)).take (sIx items.size items.size hi - sIx items.size 0 lo)).toArray.size≤sizeLine;rw [List.size_toArray,List.length_take,List.length_drop,Array.length_toList];omega
 have hj:sIx items.size items.size hi≤items.size:=sIx_le _ _ (Nat.le_refl _) hi;obtain ⟨os,hos,hcs,hds⟩:=id hs
 have hTs:s.TypeIs (.ref sl) "slice":=⟨os,hos,hcs⟩
 unfold getItem
 try with_reducible refine wpAny_holding ?_
 first | refine wpAny_bind (wpAny_pure ?_) | skip
 refine wpAny_bind (wpAny_sequenceKey ht.typeIs (by decide) ?_)
 refine wpAny_bind (wpAny_callSpecial?_slot (name:=Str.ofString "__getitem__") ht.typeIs PyProof.Rows.slot_tuple_getitem
  (wpAny_call_entry PyProof.Rows.slot_tuple_getitem ht.typeIs entry_tuple_getitem ?_ (args_tuple_getitem _ _)))
 show wpAny _ _ (Builtin.Tuple.tupleItemsOf (.ref t) >>= _) _ _ s;refine wpAny_bind (tupleItemsOf_ ht ?_);refine wpAny_bind (wpAny_typeOf hTs ?_);rw [if_pos (by decide)];refine wpAny_bind (sliceApplied_gen hs pl pu ?_);have hno:¬ ((((sIx items.size 0 lo:Nat):Int)==0&&(1:Int)==1&&(sIx items.size items.size hi - sIx items.size 0 lo)==items.size)=true):=by
  intro q;rw [Bool.and_eq_true,Bool.and_eq_true] at q;have q1:((sIx items.size 0 lo:Nat):Int)=0:=eq_of_beq q.1.1;have q2:sIx items.size items.size hi - sIx items.size 0 lo=items.size:=eq_of_beq q.2;exact hw ⟨by omega,by omega⟩
 show wpAny _ _ (if (((sIx items.size 0 lo:Nat):Int)==0&&(1:Int)==1&&(sIx items.size items.size hi - sIx items.size 0 lo)==items.size)=true then _ else _) _ _ s;rw [if_neg hno,pick_gen]
 first
  | exact wpAny_bind (m:=Builtin.Tuple.tupleExact _) (wpAny_newObj_type (wpAny_pure ⟨_,rfl,wpAny_pure h⟩) htake)
  | exact wpAny_bind (m:=Builtin.Tuple.tupleExact _) (wpAny_newObj_type (wpAny_bind (wpAny_pure (wpAny_pure ⟨_,rfl,wpAny_pure h⟩))) htake)
  | exact wpAny_bind (wpAny_bind (m:=Builtin.Tuple.tupleExact _) (wpAny_newObj_type (wpAny_pure (wpAny_pure ⟨_,rfl,wpAny_pure h⟩)) htake))
  | exact wpAny_bind (wpAny_bind (m:=Builtin.Tuple.tupleExact _) (wpAny_newObj_type (wpAny_pure ⟨_,rfl,wpAny_pure h⟩) htake))
end
end HT
namespace L2
open PySem PySem.Spec PyProof.Rows
noncomputable abbrev TO:=St→Hp→(Option Int→Hp→Prop)→Prop
noncomputable def PO (X:Cx) (e:Option Expr) (t:TO):Prop :=
 ∀ (pins:List (Addr×Obj)) (s:Shared) (σ:St) (H:Hp) (Q:Option Int→Hp→Prop),Inv X pins σ H s→t σ H Q →
  wpAny (model X.prog X.w) X.A (evalPart e X.env) (fun u s'=>∃ o H',Inv X pins σ H' s'∧IsPart u o∧Q o H') X.xe s
noncomputable def tNoPart:TO:=fun _ H Q=>Q none H
noncomputable def tPart (t:TE):TO:=fun σ H Q=>t σ H fun x H1=>∃ i,x=.int i∧Q (some i) H1
section
variable {X:Cx}{e:Expr}{te:TE}{lo hi:Option Expr}{tl th:TO}{pos p2:Pos}
theorem po_none:PO X none tNoPart:=by
 intro pins s σ H Q I h;rw [evalPart_none];exact wpAny_pure ⟨none,H,I,.none,h⟩
theorem po_some (h:PE X e te):PO X (some e) (tPart te):=by
 intro pins s σ H Q I hw;rw [evalPart_some];refine thn (h pins s σ H _ I hw) ?_;rintro u s1 ⟨x,H1,I1,r1,q1⟩;obtain ⟨i,rfl,q⟩:=q1;obtain ⟨t,rfl⟩:=r1;exact ⟨some i,H1,I1,.int i t,q⟩
noncomputable def SlR (X:Cx) (r:V→Option Int→Option Int→Hp→VK→Prop):Prop :=
 ∀ (pins:List (Addr×Obj)) (s:Shared) (σ:St) (H:Hp) (x:V) (v vl vu:Value) (lo hi:Option Int) (sl:Addr) (Q:VK),Inv X pins σ H s→RelV x v→s.heap.IsSliceOf sl vl vu .none→IsPart vl lo→IsPart vu hi→r x lo hi H Q →
  ∃ T id,typeLookup (.type T) "__getitem__"=pure (some (.builtin id))∧s.TypeIs v T∧wpAny (model X.prog X.w) X.A (getItem v (.ref sl)) (EP X pins σ Q) X.xe s
theorem SlR.or {r r':V→Option Int→Option Int→Hp→VK→Prop}(h:SlR X r) (h':SlR X r'):SlR X (fun x lo hi H Q=>r x lo hi H Q∨r' x lo hi H Q):=by
 intro pins s σ H x v vl vu lo hi sl Q I rx hs pl pu q;rcases q with q | q
 ·exact h pins s σ H x v vl vu lo hi sl Q I rx hs pl pu q
 ·exact h' pins s σ H x v vl vu lo hi sl Q I rx hs pl pu q
noncomputable def tSl (r:V→Option Int→Option Int→Hp→VK→Prop) (te:TE) (tl th:TO):TE:=fun σ H Q=>te σ H fun x H1=>tl σ H1 fun l H2=>th σ H2 fun u H3=>r x l u H3 Q
theorem pe_slice {r:V→Option Int→Option Int→Hp→VK→Prop}(hr:SlR X r) (he:PE X e te) (hl:PO X lo tl) (hu:PO X hi th):PE X (.Subscript e (.Slice lo hi none p2) pos) (tSl r te tl th):=by
 intro pins s σ H Q I h;refine Subscript_ (thn (he pins s σ H _ I h) ?_);rintro v s1 ⟨x,H1,I1,r1,q1⟩;refine wpAny_Slice (thn (hl pins s1 σ H1 _ I1 q1) ?_);rintro vl s2 ⟨l,H2,I2,pl,q2⟩;refine thn (hu pins s2 σ H2 _ I2 q2) ?_;rintro vu s3 ⟨u,H3,I3,pu,q3⟩;rw [evalPart_none];refine wpAny_pure ?_
 have I4:Inv X pins σ H3 { s3 with heap:=s3.heap.push { cls:=.type "slice",data:=.fields #[vl,vu,.none] } }:=I3.kept (t':=s3.toks) fun b ob q=>Heap.get?_push_of_some _ q
 obtain ⟨T,id,hT,ht,hg⟩:=hr pins { s3 with heap:=s3.heap.push { cls:=.type "slice",data:=.fields #[vl,vu,.none] } } σ H3 x v vl vu l u s3.heap.objs.size Q I4 r1 (Heap.IsSliceOf.new ..) pl pu q3
 show wpAny (model X.prog X.w) X.A (subscriptTail e (.Slice lo hi none p2) v (.ref s3.heap.objs.size)) (EP X pins σ Q) X.xe { s3 with heap:=s3.heap.push { cls:=.type "slice",data:=.fields #[vl,vu,.none] } };exact tail_any (ops:=[.ref s3.heap.objs.size,v]) ht hT hg (by with_unfolding_all rfl)
noncomputable def cutV (xs:List V) (lo hi:Option Int):List V:=(xs.drop (HT.sIx xs.length 0 lo)).take (HT.sIx xs.length xs.length hi - HT.sIx xs.length 0 lo)
theorem cutV_length (xs:List V) (lo hi:Option Int):(cutV xs lo hi).length≤xs.length:=by
 unfold cutV;rw [List.length_take,List.length_drop];omega
noncomputable def rSlT (K:PySem.W.Frag):V→Option Int→Option Int→Hp→VK→Prop:=fun x lo hi H Q=>∃ a xs,x=.ref a∧SqT K H a xs ∧
 ¬ (HT.sIx xs.length 0 lo=0∧HT.sIx xs.length xs.length hi=xs.length)∧∀ p,H p=none→Q (.ref p) (upd H p (.tup (cutV xs lo hi)))
theorem sl_tup:SlR X (rSlT X.K):=by
 intro pins s σ H x v vl vu lo hi sl Q I rx hs pl pu h;obtain ⟨a,xs,rfl,hx,hw,q⟩:=h;cases rx;obtain ⟨its,r,ht,hz⟩:=I.tuple hx;have hlen:its.toArray.size=xs.length:=by rw [List.size_toArray];exact r.length.symm
 refine ⟨"tuple",_,PyProof.Rows.slot_tuple_getitem.lookup,ht.typeIs,?_⟩;refine HT.getItem_tuple_cut ht hs pl pu (by rw [hlen];exact hw) ?_ (by rw [hlen];exact hz);rw [hlen];refine ⟨.ref s.heap.objs.size,_,I.laid (t':=s.toks) (o:=.tup (cutV xs lo hi)) (fun b ob q=>Heap.get?_push_of_some _ q) (Nat.le_refl _) ?_,rfl,q _ (I.hok.fresh (Nat.le_refl _))⟩;exact ⟨Nat.le_trans (cutV_length xs lo hi) hz,_,(r.drop (HT.sIx xs.length 0 lo)).take (HT.sIx xs.length xs.length hi - HT.sIx xs.length 0 lo),TupP.new _ _⟩
noncomputable def rCatT (K:PySem.W.Frag):R2:=fun x y H Q=>∃ a b xs ys,x=.ref a∧y=.ref b∧SqT K H a xs∧SqT K H b ys∧xs≠[]∧xs.length+ys.length≤sizeLine ∧
 (ys=[]→Q (.ref a) H)∧(ys≠[]→∀ p,H p=none→Q (.ref p) (upd H p (.tup (xs++ys))))
theorem Vals.nil_iff {xs:List V}{us:List Value}(r:Vals xs us):us=[] ↔ xs=[]:=by
 cases r with
 | nil=>simp
 | cons _ _=>simp
theorem op_catT:OpR X (binaryOp .Add) (rCatT X.K):=by
 intro pins s σ H x y v u Q I rx ry h;obtain ⟨a,b,xs,ys,rfl,rfl,ha,hb,hx,hz,q1,q2⟩:=h;cases rx;cases ry;obtain ⟨its,r1,p1,_⟩:=I.tuple ha;obtain ⟨its2,r2,p2,_⟩:=I.tuple hb;refine HT.cat_tup p1 p2 (fun z=>hx (r1.nil_iff.mp z)) (fun z=>⟨.ref a,H,I,rfl,q1 (r2.nil_iff.mp z)⟩) (fun z=>?_) (by rw [← r1.length,← r2.length];exact hz);refine ⟨.ref s.heap.objs.size,_,I.laid (t':=s.toks) (o:=.tup (xs++ys)) (fun b ob q=>Heap.get?_push_of_some _ q) (Nat.le_refl _) ?_,rfl,q2 (fun w=>z (r2.nil_iff.mpr w)) _ (I.hok.fresh (Nat.le_refl _))⟩;exact ⟨by rw [List.length_append];exact hz,_,r1.append r2,TupP.new _ _⟩
end
noncomputable def ixN (n:Nat) (i:Int):Option Nat:=if 0≤i then (if i < n then some i.toNat else none) else if -(n:Int)≤i then some (i+n).toNat else none
noncomputable def atI {α:Type}(xs:List α) (i:Int):Option α:=(ixN xs.length i).bind fun j=>xs[j]?
theorem ixN_seq {n:Nat}{i:Int}{j:Nat}(h:ixN n i=some j):seqIndex? i n=some j∧j < n∧-(n:Int)≤i∧i < n:=by
 unfold ixN at h
 by_cases h0:0≤i
 ·rw [if_pos h0] at h
  by_cases h1:i < n
  ·rw [if_pos h1] at h;have e:i.toNat=j:=Option.some.inj h;exact ⟨by rw [seqIndex_of h0 h1,e],by omega,by omega,h1⟩
  ·rw [if_neg h1] at h;cases h
 ·rw [if_neg h0] at h
  by_cases h1:-(n:Int)≤i
  ·rw [if_pos h1] at h;have e:(i+n).toNat=j:=Option.some.inj h;exact ⟨by rw [seqIndex_neg (by omega) h1,e],by omega,h1,by omega⟩
  ·rw [if_neg h1] at h;cases h
theorem atI_get {α:Type}{xs:List α}{i:Int}{v:α}(h:atI xs i=some v):∃ j,seqIndex? i xs.length=some j∧xs[j]?=some v∧j < xs.length∧-(xs.length:Int)≤i∧i < xs.length:=by
 unfold atI at h;cases e:ixN xs.length i with
 | none=>rw [e] at h;cases h
 | some j =>
  rw [e] at h;obtain ⟨h1,h2,h3,h4⟩:=ixN_seq e;exact ⟨j,h1,h,h2,h3,h4⟩
theorem atI_nat {α:Type}{xs:List α}{j:Nat}{v:α}(h:xs[j]?=some v):atI xs (j:Int)=some v:=by
 have hj:j < xs.length:=(List.getElem?_eq_some_iff.mp h).1;have e:ixN xs.length (j:Int)=some j:=by
  unfold ixN;rw [if_pos (by omega),if_pos (by omega)];simp
 unfold atI;rw [e];exact h
noncomputable def PlainIx (b:Expr):Prop:=∀ o i,subscripted b false o i=operate [o,i] (getItem o i)
noncomputable def IxR (X:Cx) (r:R2):Prop :=
 ∀ (value slice:Expr) (pins:List (Addr×Obj)) (s:Shared) (σ:St) (H:Hp) (x y:V) (v u:Value) (Q:VK),Inv X pins σ H s→RelV x v→RelV y u→r x y H Q →
  subscripted slice false v u=operate [v,u] (getItem v u)→wpAny (model X.prog X.w) X.A (subscriptTail value slice v u) (EP X pins σ Q) X.xe s
noncomputable def MtR (X:Cx) (id:String) (r:V→List V→Hp→VK→Prop):Prop :=
 ∀ (pins:List (Addr×Obj)) (s:Shared) (σ:St) (H:Hp) (x:V) (xs:List V) (v:Value) (us:List Value) (Q:VK),Inv X pins σ H s→RelV x v→Vals xs us→r x xs H Q →
  wpAny (model X.prog X.w) X.A (call (.builtin id) (v::us)) (EP X pins σ Q) X.xe s
section
variable {X:Cx}{a b:Expr}{ta tb:TE}{pos:Pos}
theorem IxR.or {r r':R2}(h:IxR X r) (h':IxR X r'):IxR X (fun x y H Q=>r x y H Q∨r' x y H Q):=by
 intro value slice pins s σ H x y v u Q I rx ry q hs;rcases q with q | q
 ·exact h value slice pins s σ H x y v u Q I rx ry q hs
 ·exact h' value slice pins s σ H x y v u Q I rx ry q hs
theorem pe_ix {r:R2}(hr:IxR X r) (ha:PE X a ta) (hb:PE X b tb) (hs:PlainIx b):PE X (.Subscript a b pos) (tOp r ta tb):=by
 intro pins s σ H Q I h;exact Subscript_ (binT ha hb I h fun v u s2 x y H2 I2 rx ry q=>hr a b pins s2 σ H2 x y v u Q I2 rx ry q (hs _ _))
noncomputable def rIxL (K:PySem.W.Frag):R2:=fun x y H Q=>∃ p xs i v,x=.ref p∧y=.int i∧SqL K H p xs∧atI xs i=some v∧Q v H
noncomputable def rIxT (K:PySem.W.Frag):R2:=fun x y H Q=>∃ p xs i v,x=.ref p∧y=.int i∧SqT K H p xs∧atI xs i=some v∧Q v H
noncomputable def rIxS:R2:=fun x y H Q=>∃ z i c,x=.str z∧y=.int i∧z.length≤sizeLine∧atI z.cps.toList i=some c∧Q (.str ⟨#[c]⟩) H
theorem ix_list:IxR X (rIxL X.K):=by
 intro value slice pins s σ H x y v u Q I rx ry h hs;obtain ⟨p,xs,i,z,rfl,rfl,hq,he,q⟩:=h;cases rx;obtain ⟨t,rfl⟩:=ry;obtain ⟨its,r,pl,hz⟩:=I.list hq;obtain ⟨j,h1,h2,h3,h4,h5⟩:=atI_get he;obtain ⟨w,ew,rw'⟩:=r.get h2;have hl:=r.length;have hn:=line63;have fin:EP X pins σ Q w s:=⟨z,H,I,rw',q⟩
 by_cases h0:0≤i
 ·have hj:i.toNat=j:=by
   rw [seqIndex_of h0 h5] at h1;exact Option.some.inj h1
  exact item_listR pl.isList h0 (by omega) (by rw [hj];simpa using ew) fin hs
 ·have hj:(i+(its.toArray.size:Int)).toNat=j:=by
   rw [seqIndex_neg (by omega) h4] at h1;rw [List.size_toArray,← hl];exact Option.some.inj h1
  exact subscriptTail_builtinR (x:=w) pl.isList.typeIs slot_list_getitem.lookup
   (wpAny_getItem_list_neg (Q:=fun r s'=>r=w∧EP X pins σ Q r s') pl.isList (by omega) (by rw [List.size_toArray] <;> omega) (by omega) (by rw [hj];simpa using ew) ⟨rfl,fin⟩) hs
theorem ix_tup:IxR X (rIxT X.K):=by
 intro value slice pins s σ H x y v u Q I rx ry h hs;obtain ⟨p,xs,i,z,rfl,rfl,hq,he,q⟩:=h;cases rx;obtain ⟨t,rfl⟩:=ry;obtain ⟨its,r,pl,hz⟩:=I.tuple hq;obtain ⟨j,h1,h2,h3,h4,h5⟩:=atI_get he;obtain ⟨w,ew,rw'⟩:=r.get h2;have hl:=r.length;have hn:=line63;have fin:EP X pins σ Q w s:=⟨z,H,I,rw',q⟩;exact subscriptTail_builtinR (x:=w) pl.typeIs slot_tuple_getitem.lookup
  (getItem_tuple (j:=j) (Q:=fun r s'=>r=w∧EP X pins σ Q r s') pl (by omega) (by omega) (by rw [List.size_toArray,← hl];exact h1) (by simpa using ew) ⟨rfl,fin⟩) hs
theorem ix_str:IxR X rIxS:=by
 intro value slice pins s σ H x y v u Q I rx ry h hs;obtain ⟨z,i,c,rfl,rfl,hz,he,q⟩:=h;obtain ⟨t,rfl⟩:=rx;obtain ⟨t',rfl⟩:=ry;obtain ⟨j,h1,h2,h3,h4,h5⟩:=atI_get he;have hl:z.cps.toList.length=z.length:=by simp [Str.length]
 rw [hl] at h1 h4 h5;have hn:=line63
 exact tail_any (typeIs_str s z t) slot_str_getitem.lookup (getItem_str (c:=c) (by
  have e1:decide (i < -(2 ^ 63:Int))=false:=decide_eq_false (by omega);have e2:decide (i ≥ 2 ^ 63)=false:=decide_eq_false (by omega)
  rw [e1,e2,Bool.or_false]) (by rw [h1];simpa using h2) ⟨.str ⟨#[c]⟩,H,I.tok _,⟨_,rfl⟩,q⟩) hs
noncomputable def rIx (K:PySem.W.Frag):R2:=fun x y H Q=>rIxL K x y H Q∨rIxT K x y H Q∨rIxS x y H Q
theorem ix_seq:IxR X (rIx X.K):=ix_list.or (ix_tup.or ix_str)
theorem mapSeq_set (its:List Value) (n j:Nat) (u:Value):Obj.mapSeq (·.setIfInBounds j u) { cls:=.type "list",data:=.seq its.toArray n }={ cls:=.type "list",data:=.seq (its.set j u).toArray n }:=by
 simp [Obj.mapSeq]
theorem Inv.lst {pins:List (Addr×Obj)}{σ:St}{H:Hp}{s:Shared}{p:Addr}{xs:List V}(I:Inv X pins σ H s) (h:H p=some (.lst xs)) :
  ∃ (its:List Value) (n:Nat),Vals xs its∧s.heap.get? p=some { cls:=.type "list",data:=.seq its.toArray n }∧xs.length≤sizeLine:=by
 obtain ⟨z,its,n,r,e⟩:=I.hok p _ h;exact ⟨its,n,r,e,z⟩
theorem Inv.lstUpd {pins:List (Addr×Obj)}{σ:St}{H:Hp}{s:Shared}{p:Addr}{xs ys:List V}{its its':List Value}{n n':Nat}{f:Obj→Obj}(I:Inv X pins σ H s) (h:H p=some (.lst xs))
  (ho:s.heap.get? p=some { cls:=.type "list",data:=.seq its.toArray n }) (hf:f { cls:=.type "list",data:=.seq its.toArray n }={ cls:=.type "list",data:=.seq its'.toArray n' }) (r:Vals ys its') (hz:ys.length≤sizeLine) (t:Nat) :
  Inv X pins σ (upd H p (.lst ys)) { s with heap:=s.heap.update p f,toks:=t }:=by
 have e:(s.heap.update p f).get? p=some { cls:=.type "list",data:=.seq its'.toArray n' }:=by
  rw [Heap.get?_update_self f ho (by rw [hf] <;> rfl),hf]
 refine I.write (x:=p) (e:=p) (by rw [h];trivial) (.inl rfl) (fun b u hb q=>(Heap.get?_update_other _ _ (Ne.symm hb)).trans q) ⟨_,e⟩ ?_;exact ⟨hz,its',n',r,e⟩
noncomputable def rSetL:V→V→V→Hp→(Hp→Prop)→Prop:=fun o i v H Q=>∃ p xs k j,o=.ref p∧i=.int k∧H p=some (.lst xs)∧ixN xs.length k=some j∧Q (upd H p (.lst (xs.set j v)))
theorem set_list:PSet X rSetL:=by
 intro pins s σ H o i v ov iv u Q I ro ri rv h;obtain ⟨p,xs,k,j,rfl,rfl,hp,hj,q⟩:=h;cases ro;obtain ⟨t,rfl⟩:=ri;obtain ⟨its,n,r,ho,hz⟩:=I.lst hp;obtain ⟨h1,h2,h3,h4⟩:=ixN_seq hj;have hl:=r.length;have hn:=line63;have I':Inv X pins σ (upd H p (.lst (xs.set j v))) { s with heap:=s.heap.update p (Obj.mapSeq (·.setIfInBounds j u)) } :=
  I.lstUpd hp ho (mapSeq_set its n j u) (r.set rv j) (by rw [List.length_set];exact hz) s.toks
 by_cases h0:0≤k
 ·have hk:k.toNat=j:=by
   rw [seqIndex_of h0 h4] at h1;exact Option.some.inj h1
  exact PySem.W.ki_setAt ho h0 (by omega) (by rw [List.size_toArray,← hl];exact h4) (by rw [hk];exact ⟨_,I',q⟩)
 ·have hk:(k+(its.toArray.size:Int)).toNat=j:=by
   rw [seqIndex_neg (by omega) h3] at h1;rw [List.size_toArray,← hl];exact Option.some.inj h1
  exact PySem.W.ki_setBack ho (by omega) (by rw [List.size_toArray,← hl];exact h3) (by omega) (by rw [hk];exact ⟨_,I',q⟩)
theorem slice_bounds (lo hi:Option Int) (n:Nat):(sliceBounds lo hi none n).1=((HT.sIx n 0 lo:Nat):Int)∧(sliceBounds lo hi none n).2.1=((HT.sIx n n hi:Nat):Int)∧(sliceBounds lo hi none n).2.2=1:=by
 refine ⟨?_,?_,rfl⟩
 ·cases lo with
  | none=>simp [sliceBounds,HT.sIx]
  | some i =>
   simp only [sliceBounds,HT.sIx,Option.getD_none,show (1:Int) > 0 by decide,if_true]
   by_cases h:i < 0
   ·simp only [h,if_true] <;> omega
   ·simp only [h,if_false] <;> omega
 ·cases hi with
  | none=>simp [sliceBounds,HT.sIx]
  | some i =>
   simp only [sliceBounds,HT.sIx,Option.getD_none,show (1:Int) > 0 by decide,if_true]
   by_cases h:i < 0
   ·simp only [h,if_true] <;> omega
   ·simp only [h,if_false] <;> omega
theorem slicePick_cut (its:List Value) (lo hi:Option Int):slicePick its.toArray lo hi none=((its.drop (HT.sIx its.length 0 lo)).take (HT.sIx its.length its.length hi - HT.sIx its.length 0 lo)).toArray:=by
 obtain ⟨h1,h2,h3⟩:=slice_bounds lo hi its.toArray.size;unfold slicePick;rw [h1,h2,h3];simp only [sliceRange_one,pick_run,List.size_toArray] <;> rfl
noncomputable def rSlL (K:PySem.W.Frag):V→Option Int→Option Int→Hp→VK→Prop:=fun x lo hi H Q=>∃ a xs,x=.ref a∧SqL K H a xs∧∀ p,H p=none→Q (.ref p) (upd H p (.lst (cutV xs lo hi)))
theorem sl_list:SlR X (rSlL X.K):=by
 intro pins s σ H x v vl vu lo hi sl Q I rx hs pl pu h;obtain ⟨a,xs,rfl,hx,q⟩:=h;cases rx;obtain ⟨its,r,ht,hz⟩:=I.list hx;have hlen:=r.length
 refine ⟨"list",_,slot_list_getitem.lookup,ht.isList.typeIs,?_⟩;refine wpAny_getItem_list_slice ht.isList hs pl pu .none (by simp) ?_ (by rw [List.size_toArray] <;> omega);rw [slicePick_cut,← hlen];refine ⟨.ref s.heap.objs.size,_,I.laid (t':=s.toks) (o:=.lst (cutV xs lo hi)) (fun b ob q=>Heap.get?_push_of_some _ q) (Nat.le_refl _) ?_,rfl,q _ (I.hok.fresh (Nat.le_refl _))⟩;exact ⟨Nat.le_trans (cutV_length xs lo hi) hz,_,0,(r.drop (HT.sIx xs.length 0 lo)).take (HT.sIx xs.length xs.length hi - HT.sIx xs.length 0 lo),Heap.get?_push_size _ rfl⟩
theorem call_len_seq:CallR X (.builtin "len") (fun xs H Q=>∃ p ys,xs=[.ref p]∧(SqL X.K H p ys∨SqT X.K H p ys)∧Q (.int ys.length) H):=by
 intro pins s σ H xs us Q I r h;obtain ⟨p,ys,rfl,hq,q⟩:=h;obtain ⟨u,rfl,rx⟩:=vals1 r;cases rx;have hn:=line63;rcases hq with hq | hq
 ·obtain ⟨its,r',pl,hz⟩:=I.list hq;have hlen:=r'.length;exact Calls.call_len_list pl.isList (by simp only [List.size_toArray] <;> omega) ⟨.int ys.length,H,I.tok _,⟨s.toks+1,by rw [List.size_toArray,hlen]⟩,q⟩
 ·obtain ⟨its,r',pl,hz⟩:=I.tuple hq;have hlen:=r'.length;exact len_tuple pl (by simp only [List.size_toArray] <;> omega) ⟨.int ys.length,H,I.tok _,⟨s.toks+1,by rw [List.size_toArray,hlen]⟩,q⟩
theorem call_len_str:CallR X (.builtin "len") (fun xs H Q=>∃ z,xs=[.str z]∧z.length≤sizeLine∧Q (.int z.length) H):=by
 intro pins s σ H xs us Q I r h;obtain ⟨z,rfl,hz,q⟩:=h;obtain ⟨u,rfl,t,rfl⟩:=vals1 r;have hn:=line63;exact len_str (by omega) ⟨.int z.length,H,I.tok _,⟨_,rfl⟩,q⟩
theorem CallR.or {f:Value}{r r':List V→Hp→VK→Prop}(h:CallR X f r) (h':CallR X f r'):CallR X f (fun xs H Q=>r xs H Q∨r' xs H Q):=by
 intro pins s σ H xs us Q I rs q;rcases q with q | q
 ·exact h pins s σ H xs us Q I rs q
 ·exact h' pins s σ H xs us Q I rs q
theorem call_list_of:CallR X (.type "list") (fun xs H Q=>∃ p ys,xs=[.ref p]∧(SqL X.K H p ys∨SqT X.K H p ys)∧∀ l,H l=none→Q (.ref l) (upd H l (.lst ys))):=by
 intro pins s σ H xs us Q I r h;obtain ⟨p,ys,rfl,hq,q⟩:=h;obtain ⟨u,rfl,rx⟩:=vals1 r;cases rx;have fin:∀ (its:List Value),Vals ys its→ys.length≤sizeLine→∀ (h':Heap) (c':Nat),(∀ b o',s.heap.get? b=some o'→h'.get? b=some o') →
   h'.get? s.heap.objs.size=some { cls:=.type "list",dict:=none,data:=.seq its.toArray c',slots:=#[] }→EP X pins σ Q (.ref s.heap.objs.size) { s with heap:=h' }:=fun its r' hz h' c' kp e =>
  ⟨.ref s.heap.objs.size,_,I.laid (t':=s.toks) kp (Nat.le_refl _) (show ObjOk X.prog X.w _ h' _ (.lst ys) from ⟨hz,its,c',r',e⟩),rfl,q _ (I.hok.fresh (Nat.le_refl _))⟩
 rcases hq with hq | hq
 ·obtain ⟨its,r',pl,hz⟩:=I.list hq;have hlen:=r'.length;obtain ⟨o,ho,hc,n,hd⟩:=pl.isList;exact call_list_seq p (.inl rfl) ho hc hd (fun h' c' kp e=>fin its r' hz h' c' kp e) (by simp only [List.size_toArray] <;> omega)
 ·obtain ⟨its,r',pl,hz⟩:=I.tuple hq;have hlen:=r'.length;obtain ⟨o,ho,hc,n,hd⟩:=pl;exact call_list_seq p (.inr rfl) ho hc hd (fun h' c' kp e=>fin its r' hz h' c' kp e) (by simp only [List.size_toArray] <;> omega)
noncomputable def tyV (K:PySem.W.Frag) (T:String) (x:V) (H:Hp):Prop:=match x with
 | .str _=>T = "str"
 | .int _=>T = "int"
 | .ref p=>(T = "list"∧∃ xs,SqL K H p xs)∨(T = "tuple"∧∃ xs,SqT K H p xs) ∨
   (T = "dict"∧((∃ kvs,H p=some (.dK kvs))∨∃ kvs,H p=some (.dT kvs)))∨(T = "set"∧∃ S n,H p=some (.set S n))
 | _=>False
theorem tyV_is {pins:List (Addr×Obj)}{σ:St}{H:Hp}{s:Shared}{T:String}{x:V}{v:Value}(I:Inv X pins σ H s) (r:RelV x v) (ty:tyV X.K T x H) :
  s.TypeIs v T∧∀ a,v=.ref a→∃ ob,s.heap.get? a=some ob∧ob.dict=none:=by
 cases x with
 | str z =>
  obtain ⟨t,rfl⟩:=r
  cases (show T = "str" from ty);exact ⟨typeIs_str s z t,fun _ e=>nomatch e⟩
 | int i =>
  obtain ⟨t,rfl⟩:=r
  cases (show T = "int" from ty);exact ⟨typeIs_int s i t,fun _ e=>nomatch e⟩
 | ref p =>
  cases r;rcases ty with ⟨rfl,xs,hq⟩ | ⟨rfl,xs,hq⟩ | ⟨rfl,hk⟩ | ⟨rfl,S,n,hk⟩
  ·obtain ⟨its,_,pl,_⟩:=I.list hq;refine ⟨pl.isList.typeIs,fun a e=>?_⟩;cases e;obtain ⟨o,n,e,c,hd,_⟩:=pl;exact ⟨o,e,hd⟩
  ·obtain ⟨its,_,⟨o,e,c,d,n,dd⟩,_⟩:=I.tupleP hq;refine ⟨⟨o,e,c⟩,fun a e2=>?_⟩;cases e2;exact ⟨o,e,d⟩
  ·have z:∃ o,s.heap.get? p=some o∧o.ExactDict:=by
    rcases hk with ⟨kvs,hk⟩ | ⟨kvs,hk⟩
    ·obtain ⟨_,_,_,_,o,_,_,e,ex,_⟩:=I.hok p _ hk;exact ⟨o,e,ex⟩
    ·obtain ⟨_,_,_,_,o,_,_,e,ex,_⟩:=I.hok p _ hk;exact ⟨o,e,ex⟩
   obtain ⟨o,e,ex⟩:=z;refine ⟨⟨o,e,ex.1⟩,fun a e2=>?_⟩;cases e2;exact ⟨o,e,ex.2.1⟩
  ·obtain ⟨o,_,_,_,e,ex,_⟩:=I.hok p _ hk;refine ⟨⟨o,e,ex.1⟩,fun a e2=>?_⟩;cases e2;exact ⟨o,e,ex.2.1⟩
 | _=>exact False.elim ty
noncomputable def tBM0 (K:PySem.W.Frag) (T:String) (r:V→List V→Hp→VK→Prop) (to:TE):TE:=fun σ H Q=>to σ H fun x H1=>tyV K T x H1∧r x [] H1 Q
noncomputable def tBM (K:PySem.W.Frag) (T:String) (r:V→List V→Hp→VK→Prop) (to:TE) (t:TA):TE:=fun σ H Q=>to σ H fun x H1=>tyV K T x H1∧t σ H1 fun xs H2=>r x xs H2 Q
variable {o e:Expr}{es:List Expr}{to:TE}{t:TA}{name:Str}{apos cpos:Pos}{T id:String}{r:V→List V→Hp→VK→Prop}
theorem pe_bm0 (pa:PlainAttrs T) (slot:Slot T name id) (hty:typeOf (.builtin id)=pure (.type "method_descriptor")) (hm:MtR X id r) (ho:PE X o to)
  (hbase:attributeBase o name X.env (eval o X.env)=eval o X.env:=by rfl) (hline:(apos.endLine==cpos.line)=true:=by rfl):PE X (.Call (.Attribute o name apos) [] [] cpos) (tBM0 X.K T r to):=by
 intro pins s σ H Q I h;refine wpAny_Call_method0_late hbase hline (thn (ho pins s σ H _ I h) ?_);rintro v s1 ⟨x,H1,I1,r1,ty,q1⟩;obtain ⟨h1,h2⟩:=tyV_is I1 r1 ty;exact ⟨T,id,pa,slot,hty,h1,h2,Calls.callWith_builtin rfl (PySem.evalArgs_none (hm pins s1 σ H1 x [] v [] Q I1 r1 .nil q1))⟩
theorem pe_bm (pa:PlainAttrs T) (slot:Slot T name id) (hty:typeOf (.builtin id)=pure (.type "method_descriptor")) (hm:MtR X id r) (ho:PE X o to) (ha:PA X (e::es) t)
  (hbase:attributeBase o name X.env (eval o X.env)=eval o X.env:=by rfl)
  (hfew:((backTo cpos (starEach (e::es) X.env)).all (fun x=>!x.1)&&(backToKw cpos (keywordEach [] X.env)).all (fun x=>x.1.isSome)
   && decide ((e::es).length+([]:List Keyword).length+(if ([]:List Keyword).isEmpty then 0 else 1) < 30))=true:=by rfl)
  (hline:(apos.endLine==cpos.line)=true:=by rfl) (hs:starEach (e::es) X.env=(false,eval e X.env)::starEach es X.env:=by rfl) (hplain:(backTo cpos (starEach es X.env)).any (·.1)=false:=by rfl) :
  PE X (.Call (.Attribute o name apos) (e::es) [] cpos) (tBM X.K T r to t):=by
 intro pins s σ H Q I h;refine wpAny_Call_method_late hbase hfew hline rfl (thn (ho pins s σ H _ I h) ?_);rintro v s1 ⟨x,H1,I1,r1,ty,q1⟩;obtain ⟨h1,h2⟩:=tyV_is I1 r1 ty;refine ⟨T,id,pa,slot,hty,h1,h2,?_⟩;have hA:=ha cpos pins s1 σ H1 _ I1 q1;rw [hs] at hA ⊢;refine Calls.callWith_builtin (by show (false || (backTo cpos (starEach es X.env)).any (·.1))=false;rw [hplain] <;> rfl) (Calls.evalArgs_plain ?_);refine thn hA ?_;rintro us s2 ⟨vs,H2,I2,r2,q2⟩;exact hm pins s2 σ H2 x vs v us Q I2 r1 r2 q2
end
noncomputable def MtM (X:Cx) (id:String) (r:V→List V→Hp→VK→Prop):Prop :=
 ∀ (pins:List (Addr×Obj)) (s:Shared) (σ:St) (H:Hp) (x:V) (xs:List V) (v:Value) (us:List Value) (Q:VK),Inv X pins σ H s→RelV x v→Vals xs us→r x xs H Q →
  wpAny (model X.prog X.w) X.A (call (.builtin id) (v::us)) (EP X pins σ Q) X.xe s
theorem Vals.one {x:V}{us:List Value}(h:Vals [x] us):∃ u,us=[u]∧RelV x u:=by
 cases h with
 | cons r t=>cases t;exact ⟨_,rfl,r⟩
theorem Vals.two {x y:V}{us:List Value}(h:Vals [x,y] us):∃ u v,us=[u,v]∧RelV x u∧RelV y v:=by
 cases h with
 | cons r t =>
  obtain ⟨v,e,q⟩:=Vals.one t;subst e;exact ⟨_,_,rfl,r,q⟩
theorem Vals.zero:∀ {us:List Value},Vals [] us→us=[]
 | _,.nil=>rfl
theorem Vals.dropLast {xs:List V}{us:List Value}(h:Vals xs us):Vals xs.dropLast us.dropLast:=by
 induction h with
 | nil=>exact .nil
 | cons r t ih =>
  cases t with
  | nil=>exact .nil
  | cons q t'=>exact .cons r ih
theorem Vals.eraseIdx:∀ {xs:List V}{us:List Value}(i:Nat),Vals xs us→Vals (xs.eraseIdx i) (us.eraseIdx i)
 | _,_,_,.nil=>.nil
 | _,_,0,.cons _ t=>t
 | _,_,i+1,.cons r t=>.cons r (Vals.eraseIdx i t)
theorem Vals.reverse {xs:List V}{us:List Value}(h:Vals xs us):Vals xs.reverse us.reverse:=by
 induction h with
 | nil=>exact .nil
 | cons r t ih=>rw [List.reverse_cons,List.reverse_cons];exact Vals.append ih (.cons r .nil)
theorem Vals.rep {xs:List V}{us:List Value}(h:Vals xs us):∀ k:Nat,Vals (List.replicate k xs).flatten (List.replicate k us).flatten
 | 0=>.nil
 | k+1=>by
  rw [List.replicate_succ,List.replicate_succ,List.flatten_cons,List.flatten_cons];exact Vals.append h (Vals.rep h k)
theorem len_erase {α:Type}:∀ (l:List α) (i:Nat),(l.eraseIdx i).length≤l.length
 | [],_=>Nat.le_refl _
 | _::_,0=>Nat.le_succ _
 | _::r,i+1=>Nat.succ_le_succ (len_erase r i)
theorem foldl_rep (its:List Value):∀ (k:Nat) (acc:List Value),
  List.foldl (fun x1 x2=>x1++x2) acc.toArray (List.replicate k its.toArray)=(acc++(List.replicate k its).flatten).toArray
 | 0,acc=>by simp
 | k+1,acc=>by
  have e:acc.toArray++its.toArray=(acc++its).toArray:=by simp
  have e2:(acc++its)++(List.replicate k its).flatten=acc++(List.replicate (k+1) its).flatten:=by
   rw [List.replicate_succ,List.flatten_cons,List.append_assoc]
  rw [← e2,← foldl_rep its k (acc++its),← e,List.replicate_succ,List.foldl_cons]
section
variable {X:Cx}{pins:List (Addr×Obj)}{σ:St}{H:Hp}{s:Shared}{l b:Addr}{xs ys zs:List V}
theorem Inv.lset {its its':List Value}{n:Nat}{f:Array Value→Array Value}{t':Nat}(I:Inv X pins σ H s) (hH:H l=some (.lst xs))
  (e:s.heap.get? l=some { cls:=.type "list",data:=.seq its.toArray n }) (hf:f its.toArray=its'.toArray) (hv:Vals ys its') (hz:ys.length≤sizeLine) :
  Inv X pins σ (upd H l (.lst ys)) { s with heap:=s.heap.update l (Obj.mapSeq f),toks:=t' }:=by
 have q:=PySem.IsL.update e f;rw [hf] at q;refine I.write (x:=l) (e:=l) (by rw [hH];exact trivial) (.inl rfl) (fun b' u hb hu=>(Heap.get?_update_other s.heap (Obj.mapSeq f) (Ne.symm hb)).trans hu) ⟨_,q⟩ ?_;exact ⟨hz,its',_,hv,q⟩
theorem Inv.lnew {its:List Value}{t':Nat}(I:Inv X pins σ H s) (hv:Vals ys its) (hz:ys.length≤sizeLine) :
  Inv X pins σ (upd H s.heap.objs.size (.lst ys)) { s with heap:=s.heap.push { cls:=.type "list",data:=.seq its.toArray },toks:=t' } :=
 I.laid (fun _ _ q=>Heap.get?_push_of_some _ q) (Nat.le_refl _) ⟨hz,its,0,hv,Heap.get?_push_size _ rfl⟩
theorem Inv.fresh (I:Inv X pins σ H s):H s.heap.objs.size=none:=I.hok.fresh (Nat.le_refl _)
theorem Inv.lstM (I:Inv X pins σ H s) (hH:H l=some (.lst xs)):xs.length≤sizeLine∧∃ (its:List Value) (n:Nat),Vals xs its∧xs.length=its.length∧s.heap.get? l=some { cls:=.type "list",data:=.seq its.toArray n }:=by
 obtain ⟨z,its,n,r,e⟩:=I.hok l _ hH;exact ⟨z,its,n,r,r.length,e⟩
end
section
variable {X:Cx}
noncomputable def rAppend:V→List V→Hp→VK→Prop:=fun x vs H Q=>∃ l xs y,x=.ref l∧vs=[y]∧H l=some (.lst xs)∧xs.length < sizeLine∧Q .non (upd H l (.lst (xs++[y])))
theorem mt_append:MtM X "list.append" rAppend:=by
 intro pins s σ H x vs v us Q I rx rv h;obtain ⟨l,xs,y,rfl,rfl,hH,hz,q⟩:=h;cases rx;obtain ⟨u,rfl,ru⟩:=rv.one;obtain ⟨z,its,n,r,hl,e⟩:=I.lstM hH;refine call_meets F.slot_list_append ⟨_,e,rfl⟩ F.entry_list_append (F.args_list_append_2 _ _) (PySem.list_append l its.toArray n u (by rw [List.size_toArray];omega)) ⟨e,?_⟩;refine ⟨.non,_,I.lset (its':=its++[u]) hH e (by simp) (r.append (.cons ru .nil)) ?_,rfl,q⟩;rw [List.length_append,List.length_singleton];omega
noncomputable def rPopAt:V→List V→Hp→VK→Prop:=fun x vs H Q=>∃ l xs i k y,x=.ref l∧vs=[.int i]∧H l=some (.lst xs)∧-(2 ^ 63)≤i∧i < 2 ^ 63∧seqIndex? i xs.length=some k∧xs[k]?=some y∧Q y (upd H l (.lst (xs.eraseIdx k)))
theorem mt_popAt:MtM X "list.pop" rPopAt:=by
 intro pins s σ H x vs v us Q I rx rv h;obtain ⟨l,xs,i,k,y,rfl,rfl,hH,h1,h2,hk,hy,q⟩:=h;cases rx;obtain ⟨u,rfl,ru⟩:=rv.one;obtain ⟨t,rfl⟩:=ru;obtain ⟨z,its,n,r,hl,e⟩:=I.lstM hH;obtain ⟨w,hw,rw'⟩:=r.get hy;refine call_meets F.slot_list_pop ⟨_,e,rfl⟩ F.entry_list_pop (F.args_list_pop_2 _ _)
  (MeetsSeq.list_pop_at l its.toArray n i t k w (fitsIndex_both h1 h2) (by rw [List.size_toArray,← hl];exact hk) (by rw [← Array.getElem?_toList];exact hw) (by rw [List.size_toArray];omega)) ⟨e,?_⟩
 refine ⟨y,_,I.lset (its':=its.eraseIdx k) hH e ?_ (r.eraseIdx k) ?_,rw',q⟩
 ·show its.toArray.eraseIdxIfInBounds k=(its.eraseIdx k).toArray;rw [List.eraseIdxIfInBounds_toArray]
 ·have:=len_erase xs k;omega
noncomputable def rCat:R2:=fun x y H Q=>∃ l b xs zs,x=.ref l∧y=.ref b∧H l=some (.lst xs)∧H b=some (.lst zs)∧xs.length+zs.length≤sizeLine∧∀ p,H p=none→Q (.ref p) (upd H p (.lst (xs++zs)))
theorem op_cat:OpR X (binaryOp .Add) rCat:=by
 intro pins s σ H x y v u Q I rx ry h;obtain ⟨l,b,xs,zs,rfl,rfl,hH,hB,hz,q⟩:=h;cases rx;cases ry;obtain ⟨z,its,n,r,hl,e⟩:=I.lstM hH;obtain ⟨z2,its2,n2,r2,hl2,e2⟩:=I.lstM hB;refine PySem.P.add_list e e2 ?_ (by rw [List.size_toArray,List.size_toArray];omega);have ea:its.toArray++its2.toArray=(its++its2).toArray:=by simp
 rw [ea];exact ⟨.ref _,_,I.lnew (t':=s.toks) (r.append r2) (by rw [List.length_append];omega),rfl,q _ I.fresh⟩
theorem len_rep {α:Type}(xs:List α) (k:Nat):(List.replicate k xs).flatten.length=k * xs.length:=by
 induction k with
 | zero=>simp
 | succ k ih=>rw [List.replicate_succ,List.flatten_cons,List.length_append,ih,Nat.succ_mul,Nat.add_comm]
end
section
variable {prog:Program}{w:World}{A:Around}{E:Value→Shared→Prop}{s:Shared}
end
section
variable {X:Cx}
end
end L2
namespace Att
open PySem PySem.W PySem.Calls PyProof.Rows
theorem ints_of_wellAll {P:Params}{h:Heap}:∀ (ns:List Int) (vs:List Value),WellAll P h vs (ns.map WData.int)→IntsAre vs ns:=by
 intro ns
 induction ns with
 | nil =>
  intro vs w;rw [List.map_nil] at w;cases w;exact .nil
 | cons n ns ih =>
  intro vs w;rw [List.map_cons] at w;cases w with
  | cons a b =>
   cases a;exact .cons _ _ (ih _ b)
theorem script_of {l:OpenLaw}{n:Nat}(hn:l.most=some n) {P:Params}{h:Heap}{args:List WData}{vals:List Value}
  (hpre:l.row.toRowW.claim.pre args=true) (hwl:WellAll P h vals args) :
  ∃ a vs ns,vals=[Value.ref a]∧args=[WData.list (ns.map WData.int)]∧h.get? a=some { cls:=.type "list",data:=.seq vs.toArray }∧IntsAre vs ns∧ns.length≤n:=by
 have hsh:WShape.hasAll [] args [.list .int]=true:=(pre_splitW hpre).1;have hc:l.pre.holds [] { args:=args }=true:=(pre_splitW hpre).2;obtain ⟨d,r,rfl,h1,h2⟩:=hasAllW_cons hsh;obtain rfl:=hasAllW_nil h2;obtain ⟨xs,rfl,h3⟩:=hasW_list h1;obtain ⟨ns,rfl⟩:=items_int h3;have hlen:ns.length≤n:=by
  unfold OpenLaw.pre at hc;have h4:(WTm.not (.lt (.lit (.int (n:Int))) (.len (.arg 0)))).holds [] { args:=[.list (ns.map .int)] }=true:=by
   have h4:=(holds_andW hc).1;rw [hn] at h4;exact h4
  have h5:=condW_of h4 (w_not (w_lt w_lit (w_len_list (w_arg rfl))));rw [List.length_map] at h5;refine Nat.le_of_not_lt fun q=>?_
  have q':(n:Int) < ((ns.length:Nat):Int):=by omega
  first
   | (rw [decide_eq_true q'] at h5;exact absurd h5 (by decide))
   | (simp at h5;omega)
 cases hwl with
 | cons w1 w2 =>
  cases w2;cases w1 with
  | list ho hall=>exact ⟨_,_,ns,rfl,rfl,ho,ints_of_wellAll ns _ hall,hlen⟩
theorem post_true (l:OpenLaw) (args:List WData):l.row.toRowW.claim.post args (.bool true) args=true :=
 postW_of (r:=l.row.toRowW) (X:=(true==true))
  (show WShape.has [] (.bool true) .bool=true by first | rfl | decide | simp [WShape.has,WShape.arms,WShape.armsAll])
  (show (WTm.eq .res (.lit (.bool true))).value [] { args:=args,res:=some (.bool true),after:=args }=some (.bool (true==true)) from w_eq_bool (w_res rfl) w_lit) rfl
theorem attach_call {l:OpenLaw}{n:Nat}{q:Program}{loose:List Str}{XP:(Str→Option Value)→Heap→Prop}{YP:World→Heap→Prop}{d:DefRec}
  (hn:l.most=some n) (hdf:d.params.defaults=[])
  (call:∀ (w:World) (s₀ s₁:Shared) (mg mb:Str→Option Value) (fa:Addr) (o:Obj) (pm cd doc:Value) (a:Addr) (vs:List Value) (ns:List Int),
   Ground q loose [] XP w s₀ mg mb s₁.heap→YP w s₁.heap →
   s₁.heap.get? fa=some o→o.data=.func (docDef d.name d.params d.body d.scope pm cd doc)→s₁.heap.CodeRec cd d.name→mg d.name=some (.ref fa) →
   s₁.heap.get? a=some { cls:=.type "list",data:=.seq vs.toArray }→IntsAre vs ns→ns.length≤n→s₁.gens=#[] →
   codeAny (model l.prog w) callerA (.call (.ref fa) ⟨[.ref a],[]⟩) (fun r s'=>r=.ok (.ret (.bool true))∧OldK s₁.heap s'.heap∧s'.os=s₁.os∧AllBare s'.gens) s₁) :
  WalkO q loose XP YP l.row.toRowW d [] (fun f vs=>PySem.call f vs):=by
 intro w s₀ s₁ mg mb G Y fa o pm cd doc dV kV ho hd hcd hD hmg hg args vals as hpre hlay hrd hwl hlo;obtain rfl:dV=.none:=Dflts.none hD hdf;obtain rfl:kV=.none:=Dflts.noKw hD;obtain ⟨a,vs,ns,rfl,rfl,hobj,hints,hlen⟩:=script_of hn hpre hwl;refine enter_call (codeAny_mono (call w s₀ s₁ mg mb fa o pm cd doc a vs ns G Y ho (fd_plain hd) hcd hmg hobj hints hlen hg) fun r s' hq=>?_);obtain ⟨rfl,h2,h3,h4⟩:=hq;exact ⟨.inl ⟨.bool true,.bool true,[],rfl,fun _=>rfl,.bool true,post_true l _,fun _=>⟨List.Pairwise.nil,fun _ hm=>(nomatch hm)⟩⟩,h2,h3,h4⟩
section
variable {prog:Program}{w:World}{A:Around}{E:Value→Shared→Prop}{s:Shared}{K:Frag}
end
end Att
namespace L2
open PySem PySem.Spec PyProof.Rows
theorem vals_ints:∀ {vs:List Value}{ns:List Int},IntsAre vs ns→Vals (ns.map V.int) vs
 | _,_,.nil=>.nil
 | _,_,.cons n t h=>.cons ⟨t,rfl⟩ (vals_ints h)
noncomputable def Only (H:Hp):Prop:=∀ b,H b=none∨∃ o xs,H b=some (.frz o (.lst xs))
theorem law_call {P:Program}{w:World}{K:PySem.W.Frag}{mg mb:Str→Option Value}{CX:CXT}{k:Nat}{fa a:Addr}{fd:FuncData}{x:Str}{sp:Sp}{s₁:Shared}{vs:List Value}{ns:List Int}
  (KX:K.In s₁.heap) (hns:s₁.heap.Ns mainGlobals mg) (hb:s₁.heap.Ns builtinsNs mb) (hbb:∀ x:Str,x ≠ "__name__"→mb x=bootBuiltins x) (hlim:s₁.heap.NoLimit) (hg:s₁.gens=#[])
  (ha:s₁.heap.get? a=some { cls:=.type "list",data:=.seq vs.toArray }) (hi:IntsAre vs ns) (hl:ns.length≤sizeLine) (hr:Room k callerA)
  (F:∀ base:Heap,K.In base→base.Ns mainGlobals mg→FnOk P w K mg base CX k fa fd [x] sp) (hbind:∀ (s:Shared) (u:Value),BindsTo s fd ⟨[u],[]⟩ [(x,u)])
  (hsp:∀ H:Hp,Only H→SqL K H a (ns.map V.int)→sp [.ref a] H (fun v _=>v=.bl true) fun _ _ _=>False)
  (hCX:∀ H e s',CX [] H s₁ (fun _ _ _=>False) e s'→False) :
  codeAny (model P w) callerA (.call (.ref fa) ⟨[.ref a],[]⟩) (fun r s'=>r=.ok (.ret (.bool true))∧OldK s₁.heap s'.heap∧s'.os=s₁.os∧AllBare s'.gens) s₁:=by
 have rv:=vals_ints hi;have lenV:=hi.length
 -- from an abstract heap in which nothing but the script may be tracked
 have core:∀ H:Hp,Only H→SqL K H a (ns.map V.int)→HOk P w H s₁.heap→(∀ b,H b≠none→b=a)→(H a≠none→K.lookup a=none) →
   codeAny (model P w) callerA (.call (.ref fa) ⟨[.ref a],[]⟩) (fun r s'=>r=.ok (.ret (.bool true))∧OldK s₁.heap s'.heap∧s'.os=s₁.os∧AllBare s'.gens) s₁:=by
  intro H hO hS hok hA hK;have base_of:∀ {b:Addr} {o:Obj},s₁.heap.get? b=some o→H b=none→(hidT s₁.heap H).get? b=some o:=fun e n=>hidT_get e n
  have noA:∀ {b:Addr} {o:Obj} {es:Array DictEntry} {ep:Nat},s₁.heap.get? b=some o→o.data=.dict es ep→H b=none:=fun {b o es ep} e d=>by
   cases q:H b with
   | none=>rfl
   | some u =>
    have e':b=a:=hA b (by rw [q];simp);subst e';rw [ha] at e;cases e;have d':Data.seq vs.toArray _=Data.dict es ep:=d;cases d'
  have nsK:∀ {b:Addr} {m:Str→Option Value},s₁.heap.Ns b m→(hidT s₁.heap H).Ns b m:=fun {b m} ⟨o,es,ep,e,d,r⟩=>⟨o,es,ep,base_of e (noA e d),d,r⟩
  have hKb:K.In (hidT s₁.heap H):=fun b o e=>base_of (KX b o e) (by
   cases q:H b with
   | none=>rfl
   | some u =>
    have e':b=a:=hA b (by rw [q];simp);subst e'
    rw [hK (by rw [q];simp)] at e;cases e)
  have hM:Mod K mg (hidT s₁.heap H):=⟨hKb,nsK hns,⟨mb,nsK hb,hbb⟩,let ⟨mc,h1,h2⟩:=hlim;⟨mc,nsK h1,h2⟩⟩;have e0:Env0 P w K mg (hidT s₁.heap H) callerA [] s₁ H:=⟨rfl,hM,fun b o e=>of_hidT e,Nat.le_of_eq (hidT_size _ _),trivial,fun b hb=>absurd (show b∈([]:List Addr) from hb) (by simp),hok,.of_eq hg⟩;refine codeAny_mono ((F _ hKb (nsK hns)).run callerA [] s₁ H ⟨[.ref a],[]⟩ [.ref a] [.ref a] _ _ hr e0 (hbind s₁ (.ref a)) (.cons rfl .nil) (hsp H hO hS)) fun r s' h=>?_
  cases r with
  | error e=>exact (hCX H e s' h).elim
  | ok fl =>
   cases fl with
   | next=>exact False.elim h
   | brk=>exact False.elim h
   | cont=>exact False.elim h
   | ret u =>
    obtain ⟨v,H',os,bare,un,hok',r',q⟩:=h;have q':v=.bl true:=q;subst q';obtain rfl:u=Value.bool true:=r';refine ⟨rfl,OldK.of_keep fun b o e=>?_,os,bare⟩;cases q:H b with
    | none=>exact un.keep b o e q (by intro z;exact absurd (show b∈([]:List Addr) from z) (by simp)) (by simp)
    | some u =>
     rcases hO b with z | ⟨ob,xs,z⟩
     ·rw [q] at z;cases z
     ·have z2:=un.frzs b ob _ z;obtain ⟨e1,_⟩:=hok b _ z;obtain ⟨e2,_⟩:=hok' b _ z2;rw [e] at e1;cases e1;exact e2
 cases hk:K.lookup a with
 | some o =>
  -- the script is one of the module's own objects
  have e:=KX a o hk;rw [ha] at e;cases e;refine core (fun _=>none) (fun _=>.inl rfl) (.inr ⟨_,vs.toArray,_,hk,rfl,rfl,rfl,by rw [List.size_toArray,lenV];exact hl,by simpa using rv⟩) (fun b u z=>by have z':(none:Option HO)=some u:=z;cases z') (fun b z=>absurd rfl z) fun z=>absurd rfl z
 | none =>
  refine core (fun b=>if b=a then some (.frz { cls:=.type "list",data:=.seq vs.toArray } (.lst (ns.map V.int))) else none) (fun b=>?_) (.inl (.inr ⟨{ cls:=.type "list",data:=.seq vs.toArray },if_pos rfl⟩)) (fun b u z=>?_) (fun b z=>?_) fun _=>hk
  ·by_cases hb:b=a
   ·exact .inr ⟨_,_,if_pos hb⟩
   ·exact .inl (if_neg hb)
  ·by_cases hb:b=a
   ·have z':=(if_pos hb).symm.trans z;cases z';subst hb;exact ⟨ha,by rw [List.length_map];exact hl,vs,_,rv,ha⟩
   ·have z':=(if_neg hb).symm.trans z;cases z'
  ·by_cases hb:b=a
   ·exact hb
   ·exact absurd (if_neg hb) z
theorem walk_of {l:PySem.W.OpenLaw}{n k:Nat}{q:Program}{loose:List Str}{XP:(Str→Option Value)→Heap→Prop}{YP:World→Heap→Prop}{d:DefRec}{K:Params→PySem.W.Frag}{CX:World→CXT}{sp:World→Sp}{x:Str}
  (hn:l.most=some n) (hn2:n≤sizeLine) (hdf:d.params.defaults=[]) (hr:Room k callerA)
  (hY:∀ (w:World) (h:Heap),YP w h→(K w.params).In h)
  (F:∀ (w:World) (mg:Str→Option Value) (fa:Addr) (h:Heap),(K w.params).In h→h.Ns mainGlobals mg→mg d.name=some (.ref fa) →
   ∃ fd:FuncData,(∀ (s:Shared) (u:Value),BindsTo s fd ⟨[u],[]⟩ [(x,u)]) ∧
    ∀ base:Heap,(K w.params).In base→base.Ns mainGlobals mg→FnOk l.prog w (K w.params) mg base (CX w) k fa fd [x] (sp w))
  (hsp:∀ (w:World) (H:Hp) (a:Addr) (ns:List Int),ns.length≤n→Only H→SqL (K w.params) H a (ns.map V.int)→sp w [.ref a] H (fun v _=>v=.bl true) fun _ _ _=>False)
  (hCX:∀ (w:World) (H:Hp) (s:Shared) (e:Value) (s':Shared),CX w [] H s (fun _ _ _=>False) e s'→False) :
  PySem.W.WalkO q loose XP YP l.row.toRowW d [] (fun f vs=>PySem.call f vs):=by
 refine Att.attach_call hn hdf fun w s₀ s₁ mg mb fa o pm cd doc a vs ns G Y ho hd hcd hmg hobj hints hlen hg=>?_
 have KX:=hY w _ Y;obtain ⟨fd,hb,hF⟩:=F w mg fa _ KX G.T.g hmg;exact law_call KX G.T.g G.T.b G.T.builtins G.T.nolimit hg hobj hints (Nat.le_trans hlen hn2) hr hF hb (fun H hO hS=>hsp w H a ns hlen hO hS) fun H e s'=>hCX w H s₁ e s'
noncomputable def defArgs (s:Stmt):Arguments:=match s with
 | .FunctionDef _ a _ _ _ _ _ _ _ _=>a
 | _=>{ posonlyargs:=[],args:=[],vararg:=none,kwonlyargs:=[],kw_defaults:=[],kwarg:=none,defaults:=[] }
noncomputable def defBody (s:Stmt):List Stmt:=match s with
 | .FunctionDef _ _ b _ _ _ _ _ _ _=>b
 | _=>[]
noncomputable def defScope (s:Stmt):Scope:=match s with
 | .FunctionDef _ _ _ _ _ _ sc _ _ _=>sc
 | _=>{ kind:=.function,names:=[],isGenerator:=false,isCoroutine:=false }
noncomputable abbrev CX0:CXT:=fun _ _ _ _ _ _=>False
noncomputable abbrev E0:XK:=fun _ _ _=>False
theorem pass0 {X:Cx}:Passes CX0 X E0:=fun _ _ _ _ _ _ _ h=>h.elim
structure Fun (K:PySem.W.Frag) (x qual:Str) (st:Stmt) (f:Addr) (fd:FuncData):Prop where
 ex:∃ (oc:Value) (od:Option Addr) (kV doc pm:Value) (an:Option Addr) (cdv ct:Value) (osl:Array (Option Value)),
  fd=PySem.W.fnOf x qual (defArgs st) (defBody st) (defScope st) .none kV doc pm an cdv ct∧K.lookup f=some ⟨oc,od,.func fd,osl⟩∧PySem.W.codeIn K cdv qual=true
 kp:PySem.W.keepIn K (.ref f)=true
section
variable {P:Program}{w:World}{K:PySem.W.Frag}{mg:Str→Option Value}{base:Heap}
theorem Fun.ok {x qual:Str}{st:Stmt}{f:Addr}{fd:FuncData}{N ps:List Str}{k:Nat}{sp:Sp}(F:Fun K x qual st f fd) (S:FnScope N ps (defScope st)) (len:∀ vs H Q E,sp vs H Q E→vs.length=ps.length)
  (hbody:∀ (cdv:Value) (A:Around) (outer:List Env) (s:Shared) (H:Hp) (vs:List V) (Q:VK) (E:XK),Room k (A.deeper (envOfC qual (defScope st) s.heap.objs.size f cdv))→sp vs H Q E →
   ∃ t,PSs (cxOf CX0 P w K mg base N qual (defScope st) f cdv A outer s H E).nox (defBody st) t∧t { nx:=fun _ H'=>Q .non H',rt:=Q } (start N vs) H):FnOk P w K mg base CX0 (k+1) f fd ps sp:=by
 obtain ⟨oc,od,kV,doc,pm,an,cdv,ct,osl,rfl,lk,hcd⟩:=F.ex;refine fn_of lk hcd S len fun A outer s H vs Q E hr hsp=>?_
 obtain ⟨t,h,q⟩:=hbody cdv A outer s H vs Q E hr hsp;exact ⟨t,h.nox,q⟩
theorem fun_mk {x qual:Str}{st:Stmt}{f:Addr}{oc:Value}{od an:Option Addr}{osl:Array (Option Value)}{kV doc pm cdv ct:Value}(l:K.lookup f=some ⟨oc,od,.func (PySem.W.fnOf x qual (defArgs st) (defBody st) (defScope st) .none kV doc pm an cdv ct),osl⟩)
  (c:PySem.W.codeIn K cdv qual=true) (k:PySem.W.keepIn K (.ref f)=true):Fun K x qual st f (PySem.W.fnOf x qual (defArgs st) (defBody st) (defScope st) .none kV doc pm an cdv ct):=⟨⟨oc,od,kV,doc,pm,an,cdv,ct,osl,rfl,l,c⟩,k⟩
end
section
variable {X:Cx}
end
theorem iteF {A B:Prop}(h:B):if false=true then A else B:=by
 rw [if_neg Bool.false_ne_true];exact h
theorem iteT {A B:Prop}(h:A):if true=true then A else B:=by
 rw [if_pos rfl];exact h
section
variable {κ:Type} [DecidableEq κ]
noncomputable def valV (kvs:List (κ×V)) (k:κ):Option V:=(kvs.find? fun kv=>decide (kv.1=k)).map (·.2)
noncomputable def putK (kvs:List (κ×V)) (k:κ) (v:V):List (κ×V) :=
 if (kvs.any fun kv=>decide (kv.1=k))=true then kvs.map (fun kv=>if kv.1=k then (kv.1,v) else kv) else kvs++[(k,v)]
theorem valV_pos {p:κ×V}{r:List (κ×V)}{k:κ}(e:p.1=k):valV (p::r) k=some p.2:=by simp [valV,List.find?_cons,e]
theorem valV_neg {p:κ×V}{r:List (κ×V)}{k:κ}(e:¬ p.1=k):valV (p::r) k=valV r k:=by simp [valV,List.find?_cons,e]
theorem length_putK (kvs:List (κ×V)) (k:κ) (v:V):(putK kvs k v).length≤kvs.length+1:=by
 unfold putK;split
 ·rw [List.length_map];omega
 ·rw [List.length_append,List.length_cons,List.length_nil];omega
theorem RelO.isSome_eq {o:Option V}{u:Option Value}(r:RelO o u):o.isSome=u.isSome:=by
 cases o with
 | none=>cases u with
  | none=>rfl
  | some _=>exact (show False from r).elim
 | some _=>cases u with
  | none=>exact (show False from r).elim
  | some _=>rfl
theorem KV.val {kvs:List (κ×V)}{vs:List (κ×Value)}(r:KV kvs vs) (k:κ):RelO (valV kvs k) (valueAt vs k):=by
 unfold KV at r
 induction r with
 | nil=>exact True.intro
 | @cons p q ps qs h t ih =>
  obtain ⟨h1,h2⟩:=h
  by_cases e:p.1=k
  ·have e':q.1=k:=h1.symm.trans e;have b:valueAt (q::qs) k=some q.2:=by simp [valueAt,List.find?_cons,e']
   rw [valV_pos e,b];exact h2
  ·have e':¬ q.1=k:=fun z=>e (h1.trans z)
   have b:valueAt (q::qs) k=valueAt qs k:=by simp [valueAt,List.find?_cons,e']
   rw [valV_neg e,b];exact ih
theorem KV.any {kvs:List (κ×V)}{vs:List (κ×Value)}(r:KV kvs vs) (k:κ):(kvs.any fun kv=>decide (kv.1=k))=vs.any fun kv=>decide (kv.1=k):=by
 unfold KV at r
 induction r with
 | nil=>rfl
 | cons h t ih=>rw [List.any_cons,List.any_cons,ih,h.1]
theorem KV.repl {kvs:List (κ×V)}{vs:List (κ×Value)}(r:KV kvs vs) (k:κ) {y:V}{u:Value}(ry:RelV y u) :
  KV (kvs.map fun kv=>if kv.1=k then (kv.1,y) else kv) (vs.map fun kv=>if kv.1=k then (kv.1,u) else kv):=by
 unfold KV at r ⊢
 induction r with
 | nil=>exact .nil
 | @cons p q ps qs h t ih =>
  rw [List.map_cons,List.map_cons];refine .cons ?_ ih;obtain ⟨h1,h2⟩:=h
  by_cases e:p.1=k
  ·rw [if_pos e,if_pos (h1.symm.trans e)];exact ⟨h1,ry⟩
  ·rw [if_neg e,if_neg (fun z=>e (h1.trans z))];exact ⟨h1,h2⟩
theorem KV.put {kvs:List (κ×V)}{vs:List (κ×Value)}(r:KV kvs vs) (k:κ) {y:V}{u:Value}(ry:RelV y u):KV (putK kvs k y) (stored vs k u):=by
 unfold putK stored;rw [r.any k]
 by_cases e:(vs.any fun kv=>decide (kv.1=k))=true
 ·rw [if_pos e,if_pos e];exact r.repl k ry
 ·rw [if_neg e,if_neg e];exact Paired.snoc r ⟨rfl,ry⟩
end
theorem kV_is {P:Program}{w:World}{k:Key}{u:Value}(r:RelV (kV k) u):(mixKind P w).is k u=true:=by
 cases k with
 | inl i=>obtain ⟨t,e⟩:=(show ∃ t,u=Value.int i t from r);subst e;exact mixKind_int P w i t
 | inr x=>obtain ⟨t,e⟩:=(show ∃ t,u=Value.str x t from r);subst e;exact mixKind_str P w x t
theorem items_are {P:Program}{w:World}:∀ {ks:List Key}{us:List Value},Vals (ks.map kV) us→ItemsAre (mixKind P w) ks us
 | [],_,r=>by rw [List.map_nil] at r;cases r;exact .nil
 | k::ks,_,r=>by
  rw [List.map_cons] at r;cases r with
  | cons h t=>exact .cons (kV_is h) (items_are t)
noncomputable abbrev KT (H:Hp):List (List Key×V)→List (List Key×Addr×Value)→Prop:=Paired fun p q=>p.1=q.1∧H q.2.1=some (.tup (p.1.map kV))∧RelV p.2 q.2.2
theorem KT.val {H:Hp}{kvs:List (List Key×V)}{xs:List (List Key×Addr×Value)}(r:KT H kvs xs) (k:List Key):RelO (valV kvs k) ((atKey xs k).map (·.2)):=by
 induction r with
 | nil=>exact True.intro
 | @cons p q ps qs h t ih =>
  obtain ⟨h1,_,h2⟩:=h
  by_cases e:p.1=k
  ·have e':q.1=k:=h1.symm.trans e;have b:atKey (q::qs) k=some q.2:=by simp [atKey,List.find?_cons,e']
   rw [valV_pos e,b];exact h2
  ·have e':¬ q.1=k:=fun z=>e (h1.trans z)
   have b:atKey (q::qs) k=atKey qs k:=by simp [atKey,List.find?_cons,e']
   rw [valV_neg e,b];exact ih
section
variable {P:Program}{w:World}{H:Hp}{h:Heap}{a:Addr}
theorem rd_of {u:HO}(ok:HOk P w H h) (e:Rd H a u):ObjOk P w H h a u:=e.ok ok
theorem dk_rd {kvs:List (Key×V)}(ok:HOk P w H h) (e:Rd H a (.dK kvs)):kvs.length≤sizeLine∧(a==sysModules)=false∧∃ vs,KV kvs vs∧h.DictOf (mixKind P w) a vs :=
 show ObjOk P w H h a (.dK kvs) from rd_of ok e
theorem dk_of {kvs:List (Key×V)}(ok:HOk P w H h) (e:H a=some (.dK kvs)):kvs.length≤sizeLine∧(a==sysModules)=false∧∃ vs,KV kvs vs∧h.DictOf (mixKind P w) a vs:=dk_rd ok (.inl e)
theorem key_of {ks:List Key}(ok:HOk P w H h) (e:H a=some (.tup (ks.map kV))):(tupleKind (mixKind P w)).is h ks a:=by
 obtain ⟨_,its,r,o,h1,h2,_,n,h3⟩:=(show ObjOk P w H h a (.tup (ks.map kV)) from ok a _ e);exact ⟨o,its.toArray,n,h1,h2,h3,by simpa using items_are r⟩
theorem dt_rd {kvs:List (List Key×V)}(ok:HOk P w H h) (e:Rd H a (.dT kvs)):kvs.length≤sizeLine∧(a==sysModules)=false ∧
  ∃ xs,KT H kvs xs∧h.DictOfH (tupleKind (mixKind P w)) a xs:=by
 obtain ⟨z,y,xs,r,o,es,ep,h1,h2,h3,h4,h5⟩:=(show ObjOk P w H h a (.dT kvs) from rd_of ok e);refine ⟨z,y,xs,r,o,es,ep,h1,h2,h3,h4,fun x hx=>?_,h5⟩;have all:∀ {l:List (List Key×V)} {m:List (List Key×Addr×Value)},KT H l m→∀ x∈m,(tupleKind (mixKind P w)).is h x.1 x.2.1:=by
  intro l m q
  induction q with
  | nil=>intro x hx;exact nomatch hx
  | @cons p q ps qs hq t ih =>
   intro x hx;rcases List.mem_cons.mp hx with e | hx
   ·subst e;exact key_of ok (by rw [← hq.1];exact hq.2.1)
   ·exact ih x hx
 exact all r x hx
end
noncomputable def DGet (H:Hp) (a:Addr) (y:V) (r:Option V):Prop :=
 (∃ kvs k,Rd H a (.dK kvs)∧y=kV k∧r=valV kvs k)∨∃ kvs k b,Rd H a (.dT kvs)∧y=.ref b∧H b=some (.tup (k.map kV))∧r=valV kvs k
theorem DGet.k {H:Hp}{a:Addr}{kvs:List (Key×V)}{k:Key}(e:H a=some (.dK kvs)):DGet H a (kV k) (valV kvs k):=.inl ⟨kvs,k,.inl e,rfl,rfl⟩
section
variable {X:Cx}{pins:List (Addr×Obj)}{σ:St}{H:Hp}{s:Shared}{a:Addr}{y v:V}{u r:Value}{o:Option V}{A:Around}{E:Value→Shared→Prop}
theorem Inv.big (I:Inv X pins σ H s):sysModules < s.heap.objs.size:=by
 have h:mainGlobals < s.heap.objs.size:=(I.mod.glob.keeps I.bk).lt;exact Nat.lt_trans (by decide) h
theorem d_in {Q:Value→Shared→Prop}(hu:A.units+1 < cLine) (I:Inv X pins σ H s) (g:DGet H a y o) (ry:RelV y u) (h:∀ s',Inv X pins σ H s'→Q (.bool o.isSome) s') :
  wpAny (model X.prog X.w) A (compareOp .In u (.ref a)) Q E s:=by
 rcases g with ⟨kvs,k,e,ey,l⟩ | ⟨kvs,k,b,e,ey,eb,l⟩
 ·subst ey;obtain ⟨z,hd,vs,rel,dd⟩:=dk_rd I.hok e;refine wpAny_in_of (kV_is ry) hd dd.mapOf ?_;rw [← (rel.val k).isSome_eq,← l];exact h _ (I.tok _)
 ·subst ey;cases (show u=Value.ref b from ry);obtain ⟨z,hd,xs,rel,dd⟩:=dt_rd I.hok e;refine wpAny_in_heap (tupleKind_room_in1 hu) (key_of I.hok eb) hd dd ?_;have q:=(rel.val k).isSome_eq;rw [Option.isSome_map] at q;rw [← q,← l];exact h _ (I.tok _)
theorem d_notIn {Q:Value→Shared→Prop}(hu:A.units+1 < cLine) (I:Inv X pins σ H s) (g:DGet H a y o) (ry:RelV y u) (h:∀ s',Inv X pins σ H s'→Q (.bool (!o.isSome)) s') :
  wpAny (model X.prog X.w) A (compareOp .NotIn u (.ref a)) Q E s:=by
 rcases g with ⟨kvs,k,e,ey,l⟩ | ⟨kvs,k,b,e,ey,eb,l⟩
 ·subst ey;obtain ⟨z,hd,vs,rel,dd⟩:=dk_rd I.hok e;refine wpAny_notIn_of (kV_is ry) hd dd.mapOf ?_;rw [← (rel.val k).isSome_eq,← l];exact h _ (I.tok _)
 ·subst ey;cases (show u=Value.ref b from ry);obtain ⟨z,hd,xs,rel,dd⟩:=dt_rd I.hok e;refine wpAny_notIn_heap (tupleKind_room_in1 hu) (key_of I.hok eb) hd dd ?_;have q:=(rel.val k).isSome_eq;rw [Option.isSome_map] at q;rw [← q,← l];exact h _ (I.tok _)
theorem d_write {h':Heap}{t':Nat}{ob:HO}(I:Inv X pins σ H s) (mu:Mut (H a)) (hs:Heap.SameBut a s.heap h') (he:∃ q,h'.get? a=some q) (new:ObjOk X.prog X.w (upd H a ob) h' a ob) :
  Inv X pins σ (upd H a ob) { s with heap:=h',toks:=t' } :=
 I.write (x:=a) (e:=a) mu (.inl rfl) (fun b q hb z=>(hs.2 b hb).trans z) he new
theorem dk_new {P:Program}{w:World}{H':Hp}{h':Heap}{kvs:List (Key×V)}{vs:List (Key×Value)}(z:kvs.length≤sizeLine) (hd:(a==sysModules)=false) (rel:KV kvs vs) (dd:h'.DictOf (mixKind P w) a vs) :
  ObjOk P w H' h' a (.dK kvs):=⟨z,hd,vs,rel,dd⟩
end
section
variable {X:Cx}{pins:List (Addr×Obj)}{σ:St}{H:Hp}{s:Shared}{a:Addr}{kvs:List (Key×V)}{k:Key}{u:Value}{A:Around}{E:Value→Shared→Prop}
end
section
variable {X:Cx}{o i e value:Expr}{pos pos' tpos:Pos}{td ty tv:TE}
end
theorem dk_empty {P:Program}{w:World}{H:Hp}(h:Heap) (hb:sysModules < h.objs.size):ObjOk P w H (h.push { cls:=.type "dict",data:=.dict #[] }) h.objs.size (.dK []) :=
 ⟨Nat.zero_le _,beq_eq_false_iff_ne.mpr (Ne.symm (Nat.ne_of_lt hb)),[],.nil,Heap.DictOf.new h⟩
section
variable {X:Cx}{pos:Pos}
end
noncomputable def tPairs:List (TE×TE)→St→Hp→(List (V×V)→Hp→Prop)→Prop
 | [],_,H,Q=>Q [] H
 | (tk,tv)::r,σ,H,Q=>tk σ H fun x H1=>tv σ H1 fun y H2=>tPairs r σ H2 fun ps H3=>Q ((x,y)::ps) H3
noncomputable abbrev VV:List (V×V)→List (Value×Value)→Prop:=Paired fun p q=>RelV p.1 q.1∧RelV p.2 q.2
noncomputable def PPs (X:Cx) (pos:Pos) (keys:List (Option Expr)) (values:List Expr) (trs:List (TE×TE)):Prop :=
 ∀ (pins:List (Addr×Obj)) (s:Shared) (σ:St) (H:Hp) (Q:List (V×V)→Hp→Prop),Inv X pins σ H s→tPairs trs σ H Q →
  wpAny (model X.prog X.w) X.A (evalPairs (pairTrees keys values X.env pos)) (fun vs s'=>∃ ps H',Inv X pins σ H' s'∧VV ps vs∧Q ps H') X.xe s
theorem pps_nil {X:Cx}{pos:Pos}:PPs X pos [] [] []:=fun pins s σ H Q I h=>pairTrees_nil_walk ⟨[],H,I,.nil,h⟩
theorem pps_cons {X:Cx}{pos:Pos}{k v:Expr}{ks:List (Option Expr)}{vs:List Expr}{tk tv:TE}{trs:List (TE×TE)}(hk:PE X k tk) (hv:PE X v tv) (hr:PPs X pos ks vs trs) :
  PPs X pos (some k::ks) (v::vs) ((tk,tv)::trs):=fun pins s σ H Q I h =>
 pairTrees_cons_walk (thn (hk pins s σ H _ I h) fun u s1 ⟨x,H1,I1,rx,q1⟩=>thn (hv pins s1 σ H1 _ I1 q1) fun w2 s2 ⟨y,H2,I2,ry,q2⟩ =>
  thn (hr pins s2 σ H2 _ I2 q2) fun ws s3 ⟨ps,H3,I3,rel,q3⟩=>⟨(x,y)::ps,H3,I3,.cons ⟨rx,ry⟩ rel,q3⟩)
noncomputable def mergeK (kvs more:List (Key×V)):List (Key×V):=more.foldl (fun acc kv=>putK acc kv.1 kv.2) kvs
theorem KV.merge:∀ {more:List (Key×V)}{rs:List (Key×Value)}{kvs:List (Key×V)}{vs:List (Key×Value)},KV more rs→KV kvs vs→KV (mergeK kvs more) (merged vs rs):=by
 intro more rs kvs vs r;unfold KV at r
 induction r generalizing kvs vs with
 | nil=>intro q;exact q
 | @cons p q ps qs h t ih =>
  intro r0;have e:KV (putK kvs p.1 p.2) (stored vs q.1 q.2):=by
   have:=r0.put p.1 h.2;rw [← h.1];exact this
  exact ih e
theorem length_mergeK:∀ (more kvs:List (Key×V)),(mergeK kvs more).length≤kvs.length+more.length
 | [],kvs=>by show kvs.length≤kvs.length+0;omega
 | p::r,kvs=>by
  have h1:=length_mergeK r (putK kvs p.1 p.2);have h2:=length_putK kvs p.1 p.2;show (mergeK (putK kvs p.1 p.2) r).length≤_;rw [List.length_cons];omega
theorem carries_of {P:Program}{w:World}:∀ {kvs:List (Key×V)}{ws:List (Value×Value)},VV (kvs.map fun kv=>(kV kv.1,kv.2)) ws→∃ rs,Carries (mixKind P w) ws rs∧KV kvs rs
 | [],_,r=>by rw [List.map_nil] at r;cases r;exact ⟨[],True.intro,.nil⟩
 | p::kvs,_,r=>by
  rw [List.map_cons] at r;cases r with
  | @cons a b as bs h t =>
   obtain ⟨rs,c,q⟩:=carries_of (P:=P) (w:=w) t;obtain ⟨b1,b2⟩:=b;exact ⟨(p.1,b2)::rs,⟨kV_is h.1,rfl,c⟩,.cons ⟨rfl,h.2⟩ q⟩
noncomputable def tDisp (trs:List (TE×TE)):TE:=fun σ H Q=>∀ p,H p=none→tPairs trs σ (upd H p (.dK [])) fun ps H2=>H2 p=some (.dK [])∧∃ kvs:List (Key×V),ps=kvs.map (fun kv=>(kV kv.1,kv.2))∧kvs.length≤15∧Q (.ref p) (upd H2 p (.dK (mergeK [] kvs)))
theorem pe_disp {X:Cx}{pos:Pos}{keys:List (Option Expr)}{values:List Expr}{trs:List (TE×TE)}(h:PPs X pos keys values trs) (hall:keys.all (·.isSome)=true) (hl:keys.length=values.length) (h0:keys≠[])
  (h15:keys.length≤15):PE X (.Dict keys values pos) (tDisp trs):=by
 intro pins s σ H Q I q;have hn:=I.hok.fresh (Nat.le_refl s.heap.objs.size)
 have I1:=I.laid (a:=s.heap.objs.size) (o:=.dK []) (h':=s.heap.push { cls:=.type "dict",data:=.dict #[] }) (t':=s.toks) (fun _ _ q=>Heap.get?_push_of_some _ q) (Nat.le_refl _) (dk_empty s.heap I.big);refine wpAny_Dict_walk (knd:=mixKind X.prog X.w) hall hl h0 h15 (thn (h pins _ σ _ _ I1 (q _ hn)) ?_);rintro ws s2 ⟨ps,H2,I2,rel,e,kvs,ep,lk,q2⟩;subst ep;obtain ⟨rs,c,rk⟩:=carries_of (P:=X.prog) (w:=X.w) rel;obtain ⟨z,hd,vs0,r0,dd⟩:=dk_of I2.hok e;cases r0;refine ⟨rs,c,dd,fun h' dd' hs=>⟨.ref s.heap.objs.size,_,?_,rfl,q2⟩⟩;have hz:(mergeK [] kvs).length≤sizeLine:=by
  have h1:=length_mergeK kvs [];rw [List.length_nil] at h1;rw [sizeLine_eq];omega
 have he:∃ q,h'.get? s.heap.objs.size=some q:=let ⟨q,_,_,hq,_⟩:=dd';⟨q,hq⟩;exact d_write I2 (by rw [e];exact True.intro) hs he (dk_new hz hd (rk.merge .nil) dd')
section
variable {X:Cx}{pins:List (Addr×Obj)}{σ:St}{H:Hp}{s:Shared}{a:Addr}{y d:V}{u r:Value}{o:Option V}{A:Around}{E:Value→Shared→Prop}
end
section
variable {X:Cx}{o e f:Expr}{apos cpos:Pos}{td ty tx:TE}
end
section
variable {X:Cx}{pins:List (Addr×Obj)}{σ:St}{H:Hp}{s:Shared}{a:Addr}{kvs:List (Key×V)}{A:Around}{E:Value→Shared→Prop}
end
section
variable {X:Cx}{pins:List (Addr×Obj)}{σ:St}{H:Hp}{s:Shared}{a:Addr}{y:V}{u:Value}{A:Around}{E:Value→Shared→Prop}
end
theorem forIn_pure {α β:Type}(g:α→β→β):∀ (l:List α) (f:α→β→Sem (ForInStep β)) (c:β),(∀ x∈l,∀ c,f x c=pure (.yield (g x c)))→forIn l c f=pure (l.foldl (fun c x=>g x c) c)
 | [],f,c,_=>by rw [List.forIn_nil];rfl
 | x::r,f,c,h=>by
  rw [List.forIn_cons,h x List.mem_cons_self];show (forIn r (g x c) f)=_;rw [forIn_pure g r f (g x c) fun y hy=>h y (List.mem_cons_of_mem _ hy)];rfl
noncomputable def closG (env:Env) (x:Str×NameKind) (cs:List (Str×Addr)):List (Str×Addr):=if x.2==.free then (x.1,(env.cells.lookup x.1).getD 0)::cs else cs
noncomputable def closL (env:Env) (names:List (Str×NameKind)):List (Str×Addr):=names.foldl (fun c x=>closG env x c) []
theorem closureFor_ok {scope:Scope}{env:Env}(h:∀ x∈scope.names,x.2=.free→∃ c,env.cells.lookup x.1=some c):closureFor scope env=pure (closL env scope.names):=by
 unfold closureFor closL;dsimp only;rw [forIn_pure (closG env)]
 ·rfl
 ·intro x hx c;obtain ⟨n,k⟩:=x;dsimp only;unfold closG
  by_cases e:(k==NameKind.free)=true
  ·obtain ⟨a,ha⟩:=h _ hx (beq_iff_eq.mp e);have ha':List.lookup n env.cells=some a:=ha;dsimp only;rw [if_pos e,if_pos e];unfold cellOf;rw [ha'];rfl
  ·dsimp only;rw [if_neg e,if_neg e]
theorem closL_mem' {env:Env}:∀ (names:List (Str×NameKind)) (acc:List (Str×Addr)) (x:Str) (c:Addr),(x,c)∈names.foldl (fun c x=>closG env x c) acc→(x,c)∈acc∨((x,NameKind.free)∈names∧c=(env.cells.lookup x).getD 0)
 | [],acc,x,c,h=>.inl h
 | (n,k)::r,acc,x,c,h=>by
  rcases closL_mem' r _ x c h with q | ⟨q1,q2⟩
  ·unfold closG at q;dsimp only at q;split at q
   ·rename_i e;have e:=beq_iff_eq.mp e;rcases List.mem_cons.mp q with q | q
    ·cases q;exact .inr ⟨by rw [e];exact List.mem_cons_self,rfl⟩
    ·exact .inl q
   ·exact .inl q
  ·exact .inr ⟨List.mem_cons_of_mem _ q1,q2⟩
theorem closL_has' {env:Env}:∀ (names:List (Str×NameKind)) (acc:List (Str×Addr)) (x:Str),(acc.lookup x).isSome=true∨(x,NameKind.free)∈names→((names.foldl (fun c x=>closG env x c) acc).lookup x).isSome=true
 | [],acc,x,h=>by
  rcases h with h | h
  ·exact h
  ·exact absurd h (by simp)
 | (n,k)::r,acc,x,h=>by
  refine closL_has' r _ x ?_;unfold closG;rcases h with h | h
  ·left;dsimp only;split
   ·rw [List.lookup_cons];split
    ·rfl
    ·exact h
   ·exact h
  ·rcases List.mem_cons.mp h with h | h
   ·cases h;left;dsimp only;rw [if_pos (by rfl),List.lookup_cons];simp
   ·exact .inr h
theorem closL_lookup {env:Env}{names:List (Str×NameKind)}{x:Str}{c:Addr}(h:(closL env names).lookup x=some c):(x,NameKind.free)∈names∧c=(env.cells.lookup x).getD 0:=by
 rcases closL_mem' names [] x c (PySem.mem_of_lookup h) with q | q
 ·exact absurd q (by simp)
 ·exact q
theorem closL_has {env:Env}{names:List (Str×NameKind)}{x:Str}(h:(x,NameKind.free)∈names):(closL env names).lookup x=some ((env.cells.lookup x).getD 0):=by
 obtain ⟨c,e⟩:=Option.isSome_iff_exists.mp (closL_has' (env:=env) names [] x (.inr h));rw [show closL env names=names.foldl (fun c x=>closG env x c) [] from rfl,e,(closL_lookup e).2]
theorem cellsFrom_mem:∀ (names:List (Str×NameKind)) (n:Nat) (acc:List (Str×Addr)) (x:Str) (c:Addr),(x,c)∈cellsFrom n names acc→(x,c)∈acc∨(n≤c∧(x,NameKind.cell)∈names)
 | [],_,_,_,_,h=>.inl h
 | (y,k)::r,n,acc,x,c,h=>by
  unfold cellsFrom at h;split at h
  ·rename_i e;have e:=beq_iff_eq.mp e;rcases cellsFrom_mem r (n+1) _ x c h with q | ⟨q1,q2⟩
   ·rcases List.mem_cons.mp q with q | q
    ·cases q;exact .inr ⟨Nat.le_refl _,by rw [e];exact List.mem_cons_self⟩
    ·exact .inl q
   ·exact .inr ⟨by omega,List.mem_cons_of_mem _ q2⟩
  ·rcases cellsFrom_mem r n acc x c h with q | ⟨q1,q2⟩
   ·exact .inl q
   ·exact .inr ⟨q1,List.mem_cons_of_mem _ q2⟩
theorem cellsFrom_own:∀ (names:List (Str×NameKind)) (n lo:Nat) (acc:List (Str×Addr)) (x:Str) (c:Addr),lo≤n→((x,NameKind.cell)∈names∨∀ c',acc.lookup x=some c'→lo≤c')→(cellsFrom n names acc).lookup x=some c→lo≤c
 | [],_,_,acc,x,c,_,h,e=>by
  rcases h with h | h
  ·exact absurd h (by simp)
  ·exact h c e
 | (y,k)::r,n,lo,acc,x,c,hl,h,e=>by
  unfold cellsFrom at e;split at e
  ·rename_i ek;refine cellsFrom_own r (n+1) lo _ x c (by omega) ?_ e;rcases h with h | h
   ·rcases List.mem_cons.mp h with h | h
    ·cases h;right;intro c' hc;rw [List.lookup_cons] at hc;rw [beq_self_eq_true] at hc;cases hc;exact hl
    ·exact .inl h
   ·right;intro c' hc;rw [List.lookup_cons] at hc;split at hc
    ·cases hc;omega
    ·exact h c' hc
  ·rename_i ek;refine cellsFrom_own r n lo acc x c hl ?_ e;rcases h with h | h
   ·rcases List.mem_cons.mp h with h | h
    ·cases h;exact absurd rfl ek
    ·exact .inl h
   ·exact .inr h
theorem cellsFrom_inj:∀ (names:List (Str×NameKind)) (n:Nat) (acc:List (Str×Addr)),(∀ x y c,(x,c)∈acc→(y,c)∈acc→x=y)→(∀ x c,(x,c)∈acc→c < n) →
  ∀ x y c,(x,c)∈cellsFrom n names acc→(y,c)∈cellsFrom n names acc→x=y
 | [],_,_,h,_=>h
 | (z,k)::r,n,acc,h,hb=>by
  unfold cellsFrom;split
  ·refine cellsFrom_inj r (n+1) _ (fun x y c hx hy=>?_) fun x c hx=>?_
   ·rcases List.mem_cons.mp hx with hx | hx <;> rcases List.mem_cons.mp hy with hy | hy
    ·cases hx;cases hy;rfl
    ·cases hx;exact absurd (hb _ _ hy) (Nat.lt_irrefl _)
    ·cases hy;exact absurd (hb _ _ hx) (Nat.lt_irrefl _)
    ·exact h x y c hx hy
   ·rcases List.mem_cons.mp hx with hx | hx
    ·cases hx;exact Nat.lt_succ_self _
    ·exact Nat.lt_succ_of_lt (hb x c hx)
  ·exact cellsFrom_inj r n acc h hb
theorem pushCells_cell:∀ (names:List (Str×NameKind)) (h:Heap) (acc:List (Str×Addr)) (x:Str) (c:Addr),(∀ x c,(x,c)∈acc→∃ v,h.IsCell c v)→(x,c)∈cellsFrom h.objs.size names acc→∃ v,(pushCells h names).IsCell c v
 | [],h,acc,x,c,hb,e=>hb x c e
 | (y,k)::r,h,acc,x,c,hb,e=>by
  unfold cellsFrom at e;unfold pushCells;split at e
  ·rename_i ek;rw [if_pos ek];refine pushCells_cell r _ ((y,h.objs.size)::acc) x c (fun x c hx=>?_) (by rw [Heap.size_push];exact e);rcases List.mem_cons.mp hx with hx | hx
   ·cases hx;exact ⟨none,_,Heap.get?_push_size _ rfl,rfl⟩
   ·obtain ⟨v,q⟩:=hb x c hx;exact ⟨v,q.keeps fun b o e=>Heap.get?_push_of_some _ e⟩
  ·rename_i ek;rw [if_neg ek];exact pushCells_cell r h acc x c hb e
theorem pushCells_size:∀ (names:List (Str×NameKind)) (h:Heap),h.objs.size≤(pushCells h names).objs.size
 | [],h=>Nat.le_refl _
 | (y,k)::r,h=>by
  unfold pushCells;split
  ·refine Nat.le_trans ?_ (pushCells_size r _);rw [Heap.size_push];omega
  ·exact pushCells_size r h
theorem newEnv_comp {M:Model}{A:Around}{E:Value→Shared→Prop}{s:Shared}{scope:Scope}{globals:Addr}{cl:List (Str×Addr)}{qual:Str}{env:Env}{Q:Env→Shared→Prop}
  (hQ:Q (newEnv scope s.heap.objs.size globals (cellsFrom (s.heap.objs.size+1) scope.names cl) qual none .none (some env) builtinsNs) { s with heap:=pushCells (s.heap.push { cls:=.type "dict",data:=.dict #[] }) scope.names }) :
  wpAny M A (newFunctionEnv scope globals cl [] qual none .none (some env)) Q E s:=by
 simp only [newFunctionEnv,Option.isSome_some,if_true];refine wpAny_bind (wpAny_alloc ?_);refine wpAny_bind (wpAny_layCells _ (fun name kind cells=>by cases hkc:kind==NameKind.cell <;> simp [hkc]) _ _ _ _ ?_)
 rw [show ({ s with heap:=s.heap.push { cls:=.type "dict",data:=.dict #[] } }:Shared).heap.objs.size=s.heap.objs.size+1 from Heap.size_push ..];rw [List.forIn_nil];exact wpAny_bind (wpAny_pure (wpAny_pure hQ))
theorem lookup_of_mem {α:Type}:∀ {l:List (Str×α)}{n:Str}{c:α},(l.map (·.1)).Nodup→(n,c)∈l→l.lookup n=some c
 | [],_,_,_,h=>absurd h (by simp)
 | (k,v)::r,n,c,nd,h=>by
  rw [List.map_cons,List.nodup_cons] at nd;rw [List.lookup_cons];rcases List.mem_cons.mp h with q | q
  ·cases q;rw [beq_self_eq_true]
  ·have:(n==k)=false:=by
    rw [beq_eq_false_iff_ne];intro e;subst e;exact nd.1 (List.mem_map.mpr ⟨(n,c),q,rfl⟩)
   rw [this];exact lookup_of_mem nd.2 q
theorem relabel_lookup {env:Env}(scope:Scope) (x:Str):(relabel scope env).names.lookup x=(scope.names.lookup x).map fun k=>if (k==.free&&env.scope.kind==.function&&env.kindOf x==some .cell) then .cell else k:=by
 show (scope.names.map _).lookup x=_
 induction scope.names with
 | nil=>rfl
 | cons a r ih =>
  obtain ⟨n,k⟩:=a;rw [List.map_cons];dsimp only;rw [List.lookup_cons (b:=k)]
  by_cases e:(x==n)=true
  ·rw [e];have e':=beq_iff_eq.mp e;subst e';dsimp only;split
   ·rename_i hc;rw [List.lookup_cons,e];simp only [Option.map_some,hc,if_true]
   ·rename_i hc;rw [List.lookup_cons,e];rw [Option.map_some,if_neg hc]
  ·have e2:(x==n)=false:=by simpa using e
   rw [e2];dsimp only;split
   ·rw [List.lookup_cons,e2];exact ih
   ·rw [List.lookup_cons,e2];exact ih
structure CompOk (X:Cx) (scope:Scope):Prop where
 kind:scope.kind=.function
 nd:(scope.names.map (·.1)).Nodup
 fr:∀ x∈scope.names,x.2=.free→X.env.kindOf x.1=some .cell∨X.env.kindOf x.1=some .free
noncomputable def cxComp (X:Cx) (pins:List (Addr×Obj)) (N':List Str) (scope:Scope) (C:Addr) (cells:List (Str×Addr)) (s₀:Shared) (H₀:Hp) (fp:List Addr):Cx where
 prog:=X.prog
 w:=X.w
 K:=X.K
 mg:=X.mg
 base:=X.base
 A:=X.A
 N:=N'
 s₀:=s₀
 H₀:=H₀
 env:={ scope:=relabel scope X.env,locals:=C,globals:=X.env.globals,cells:=cells,qual:=X.env.qual,func:=none,code:=X.env.code,frame:=X.env.frame,builtins:=X.env.builtins }
 outer:=X.stack
 stack:=X.stack
 ex:=fp
 fn:=fun x=>decide ((x,NameKind.cell)∈scope.names)
 calm:=X.calm
 pn:=X.pn++pins
 xe:=fun _ _=>False
noncomputable def Cap (X:Cx) (N':List Str) (scope:Scope) (σ σ0:St):Prop:=σ0.length=N'.length∧∀ (i:Nat) (x:Str) (v:V),N'[i]?=some x→σ0[i]?=some (some v) →
 scope.names.lookup x=some .free∧∃ j:Nat,X.N[j]?=some x∧σ[j]?=some (some v)
noncomputable abbrev listObj (its:List Value) (n:Nat):Obj:={ cls:=.type "list",data:=.seq its.toArray n }
section
variable {X:Cx}{pins:List (Addr×Obj)}{σ:St}{H:Hp}{s:Shared}
theorem comp_start {N':List Str}{scope:Scope}{fp:List Addr}{σ0:St}(I:Inv X pins σ H s) (S:CompOk X scope) (hf:∀ b∈fp,FpOk X pins H b) (hb:∀ b∈fp,∃ o,s.heap.get? b=some o) (hσ:Cap X N' scope σ σ0) :
    Inv (cxComp X pins N' scope (s.heap.objs.size+1) (cellsFrom (s.heap.objs.size+1+1) scope.names (closL X.env scope.names)) s H fp) [(s.heap.objs.size,listObj [] 0)] σ0 H
      { s with heap:=pushCells ((s.heap.push (listObj [] 0)).push { cls:=.type "dict",data:=.dict #[] }) scope.names }:=by
  have sz1:(s.heap.push (listObj [] 0)).objs.size=s.heap.objs.size+1:=Heap.size_push ..
  have sz2:((s.heap.push (listObj [] 0)).push { cls:=.type "dict",data:=.dict #[] }).objs.size=s.heap.objs.size+1+1:=by rw [Heap.size_push,sz1]
  have keep:∀ b o,s.heap.get? b=some o→(pushCells ((s.heap.push (listObj [] 0)).push { cls:=.type "dict",data:=.dict #[] }) scope.names).get? b=some o:=fun b o e=>pushCells_keeps _ _ b o (Heap.get?_push_of_some _ (Heap.get?_push_of_some _ e))
  have capt:∀ x c,(x,c)∈closL X.env scope.names→X.env.cells.lookup x=some c:=fun x c h=>by
    rcases closL_mem' scope.names [] x c h with q | ⟨q1,q2⟩
    · exact absurd q (by simp)
    · obtain ⟨c',e⟩:=I.ok.has x (S.fr _ q1 rfl);rw [e] at q2;rw [e,q2];rfl
  have cells:∀ x c,(cellsFrom (s.heap.objs.size+1+1) scope.names (closL X.env scope.names)).lookup x=some c→X.env.cells.lookup x=some c∨s.heap.objs.size+1+1≤c:=fun x c h=>by
    rcases cellsFrom_mem _ _ _ x c (PySem.mem_of_lookup h) with q | ⟨q,_⟩
    · exact .inl (capt x c q)
    · exact .inr q
  have stk:∀ b∈frs X.stack,b < s.heap.objs.size:=fun b hb=>by
    rcases Nat.lt_or_ge b s.heap.objs.size with z | z
    · exact z
    · rcases List.mem_cons.mp (I.stkSub b hb) with q | q
      · rw [q];exact I.lt
      · exact absurd q (I.nofs z)
  have fpb:∀ b∈fp,b < s.heap.objs.size:=fun b h=>let ⟨o,e⟩:=hb b h;Heap.lt_size e
  refine ⟨⟨I.ok.mod,S.kind,I.ok.glob,I.ok.blt,Nat.le_succ _,fun x y c h1 h2=>?_,fun x hx=>?_,fun x c hx h=>?_,I.ok.hd,I.ok.frames,.inl rfl,fun b hb=>⟨?_,fun x c h=>?_⟩,I.bs,Nat.le_trans I.ok.bsz I.sz,fun b o h z=>?_,fun b hb z=>?_,I.stack,I.stkFree⟩,
    rfl,I.bare,Un.kept keep,⟨fun _=>none,?_,fun i x v h1 h2 h3=>?_⟩,fun x c h=>?_,I.hok.fresh (Nat.le_succ _),fun x c h=>?_,fun p hp=>?_,I.hok.kept keep,hσ.1⟩
  · refine cellsFrom_inj scope.names (s.heap.objs.size+1+1) (closL X.env scope.names) (fun x y c h1 h2=>I.ok.inj x y c (capt x c h1) (capt y c h2)) (fun x c h=>?_) x y c (PySem.mem_of_lookup h1) (PySem.mem_of_lookup h2);obtain ⟨v,q⟩:=I.cell x c (capt x c h);exact Nat.lt_succ_of_lt (Nat.lt_succ_of_lt q.lt)
  · have hx:(relabel scope X.env).names.lookup x=some .cell∨(relabel scope X.env).names.lookup x=some .free:=hx;rw [relabel_lookup] at hx;refine Option.isSome_iff_exists.mp (PySem.W.cellsFrom_some scope.names _ _ ?_);cases e:scope.names.lookup x with
    | none=>rw [e] at hx;rcases hx with h | h <;> cases h
    | some k =>
      cases k with
      | cell=>exact .inl rfl
      | free=>right;rw [closL_has (PySem.mem_of_lookup e)];rfl
      | «local»=>rw [e] at hx;rcases hx with h | h <;> cases h
      | globalExplicit=>rw [e] at hx;rcases hx with h | h <;> cases h
      | globalImplicit=>rw [e] at hx;rcases hx with h | h <;> cases h
  · exact Nat.le_trans (Nat.le_succ_of_le (Nat.le_succ _)) (cellsFrom_own scope.names _ (s.heap.objs.size+1+1) _ x c (Nat.le_refl _) (.inl (of_decide_eq_true hx)) h)
  · exact Nat.ne_of_lt (Nat.lt_succ_of_lt (fpb b hb))
  · rcases cells x c h with q | q
    · exact (hf b hb).2.2.2.2.1 x c q
    · exact Nat.ne_of_gt (Nat.lt_of_lt_of_le (fpb b hb) (by omega))
  · rcases (hf b z).2.2.2.1 with q | q
    · exact I.ok.noex b o h q
    · exact absurd (Nat.lt_of_lt_of_le (Heap.lt_size h) (Nat.le_trans I.ok.bsz q)) (Nat.lt_irrefl _)
  · rcases List.mem_cons.mp (I.stkSub b z) with q | q
    · exact (hf b hb).2.1 q
    · exact (hf b hb).2.2.1 q
  · show (pushCells _ _).Ns (s.heap.objs.size+1) _
    have n:=(Heap.Ns.new (s.heap.push (listObj [] 0)) (.type "dict")).keeps (pushCells_keeps scope.names _);rw [sz1] at n;exact n
  · obtain ⟨e1,j,e2,e3⟩:=hσ.2 i x v h1 h2;obtain ⟨m,hn,hl⟩:=I.loc;have fr:=S.fr _ (PySem.mem_of_lookup e1) rfl;have vis:Vis X.env.scope x:=by
      rcases fr with q | q
      · exact .inr (.inl q)
      · exact .inr (.inr q)
    obtain ⟨u,r,l⟩:=hl j x v e2 e3 vis;refine ⟨u,r,.inr ⟨?_,?_⟩⟩
    · show (relabel scope X.env).names.lookup x=some .cell∨(relabel scope X.env).names.lookup x=some .free;rw [relabel_lookup,e1];simp only [Option.map_some];split
      · exact .inl rfl
      · exact .inr rfl
    · rcases l with ⟨k,_⟩ | ⟨_,c,ec,hc⟩
      · rcases fr with q | q <;> · rw [k] at q;cases q
      · refine ⟨c,?_,hc.keeps keep⟩;obtain ⟨c2,e⟩:=Option.isSome_iff_exists.mp (PySem.W.cellsFrom_some (x:=x) scope.names (s.heap.objs.size+1+1) (closL X.env scope.names) (.inr (by rw [closL_has (PySem.mem_of_lookup e1)];rfl)));show (cellsFrom _ _ _).lookup x=some c;rw [e];rcases cellsFrom_mem _ _ _ x c2 (PySem.mem_of_lookup e) with q | ⟨_,q⟩
        · rw [capt x c2 q] at ec;exact ec
        · rw [lookup_of_mem S.nd q] at e1;cases e1
  · refine pushCells_cell scope.names ((s.heap.push (listObj [] 0)).push { cls:=.type "dict",data:=.dict #[] }) (closL X.env scope.names) x c (fun x c h=>?_) ?_
    · obtain ⟨v,q⟩:=I.cell x c (capt x c h);exact ⟨v,q.keeps fun b o e=>Heap.get?_push_of_some _ (Heap.get?_push_of_some _ e)⟩
    · rw [sz2];exact PySem.mem_of_lookup h
  · rcases cells x c h with q | q
    · exact I.freeC x c q
    · exact I.hok.fresh (by omega)
  · rcases List.mem_append.mp hp with hp | hp
    · obtain ⟨q1,q2,q3,q4,q5⟩:=I.pin p hp;have lt:=Heap.lt_size q1;refine ⟨keep _ _ q1,q2,Nat.ne_of_lt (Nat.lt_succ_of_lt lt),fun z=>?_,q5⟩;rcases List.mem_cons.mp (I.stkSub p.1 z) with r | r
      · exact q3 r
      · exact q4 r
    · have e:p=(s.heap.objs.size,listObj [] 0):=by simpa using hp
      subst e;refine ⟨pushCells_keeps _ _ _ _ (Heap.get?_push_of_some _ (Heap.get?_push_size _ rfl)),I.hok.fresh (Nat.le_refl _),Nat.ne_of_lt (Nat.lt_succ_self _),fun z=>?_,fun v=>by intro z;cases z⟩;exact Nat.lt_irrefl _ (stk _ z)
theorem comp_end {N':List Str}{scope:Scope}{fp:List Addr}{σ':St}{C:Addr}{cells:List (Str×Addr)}{H':Hp}{s':Shared}{its:List Value}{n:Nat}{ys:List V}{pl:List (Addr×Obj)}(I:Inv X pins σ H s) (hf:∀ b∈fp,FpOk X pins H b)
  (J:Inv (cxComp X pins N' scope C cells s H fp) ((s.heap.objs.size,listObj its n)::pl) σ' H' s') (r:Vals ys its) (hz:ys.length≤sizeLine) :
  Inv X pins σ (upd H' s.heap.objs.size (.lst ys)) s':=by
 obtain ⟨p1,p2,p3,p4,p5⟩:=J.pin (s.heap.objs.size,listObj its n) (List.mem_append_right _ List.mem_cons_self);have hD:H' s.heap.objs.size=none:=p2;have ne:∀ b o,s.heap.get? b=some o→b≠s.heap.objs.size:=fun b o e=>Nat.ne_of_lt (Heap.lt_size e)
 have U:=J.base;refine I.call' (ch:=fp) J.os ⟨fun b o e h1 h2 h3=>U.keep b o e h1 h2 h3,fun b o e h1 h2 h3=>U.slot b o e h1 h2 h3,fun b o e h1 h2=>?_,U.there,fun b xs e=>?_,fun b o u e=>?_,fun b ps e=>?_⟩ ?_ J.bare fun b hb=>?_
 ·rw [upd_ne (ne b o e)];exact U.free b o e h1 h2
 ·have q:=U.tups b xs e;rw [upd_ne (ne_of_none q hD)];exact q
 ·have q:=U.frzs b o u e;rw [upd_ne (ne_of_none q hD)];exact q
 ·obtain ⟨m,q⟩:=U.tbls b ps e;exact ⟨m,by rw [upd_ne (ne_of_none q hD)];exact q⟩
 ·intro b u e
  by_cases hb:b=s.heap.objs.size
  ·subst hb;rw [upd_same] at e;cases e;exact ⟨hz,its,n,r,p1⟩
  ·rw [upd_ne hb] at e;exact (J.hok b u e).stay (fun _ _ _ q=>q) (fun c q=>by rw [upd_ne (ne_of_none q hD)];exact q) fun c xs q=>by rw [upd_ne (ne_of_none q hD)];exact q
 ·obtain ⟨q0,q1,q2,q3,q4,q5⟩:=hf b hb;exact ⟨q3,q1,q4,q5⟩
end
section
variable {prog:Program}{w:World}{A:Around}{E:Value→Shared→Prop}{R:Result→Shared→Prop}{s:Shared}
noncomputable abbrev testsOf (ifs:List Expr) (env:Env):Sem Bool:=forIn ifs true fun c r=>if r=true then do let ok ← isTrue c env (eval c env);pure (ForInStep.yield ok) else pure (ForInStep.yield r)
theorem compLoop_gen {elt target iter:Expr}{ifs:List Expr}{scope:Scope}{pos:Pos}{it acc:Value}{env:Env}(I:Nat→Shared→Prop)
  (turn:∀ n s,I n s→wpAny (model prog w) A (pyNext it) (fun r s₁=>match r with
   | none=>R (.ok .next) s₁
   | some v=>wpAny (model prog w) A (letOwnedTupleGo target it v) (fun _ s'=>wpAny (model prog w) A (assign target env v) (fun _ s₂ =>
     wpAny (model prog w) A (testsOf ifs env) (fun ok s₃ =>
      if ok=true then wpAny (model prog w) A (eval elt env) (fun x s₄ =>
       wpAny (model prog w) A (call (.builtin "list.append") [acc,x]) (fun _ s₅=>∃ m,m < n∧I m s₅) (fun _ _=>False) s₄) (fun _ _=>False) s₃
      else ∃ m,m < n∧I m s₃) (fun _ _=>False) s₂) (fun _ _=>False) s') (fun _ _=>False) s₁) (fun _ _=>False) s)
  (n:Nat) (h:I n s) :
  codeAny (model prog w) A (.compLoop (.ListComp elt [⟨target,iter,ifs,0⟩] scope pos) 0 it acc env) R s:=by
 refine codeAny_loop rfl I (fun n s hI=>?_) n h;show wpAny _ A ((compTurn (.ListComp elt [⟨target,iter,ifs,0⟩] scope pos) 0 it acc env).onRaise (fun x=>do noteFrame x env;theTreesLotGoes x)) _ _ s;refine wpAny_noted ?_;rw [compTurn_list];refine wpAny_bind (wpAny_standAt (wpAny_bind (wpAny_mono (turn n s hI) (fun r s₁ h₁=>?_) fun _ _ h'=>h'.elim)));cases r with
 | none=>exact wpAny_pure h₁
 | some v =>
  refine wpAny_bind (wpAny_mono h₁ (fun _ s' h'=>?_) fun _ _ h'=>h'.elim);refine wpAny_bind (wpAny_mono h' (fun _ s₂ h₂=>wpAny_bind (wpAny_mono h₂ (fun ok s₃ h₃=>?_) fun _ _ h'=>h'.elim)) fun _ _ h'=>h'.elim);cases ok with
  | false=>exact wpAny_pure ⟨rfl,h₃⟩
  | true =>
   exact wpAny_bind (wpAny_bind (wpAny_mono h₃ (fun x s₄ h₄=>wpAny_bind (wpAny_mono h₄ (fun _ s₅ h₅=>wpAny_pure (wpAny_pure ⟨rfl,h₅⟩)) fun _ _ h'=>h'.elim)) fun _ _ h'=>h'.elim))
end
noncomputable def PIf (X:Cx) (ifs:List Expr) (t:TT):Prop :=
 ∀ (pins:List (Addr×Obj)) (s:Shared) (σ:St) (H:Hp) (Q:Bool→Hp→Prop),Inv X pins σ H s→t σ H Q→wpAny (model X.prog X.w) X.A (testsOf ifs X.env) (TP X pins σ Q) X.xe s
theorem pif_nil {X:Cx}:PIf X [] (fun _ H Q=>Q true H):=fun pins s σ H Q I h=>wpAny_tests_nil ⟨H,I,h⟩
theorem pif_one {X:Cx}{c:Expr}{t:TT}(h:PT X c t):PIf X [c] t:=fun pins s σ H Q I q=>wpAny_tests_one (h pins s σ H Q I q)
noncomputable def Kept (σ0 σ2:St):Prop:=σ2.length=σ0.length∧∀ (i:Nat) v,σ0[i]?=some (some v)→σ2[i]?=some (some v)
noncomputable def tComp (X:Cx) (N':List Str) (scope:Scope) (wi:TI) (g:TG) (tc:TT) (te:TE):TE:=fun σ H Q=>wi σ H fun J H1=>∃ σ0,Cap X N' scope σ σ0∧∃ W:Nat→Nat→List V→Hp→Prop,(∃ m,W 0 m [] H1)∧∀ i m acc H,W i m acc H →
 (J.stop i H∧∀ p,H p=none→Q (.ref p) (upd H p (.lst acc))) ∨
 (J.go i H∧∃ N:List V→Hp→Prop,(∀ acc' H',N acc' H'→∃ m',m' < m∧W (i+1) m' acc' H')∧∀ x H',J.yld i H x H'→g x σ0 H' fun σ2 H2=>Kept σ0 σ2∧tc σ2 H2 fun b H3=>if b=true then acc.length < sizeLine∧te σ2 H3 fun y H4=>N (acc++[y]) H4 else N acc H3)
section
variable {X:Cx}{N':List Str}{scope:Scope}{wi:TI}{g:TG}{tc:TT}{te:TE}{elt target iter:Expr}{ifs:List Expr}{pos:Pos}
theorem comp_block {pins:List (Addr×Obj)}{s:Shared}{σ σ0:St}{H:Hp}{it:Addr}{fp:List Addr}{tn:Nat→Heap→Prop}{J:It}{QQ:List V→Hp→Prop}{E:Value→Shared→Prop}{RR:Value→Addr→Result→Shared→Prop}(hc:X.calm=true) (S:CompOk X scope)
  (hg:∀ pins C cells s₀ H₀ fp,PG (cxComp X pins N' scope C cells s₀ H₀ fp) target g)
  (hi:∀ pins C cells s₀ H₀ fp,PIf (cxComp X pins N' scope C cells s₀ H₀ fp) ifs tc)
  (he:∀ pins C cells s₀ H₀ fp,PE (cxComp X pins N' scope C cells s₀ H₀ fp) elt te)
  (I:Inv X pins σ H s) (T:Turn X.prog X.w X.K target J fp it tn) (st:tn 0 s.heap) (hf:∀ b∈fp,FpOk X pins H b) (hσ:Cap X N' scope σ σ0)
  (W:Nat→Nat→List V→Hp→Prop) (w0:∃ m,W 0 m [] H)
  (turn:∀ i m acc H,W i m acc H→(J.stop i H∧QQ acc H) ∨
   (J.go i H∧∃ N:List V→Hp→Prop,(∀ acc' H',N acc' H'→∃ m',m' < m∧W (i+1) m' acc' H')∧∀ x H',J.yld i H x H'→g x σ0 H' fun σ2 H2=>Kept σ0 σ2∧tc σ2 H2 fun b H3=>if b=true then acc.length < sizeLine∧te σ2 H3 fun y H4=>N (acc++[y]) H4 else N acc H3))
  (hRR:∀ (C:Addr) (acc:List V) (H':Hp) (s':Shared) (m:Str→Option Value),QQ acc H'→Inv X pins σ (upd H' s.heap.objs.size (.lst acc)) s'→H' s.heap.objs.size=none→s'.heap.Ns C m→H' C=none→C≠s.heap.objs.size→s.heap.objs.size≤C→RR (.ref s.heap.objs.size) C (.ok .next) s') :
  wpAny (model X.prog X.w) X.A (newList []) (fun acc s₃=>wpAny (model X.prog X.w) X.A (newFunctionEnv scope X.env.globals (closL X.env scope.names) [] X.env.qual none .none (some X.env)) (fun cenv s₄ =>
   codeAny (model X.prog X.w) X.A (.compStart (.ListComp elt [⟨target,iter,ifs,0⟩] scope pos) 0 (.ref it) acc { cenv with scope:=relabel scope X.env }) (RR acc cenv.locals) s₄) E s₃) E s:=by
 refine wpAny_newObj_type (newEnv_comp ?_);have sz1:(s.heap.push (listObj [] 0)).objs.size=s.heap.objs.size+1:=Heap.size_push ..;have I0:=comp_start (N':=N') (σ0:=σ0) I S hf (fun b hb=>let ⟨o,e,_⟩:=T.obj 0 _ st b hb;⟨o,e⟩) hσ
 show codeAny (model X.prog X.w) X.A (.compStart (.ListComp elt [⟨target,iter,ifs,0⟩] scope pos) 0 (.ref it) (.ref s.heap.objs.size) _) (RR (.ref s.heap.objs.size) (s.heap.push (listObj [] 0)).objs.size) { s with heap:=pushCells ((s.heap.push (listObj [] 0)).push { cls:=.type "dict",data:=.dict #[] }) scope.names };rw [sz1];show codeAny (model X.prog X.w) X.A (.compStart (.ListComp elt [⟨target,iter,ifs,0⟩] scope pos) 0 (.ref it) (.ref s.heap.objs.size) (cxComp X pins N' scope (s.heap.objs.size+1) (cellsFrom (s.heap.objs.size+1+1) scope.names (closL X.env scope.names)) s H fp).env) _ _;generalize hX':cxComp X pins N' scope (s.heap.objs.size+1) (cellsFrom (s.heap.objs.size+1+1) scope.names (closL X.env scope.names)) s H fp=X' at I0 ⊢
 have keep0:∀ b o,s.heap.get? b=some o→(pushCells ((s.heap.push (listObj [] 0)).push { cls:=.type "dict",data:=.dict #[] }) scope.names).get? b=some o:=fun b o e=>pushCells_keeps _ _ b o (Heap.get?_push_of_some _ (Heap.get?_push_of_some _ e))
 have st0:tn 0 (pushCells ((s.heap.push (listObj [] 0)).push { cls:=.type "dict",data:=.dict #[] }) scope.names):=T.keep _ _ _ st fun b _ o e=>keep0 b o e
 have hA:X'.A=X.A:=by rw [← hX'];rfl
 have hP:X'.prog=X.prog:=by rw [← hX'];rfl
 have hw:X'.w=X.w:=by rw [← hX'];rfl
 have hK:X'.K=X.K:=by rw [← hX'];rfl
 have hC:X'.calm=true:=by rw [← hX'];exact hc
 have hL:X'.env.locals=s.heap.objs.size+1:=by rw [← hX'];rfl
 have hS0:X'.s₀=s:=by rw [← hX'];rfl
 have hxe:X'.xe=fun _ _=>False:=by rw [← hX'];rfl
 have hex:X'.ex=fp:=by rw [← hX'];rfl
 have hpn:X'.pn=X.pn++pins:=by rw [← hX'];rfl
 have hgX:PG X' target g:=by rw [← hX'];exact hg _ _ _ _ _ _
 have hiX:PIf X' ifs tc:=by rw [← hX'];exact hi _ _ _ _ _ _
 have heX:PE X' elt te:=by rw [← hX'];exact he _ _ _ _ _ _
 -- the iterator's own objects,in the block
 have fpo:∀ {pl:List (Addr×Obj)} {H':Hp} {its:List Value} {n:Nat},(∀ b∈fp,H' b=none)→∀ b∈fp,FpOk X' [(s.heap.objs.size,listObj its n)] H' b:=fun {pl H' its n} hn b hb=>by
  obtain ⟨q0,q1,q2,q3,q4,q5⟩:=hf b hb;obtain ⟨e1,e2⟩:=I0.ok.exf b (by rw [hex];exact hb);have lt:b < s.heap.objs.size:=let ⟨o,e,_⟩:=T.obj 0 _ st b hb;Heap.lt_size e;refine ⟨hn b hb,e1,I0.ok.exfs b (by rw [hex];exact hb),.inl (by rw [hex];exact hb),e2,fun p hp=>?_⟩;rw [hpn] at hp;rcases List.mem_append.mp hp with hp | hp
  ·exact q5 p hp
  ·have e:p=(s.heap.objs.size,listObj its n):=by simpa using hp
   subst e;exact Nat.ne_of_gt lt
 obtain ⟨m0,w0⟩:=w0
 have loop:codeAny (model X.prog X.w) X.A (.compLoop (.ListComp elt [⟨target,iter,ifs,0⟩] scope pos) 0 (.ref it) (.ref s.heap.objs.size) X'.env) (RR (.ref s.heap.objs.size) (s.heap.objs.size+1)) { s with heap:=pushCells ((s.heap.push (listObj [] 0)).push { cls:=.type "dict",data:=.dict #[] }) scope.names }:=by
  refine compLoop_gen (fun k s'=>∃ i H' acc its n,Inv X' [(s.heap.objs.size,listObj its n)] σ0 H' s'∧tn i s'.heap∧(∀ b∈fp,H' b=none)∧Vals acc its∧acc.length≤sizeLine∧W i k acc H') ?_ m0
   ⟨0,H,[],[],0,I0,st0,fun b hb=>(hf b hb).1,.nil,Nat.zero_le _,w0⟩
  rintro k s3 ⟨i,H3,acc,its,n,I3,st3,fr3,rv,hz,w3⟩;rcases turn i k acc H3 w3 with ⟨stop,qn⟩ | ⟨go,N,hN,step⟩
  ·have z:=T.done X' hP hw hK hC i _ s3 σ0 H3 (fun _ _=>False) I3 (fpo (pl:=[]) fr3) st3 stop;rw [hA] at z;refine thn z ?_;rintro r s4 ⟨hr,I4⟩;subst hr;obtain ⟨m,hn,_⟩:=I4.loc;rw [hL] at hn;have fC:=I4.free;rw [hL] at fC;have e:=I4;rw [← hX'] at e;exact hRR _ acc H3 s4 m qn (comp_end I hf e rv hz) (I4.pin (s.heap.objs.size,listObj its n) (List.mem_append_right _ List.mem_cons_self)).2.1 hn fC (Nat.succ_ne_self _) (Nat.le_succ _)
  ·have z:=T.item X' hP hw hK hC i _ s3 σ0 H3 (fun _ _=>False) I3 (fpo (pl:=[]) fr3) st3 go;rw [hA] at z;refine thn z ?_;rintro r s4 ⟨u,hr,h4⟩;subst hr;refine thn h4 ?_;rintro _ s5 ⟨x,H5,I5,r5,y5,st5,fr5⟩;have I5':=I5.pinned (fpo (pl:=[]) fr5) (T.obj _ _ st5);have zg:=hgX _ s5 σ0 H5 x u _ I5' r5 (step x H5 y5);rw [hP,hw,hA,hxe] at zg;refine thn zg ?_;rintro _ s6 ⟨σ6,H6,I6,kp,q6⟩;have zi:=hiX _ s6 σ6 H6 _ I6 q6;rw [hP,hw,hA,hxe] at zi;refine thn zi ?_;rintro b s7 ⟨H7,I7,q7⟩
   -- back to the loop's head
   have back:∀ {H8:Hp} {s8:Shared} {acc':List V} {its':List Value} {n':Nat},Inv X' ([(s.heap.objs.size,listObj its' n')]++pinsAt fp s5.heap) σ6 H8 s8→Vals acc' its'→acc'.length≤sizeLine→N acc' H8 →
     ∃ m,m < k∧∃ i H' acc its n,Inv X' [(s.heap.objs.size,listObj its n)] σ0 H' s8∧tn i s8.heap∧(∀ b∈fp,H' b=none)∧Vals acc its∧acc.length≤sizeLine∧W i m acc H':=fun {H8 s8 acc' its' n'} I8 rv' hz' n8=>by
    obtain ⟨m',hm,w8⟩:=hN acc' H8 n8;refine ⟨m',hm,i+1,H8,acc',its',n',(I8.unpinned).weak kp.1.symm kp.2,T.keep _ _ _ st5 fun b hb o e=>(I8.pin (b,o) (List.mem_append_right _ (List.mem_append_right _ (mem_pinsAt hb e)))).1,fun b hb=>?_,rv',hz',w8⟩;obtain ⟨o,e,d⟩:=T.obj _ _ st5 b hb;exact (I8.pin (b,o) (List.mem_append_right _ (List.mem_append_right _ (mem_pinsAt hb e)))).2.1
   cases b with
   | false =>
    rw [if_neg Bool.false_ne_true] at q7;rw [if_neg Bool.false_ne_true];exact back I7 rv hz q7
   | true =>
    rw [if_pos rfl] at q7;rw [if_pos rfl];obtain ⟨hlt,q7⟩:=q7;have ze:=heX _ s7 σ6 H7 _ I7 q7;rw [hP,hw,hA,hxe] at ze;refine thn ze ?_;rintro y s8 ⟨yv,H8,I8,r8,q8⟩;obtain ⟨p1,p2,p3,p4,p5⟩:=I8.pin (s.heap.objs.size,listObj its n) (List.mem_append_right _ (List.mem_append_left _ List.mem_cons_self));have len:its.toArray.size≤sizeLine:=by
     have:=rv.length;simp only [List.size_toArray];omega
    refine wpAny_list_append_plain (hsz:=len) ⟨n,p1⟩ ?_;rintro h' ⟨n',pl⟩ sb;have pl':h'.get? s.heap.objs.size=some (listObj (its++[y]) n'):=by rw [pl];simp [listObj]
    have lD:s.heap.objs.size < (pushCells ((s.heap.push (listObj [] 0)).push { cls:=.type "dict",data:=.dict #[] }) scope.names).objs.size:=by
     refine Nat.lt_of_lt_of_le ?_ (pushCells_size _ _);rw [Heap.size_push,Heap.size_push];omega
    have cne:∀ z c,X'.env.cells.lookup z=some c→c≠s.heap.objs.size:=fun z c e q=>by
     obtain ⟨v,hv⟩:=I8.cell z c e;obtain ⟨o,ho,hd⟩:=hv;rw [q] at ho;rw [show s8.heap.get? s.heap.objs.size=some (listObj its n) from p1] at ho;cases ho;cases hd
    have J9:Inv X' (pinsAt fp s5.heap) σ6 H8 { s8 with heap:=h' }:=by
     refine Inv.turned (t':=s8.toks) (it:=s.heap.objs.size) (I8.pins_of fun p hp=>I8.pin p (List.mem_append_right _ (List.mem_append_right _ hp))) (fun b o hb e=>sb.extBut b o hb e) p2 (by rw [hL];exact Nat.ne_of_lt (Nat.lt_succ_self _)) (.inr (by rw [hS0];exact Nat.le_refl _)) cne fun p hp=>?_
     rw [hpn] at hp;rcases List.mem_append.mp hp with hp | hp
     ·have:p.1 < s.heap.objs.size:=Heap.lt_size (I.pin p hp).1;exact Nat.ne_of_lt this
     ·obtain ⟨hb,_⟩:=of_pinsAt hp;have:p.1 < s.heap.objs.size:=let ⟨o,e,_⟩:=T.obj 0 _ st p.1 hb;Heap.lt_size e;exact Nat.ne_of_lt this
    have I9:Inv X' ([(s.heap.objs.size,listObj (its++[y]) n')]++pinsAt fp s5.heap) σ6 H8 { s8 with heap:=h' }:=by
     refine J9.pins_of fun p hp=>?_
     rcases List.mem_append.mp hp with hp | hp
     ·have e:p=(s.heap.objs.size,listObj (its++[y]) n'):=by simpa using hp
      subst e;exact ⟨pl',p2,p3,p4,fun v=>by intro z;cases z⟩
     ·exact J9.pin p (List.mem_append_right _ hp)
    exact back I9 (rv.append (.cons r8 .nil)) (by rw [List.length_append,List.length_singleton];omega) q8
 exact codeAny_compStart_list loop (T.self X.A 0 _ _ _ st0 loop)
theorem pe_comp (hc:X.calm=true) (S:CompOk X scope) (hit:PI X target iter wi)
  (hg:∀ pins C cells s₀ H₀ fp,PG (cxComp X pins N' scope C cells s₀ H₀ fp) target g)
  (hi:∀ pins C cells s₀ H₀ fp,PIf (cxComp X pins N' scope C cells s₀ H₀ fp) ifs tc)
  (he:∀ pins C cells s₀ H₀ fp,PE (cxComp X pins N' scope C cells s₀ H₀ fp) elt te)
  (hs:∀ x,foldedSetIterable iter X.env x=pure x:=by intro _;rfl) :
  PE X (.ListComp elt [⟨target,iter,ifs,0⟩] scope pos) (tComp X N' scope wi g tc te):=by
 intro pins s σ H Q I h;rw [eval_ListComp];have hfree:∀ x∈scope.names,x.2=.free→∃ c,X.env.cells.lookup x.1=some c:=fun x hx e=>I.ok.has x.1 (S.fr x hx e)
 refine wpAny_comprehension_free (use:=none) rfl hs (closureFor_ok hfree) S.kind (fun x hx e=>lookup_of_mem S.nd (by rw [← e];exact hx)) (thn (hit pins s σ H _ I h) fun v s1 h1=>thn h1 fun itv s2 h2=>?_);obtain ⟨it,fp,tn,J,H2,e,I2,T,st2,f2,σ0,hσ,W,w0,turn⟩:=h2;subst e;refine comp_block (QQ:=fun acc H=>∀ p,H p=none→Q (.ref p) (upd H p (.lst acc))) (RR:=fun acc C=>compPost (model X.prog X.w) X.A X.xe none (EP X pins σ Q) acc C) hc S hg hi he I2 T st2 f2 hσ W w0 turn ?_;intro C acc H' s' m q I' hD hn hC hne hle;refine ⟨m,hn,fun h' sb=>?_⟩;obtain ⟨oC,_,_,hoC,_⟩:=id hn;have uC:upd H' s2.heap.objs.size (.lst acc) C=none:=by rw [upd_ne hne];exact hC
 have hCL:C≠X.env.locals:=Nat.ne_of_gt (Nat.lt_of_lt_of_le I2.lt hle);refine ⟨.ref s2.heap.objs.size,_,I'.turned (t':=s'.toks) (it:=C) (fun b o hb e=>sb.extBut b o hb e) uC hCL (.inr (Nat.le_trans I2.sz hle)) (fun x c e z=>?_) fun p hp z=>?_,rfl,q _ hD⟩
 ·obtain ⟨v,hv⟩:=I2.cell x c e;have:=hv.lt;rw [z] at this;exact Nat.lt_irrefl _ (Nat.lt_of_lt_of_le this hle)
 ·have:=Heap.lt_size (I2.pin p hp).1;rw [z] at this;exact Nat.lt_irrefl _ (Nat.lt_of_lt_of_le this hle)
theorem ps_setComp {y:Str}{py spos:Pos}{gy:TG}(hc:X.calm=true) (S:CompOk X scope) (hit:PI X target iter wi)
  (hg:∀ pins C cells s₀ H₀ fp,PG (cxComp X pins N' scope C cells s₀ H₀ fp) target g)
  (hi:∀ pins C cells s₀ H₀ fp,PIf (cxComp X pins N' scope C cells s₀ H₀ fp) ifs tc)
  (he:∀ pins C cells s₀ H₀ fp,PE (cxComp X pins N' scope C cells s₀ H₀ fp) elt te)
  (hgy:PG X (.Name y py) gy)
  (hsw:swapsWith (.ListComp elt [⟨target,iter,ifs,0⟩] scope pos) (some (.Name y py)) spos.line X.env=pure true)
  (hs:∀ x,foldedSetIterable iter X.env x=pure x:=by intro _;rfl) :
  PS X (.Assign [.Name y py] (.ListComp elt [⟨target,iter,ifs,0⟩] scope pos) spos) (tAsg (tComp X N' scope wi g tc te) gy):=by
 intro pins s σ H D I h;rw [exec_Assign_Name_used _ _ _ _ hsw];refine wpAny_bind (wpAny_standAt (wpAny_bind ?_));show wpAny _ X.A (do let _ ← comprehension (.ListComp elt [⟨target,iter,ifs,0⟩] scope pos) scope X.env _ (newList []) false (eval iter X.env) (some (assign (.Name y py) X.env))) _ _ s;have hfree:∀ x∈scope.names,x.2=.free→∃ c,X.env.cells.lookup x.1=some c:=fun x hx e=>I.ok.has x.1 (S.fr x hx e)
 refine wpAny_bind (wpAny_mono (wpAny_comprehension_free (use:=some (assign (.Name y py) X.env)) (Q:=fun _ s'=>SP X pins D .next s') rfl hs (closureFor_ok hfree) S.kind (fun x hx e=>lookup_of_mem S.nd (by rw [← e];exact hx)) (thn (hit pins s σ H _ I h) fun v s1 h1=>thn h1 fun itv s2 h2=>?_))
  (fun _ s' hq=>wpAny_pure (wpAny_pure hq)) fun _ _ e=>e)
 obtain ⟨it,fp,tn,J,H2,e,I2,T,st2,f2,σ0,hσ,W,w0,turn⟩:=h2;subst e;refine comp_block (QQ:=fun acc H=>∀ p,H p=none→gy (.ref p) σ (upd H p (.lst acc)) D.nx) (RR:=fun acc C=>compPost (model X.prog X.w) X.A X.xe (some (assign (.Name y py) X.env)) (fun _ s'=>SP X pins D .next s') acc C) hc S hg hi he I2 T st2 f2 hσ W w0 turn ?_;intro C acc H' s' m q I' hD hn hC hne hle;obtain ⟨oC,esC,epC,hoC,hdC⟩:=id hn;have uC:upd H' s2.heap.objs.size (.lst acc) C=none:=by rw [upd_ne hne];exact hC
 have hCL:C≠X.env.locals:=Nat.ne_of_gt (Nat.lt_of_lt_of_le I2.lt hle);have hCfs:C ∉ X.fs:=I2.nofs hle;have pinC:Inv X (pins++[(C,oC)]) σ (upd H' s2.heap.objs.size (.lst acc)) s':=by
  refine I'.pins_of fun p hp=>?_
  rcases List.mem_append.mp hp with hp | hp
  ·exact I'.pin p (List.mem_append_right _ hp)
  ·have e:p=(C,oC):=by simpa using hp
   subst e;refine ⟨hoC,uC,hCL,hCfs,fun v z=>?_⟩;rw [hdC.1] at z;cases z
 refine thn (hgy _ s' σ _ (.ref s2.heap.objs.size) _ _ pinC rfl (q _ hD)) ?_;rintro _ s'' ⟨σ2,H3,I3,q3⟩;obtain ⟨p1,p2,p3,p4,p5⟩:=I3.pin (C,oC) (List.mem_append_right _ (List.mem_append_right _ List.mem_cons_self));refine ⟨m,⟨oC,esC,epC,p1,hdC⟩,fun h' sb=>?_⟩;refine ⟨σ2,H3,(Inv.unpinned I3).turned (t':=s''.toks) (it:=C) (fun b o hb e=>sb.extBut b o hb e) p2 hCL (.inr (Nat.le_trans I2.sz hle)) (fun x c e z=>?_) fun p hp z=>?_,q3⟩
 ·obtain ⟨v,hv⟩:=I2.cell x c e;have:=hv.lt;rw [z] at this;exact Nat.lt_irrefl _ (Nat.lt_of_lt_of_le this hle)
 ·have:=Heap.lt_size (I2.pin p hp).1;rw [z] at this;exact Nat.lt_irrefl _ (Nat.lt_of_lt_of_le this hle)
end
end L2
namespace DL
open PySem PySem.Spec PyProof.Rows L2
noncomputable abbrev St:=L2.St
inductive D where
 | non | bl (b:Bool) | int (i:Int) | str (x:Str) | tup (ds:List D) | ref (n:Nat) | rol (ds:List D) | obj (c:Str) (ks:List Str) (ds:List D)
 deriving Inhabited
inductive MO where
 | lst (ds:List D)
 | dct (kvs:List (Key×D))
noncomputable abbrev MH:=List MO
noncomputable abbrev Loc:=List (Option D)
noncomputable def PermL (K:PySem.W.Frag) (H:Hp) (a:Addr) (xs:List V):Prop:=(∃ o,H a=some (.frz o (.lst xs))) ∨
  ∃ (o:Obj) (its:Array Value) (n:Nat),K.lookup a=some o∧o.cls=.type "list"∧o.dict=none∧o.data=.seq its n∧its.size≤sizeLine∧Vals xs its.toList
theorem PermL.sq {K:PySem.W.Frag}{H:Hp}{a:Addr}{xs:List V}(h:PermL K H a xs):SqL K H a xs:=by
 rcases h with ⟨o,h⟩ | h
 ·exact .inl (.inr ⟨o,h⟩)
 ·exact .inr h
mutual
inductive RD (K:PySem.W.Frag) (H:Hp) (ρ:List Addr):D→V→Prop
 | non:RD K H ρ .non .non
 | bl (b:Bool):RD K H ρ (.bl b) (.bl b)
 | int (i:Int):RD K H ρ (.int i) (.int i)
 | str (x:Str):RD K H ρ (.str x) (.str x)
 | tup {ds:List D} {a:Addr} {xs:List V}:SqT K H a xs→RDs K H ρ ds xs→RD K H ρ (.tup ds) (.ref a)
 | ref {n:Nat} {a:Addr}:ρ[n]?=some a→RD K H ρ (.ref n) (.ref a)
 | rol {ds:List D} {a:Addr} {xs:List V}:PermL K H a xs→RDs K H ρ ds xs→RD K H ρ (.rol ds) (.ref a)
 | obj {c:Str} {ks:List Str} {ds:List D} {a C dx:Addr} {xs:List V}:PySem.W.nsIn K mainGlobals c=some (some (.ref C))→H a=some (.ins C dx (ks.zip xs))→ks.length=xs.length→RDs K H ρ ds xs→RD K H ρ (.obj c ks ds) (.ref a)
inductive RDs (K:PySem.W.Frag) (H:Hp) (ρ:List Addr):List D→List V→Prop
 | nil:RDs K H ρ [] []
 | cons {d:D} {v:V} {ds:List D} {vs:List V}:RD K H ρ d v→RDs K H ρ ds vs→RDs K H ρ (d::ds) (v::vs)
end
structure Ev (K:PySem.W.Frag) (H:Hp) (ρ:List Addr) (H':Hp) (ρ':List Addr):Prop where
 tup:∀ a xs,SqT K H a xs→SqT K H' a xs
 pre:ρ <+: ρ'
 perm:∀ a xs,PermL K H a xs→PermL K H' a xs
 ins:∀ a C dx fs,H a=some (.ins C dx fs)→H' a=some (.ins C dx fs)
theorem Ev.refl {K:PySem.W.Frag}{H:Hp}{ρ:List Addr}:Ev K H ρ H ρ:=⟨fun _ _ h=>h,List.prefix_refl _,fun _ _ h=>h,fun _ _ _ _ h=>h⟩
theorem Ev.trans {K:PySem.W.Frag}{H H1 H2:Hp}{ρ ρ1 ρ2:List Addr}(a:Ev K H ρ H1 ρ1) (b:Ev K H1 ρ1 H2 ρ2):Ev K H ρ H2 ρ2:=⟨fun x xs h=>b.tup x xs (a.tup x xs h),a.pre.trans b.pre,fun x xs h=>b.perm x xs (a.perm x xs h),fun x C dx fs h=>b.ins x C dx fs (a.ins x C dx fs h)⟩
theorem Ev.at {K:PySem.W.Frag}{H H':Hp}{ρ ρ':List Addr}(e:Ev K H ρ H' ρ') {n:Nat}{a:Addr}(h:ρ[n]?=some a):ρ'[n]?=some a:=by
 obtain ⟨t,rfl⟩:=e.pre;obtain ⟨hl,_⟩:=List.getElem?_eq_some_iff.mp h;rw [List.getElem?_append_left hl];exact h
mutual
theorem RD.mono {K:PySem.W.Frag}{H H':Hp}{ρ ρ':List Addr}(e:Ev K H ρ H' ρ'):∀ {d:D}{v:V},RD K H ρ d v→RD K H' ρ' d v
 | _,_,.non=>.non
 | _,_,.bl b=>.bl b
 | _,_,.int i=>.int i
 | _,_,.str x=>.str x
 | _,_,.tup s r=>.tup (e.tup _ _ s) (RDs.mono e r)
 | _,_,.ref h=>.ref (e.at h)
 | _,_,.rol s r=>.rol (e.perm _ _ s) (RDs.mono e r)
 | _,_,.obj n s l r=>.obj n (e.ins _ _ _ _ s) l (RDs.mono e r)
theorem RDs.mono {K:PySem.W.Frag}{H H':Hp}{ρ ρ':List Addr}(e:Ev K H ρ H' ρ'):∀ {ds:List D}{vs:List V},RDs K H ρ ds vs→RDs K H' ρ' ds vs
 | _,_,.nil=>.nil
 | _,_,.cons r t=>.cons (RD.mono e r) (RDs.mono e t)
end
section
variable {K:PySem.W.Frag}{H H':Hp}{ρ ρ':List Addr}
theorem RDs.length:∀ {ds:List D}{vs:List V},RDs K H ρ ds vs→ds.length=vs.length
 | _,_,.nil=>rfl
 | _,_,.cons _ t=>by rw [List.length_cons,List.length_cons,RDs.length t]
theorem RDs.get:∀ {ds:List D}{vs:List V}{i:Nat}{d:D},RDs K H ρ ds vs→ds[i]?=some d→∃ v,vs[i]?=some v∧RD K H ρ d v
 | _,_,_,_,.nil,e=>by simp at e
 | _,_,0,_,.cons r _,e=>by simp at e;subst e;exact ⟨_,by simp,r⟩
 | _,_,i+1,d,.cons _ t,e=>by
  obtain ⟨v,h1,h2⟩:=RDs.get (i:=i) (d:=d) t (by simpa using e);exact ⟨v,by simpa using h1,h2⟩
theorem RDs.append:∀ {ds es:List D}{vs us:List V},RDs K H ρ ds vs→RDs K H ρ es us→RDs K H ρ (ds++es) (vs++us)
 | _,_,_,_,.nil,s=>s
 | _,_,_,_,.cons r t,s=>.cons r (RDs.append t s)
theorem RDs.take:∀ {ds:List D}{vs:List V}(n:Nat),RDs K H ρ ds vs→RDs K H ρ (ds.take n) (vs.take n)
 | _,_,0,_=>.nil
 | _,_,_+1,.nil=>.nil
 | _,_,n+1,.cons r t=>.cons r (RDs.take n t)
theorem RDs.drop:∀ {ds:List D}{vs:List V}(n:Nat),RDs K H ρ ds vs→RDs K H ρ (ds.drop n) (vs.drop n)
 | _,_,0,r=>r
 | _,_,_+1,.nil=>.nil
 | _,_,n+1,.cons _ t=>RDs.drop n t
theorem RDs.set {d:D}{v:V}(r:RD K H ρ d v):∀ {ds:List D}{vs:List V}(n:Nat),RDs K H ρ ds vs→RDs K H ρ (ds.set n d) (vs.set n v)
 | _,_,_,.nil=>.nil
 | _,_,0,.cons _ t=>.cons r t
 | _,_,n+1,.cons q t=>.cons q (RDs.set r n t)
theorem RDs.reverse {ds:List D}{vs:List V}(h:RDs K H ρ ds vs):RDs K H ρ ds.reverse vs.reverse:=by
 induction ds generalizing vs with
 | nil=>cases h;exact .nil
 | cons d ds ih =>
  cases h with
  | cons r t =>
   rw [List.reverse_cons,List.reverse_cons];exact (ih t).append (.cons r .nil)
theorem RDs.ints:∀ (ns:List Int),RDs K H ρ (ns.map D.int) (ns.map V.int)
 | []=>.nil
 | n::r=>.cons (.int n) (RDs.ints r)
noncomputable def RO (K:PySem.W.Frag) (H:Hp) (ρ:List Addr) (a:Addr):MO→Prop
 | .lst ds=>∃ xs,H a=some (.lst xs)∧RDs K H ρ ds xs
 | .dct kvs=>∃ xs:List (Key×V),H a=some (.dK xs)∧xs.map (·.1)=kvs.map (·.1)∧RDs K H ρ (kvs.map (·.2)) (xs.map (·.2))
structure RS (K:PySem.W.Frag) (H:Hp) (ρ:List Addr) (mh:MH):Prop where
 len:ρ.length=mh.length
 nd:ρ.Nodup
 obj:∀ (n:Nat) (a:Addr) (o:MO),ρ[n]?=some a→mh[n]?=some o→RO K H ρ a o
noncomputable def RL (K:PySem.W.Frag) (H:Hp) (ρ:List Addr) (loc:Loc) (σ:St):Prop:=loc.length=σ.length∧∀ (i:Nat) (d:D),loc[i]?=some (some d)→∃ v,σ[i]?=some (some v)∧RD K H ρ d v
theorem RL.mono {loc:Loc}{σ:St}(e:Ev K H ρ H' ρ') (h:RL K H ρ loc σ):RL K H' ρ' loc σ:=⟨h.1,fun i d q=>let ⟨v,e1,r⟩:=h.2 i d q;⟨v,e1,r.mono e⟩⟩
theorem RL.set {loc:Loc}{σ:St}{d:D}{v:V}{i:Nat}(h:RL K H ρ loc σ) (r:RD K H ρ d v):RL K H ρ (loc.set i (some d)) (σ.set i (some v)):=by
 refine ⟨by rw [List.length_set,List.length_set];exact h.1,fun j d' q=>?_⟩
 by_cases e:i=j
 ·subst e;rw [List.getElem?_set] at q;simp only [if_true] at q;split at q
  ·rename_i hl;cases q;refine ⟨v,?_,r⟩;rw [List.getElem?_set];simp only [if_true];rw [if_pos (by rw [← h.1];exact hl)]
  ·cases q
 ·rw [List.getElem?_set_ne e] at q;rw [List.getElem?_set_ne e];exact h.2 j d' q
theorem RS.at {mh:MH}(h:RS K H ρ mh) {n:Nat}{o:MO}(e:mh[n]?=some o):∃ a,ρ[n]?=some a∧RO K H ρ a o:=by
 obtain ⟨hl,_⟩:=List.getElem?_eq_some_iff.mp e;have hl':n < ρ.length:=by rw [h.len];exact hl
 exact ⟨ρ[n],List.getElem?_eq_getElem hl',h.obj n _ o (List.getElem?_eq_getElem hl') e⟩
theorem RS.tracked {mh:MH}(h:RS K H ρ mh) {a:Addr}(ha:a∈ρ):∃ o,H a=some o:=by
 obtain ⟨n,hn,rfl⟩:=List.getElem_of_mem ha;have hl:n < mh.length:=by rw [← h.len];exact hn
 have q:=h.obj n _ _ (List.getElem?_eq_getElem hn) (List.getElem?_eq_getElem hl);cases e:mh[n] with
 | lst ds=>rw [e] at q;obtain ⟨xs,q,_⟩:=q;exact ⟨_,q⟩
 | dct kvs=>rw [e] at q;obtain ⟨xs,q,_⟩:=q;exact ⟨_,q⟩
theorem RO.read {a:Addr}{ds:List D}(h:RO K H ρ a (.lst ds)):∃ xs,SqL K H a xs∧RDs K H ρ ds xs:=by
 obtain ⟨xs,q,r⟩:=h;exact ⟨xs,.inl (.inl q),r⟩
theorem sqT_new {a p:Addr}{o:HO}{xs:List V}(hp:H p=none) (h:SqT K H a xs):SqT K (upd H p o) a xs:=by
 rcases h with (h | ⟨ob,h⟩) | h
 ·exact .inl (.inl (by rw [upd_ne (ne_of_none h hp)];exact h))
 ·exact .inl (.inr ⟨ob,by rw [upd_ne (ne_of_none h hp)];exact h⟩)
 ·exact .inr h
theorem sqT_lst {a p:Addr}{ys zs xs:List V}(hp:H p=some (.lst ys)) (h:SqT K H a xs):SqT K (upd H p (.lst zs)) a xs:=by
 rcases h with (h | ⟨ob,h⟩) | h
 ·exact .inl (.inl (by rw [upd_ne (ne_of h hp (by intro z;cases z))];exact h))
 ·exact .inl (.inr ⟨ob,by rw [upd_ne (ne_of h hp (by intro z;cases z))];exact h⟩)
 ·exact .inr h
theorem perm_new {a p:Addr}{o:HO}{xs:List V}(hp:H p=none) (h:PermL K H a xs):PermL K (upd H p o) a xs:=by
 rcases h with ⟨ob,h⟩ | h
 ·exact .inl ⟨ob,by rw [upd_ne (ne_of_none h hp)];exact h⟩
 ·exact .inr h
theorem perm_lst {a p:Addr}{ys zs xs:List V}(hp:H p=some (.lst ys)) (h:PermL K H a xs):PermL K (upd H p (.lst zs)) a xs:=by
 rcases h with ⟨ob,h⟩ | h
 ·exact .inl ⟨ob,by rw [upd_ne (ne_of h hp (by intro z;cases z))];exact h⟩
 ·exact .inr h
theorem Ev.new {p:Addr}{o:HO}(hp:H p=none):Ev K H ρ (upd H p o) ρ:=⟨fun _ _ h=>sqT_new hp h,List.prefix_refl _,fun _ _ h=>perm_new hp h,fun a _ _ _ h=>by rw [upd_ne (ne_of_none h hp)];exact h⟩
theorem Ev.newL {p:Addr}{o:HO}(hp:H p=none):Ev K H ρ (upd H p o) (ρ++[p]):=⟨fun _ _ h=>sqT_new hp h,List.prefix_append _ _,fun _ _ h=>perm_new hp h,fun a _ _ _ h=>by rw [upd_ne (ne_of_none h hp)];exact h⟩
theorem Ev.lst {p:Addr}{ys zs:List V}(hp:H p=some (.lst ys)):Ev K H ρ (upd H p (.lst zs)) ρ:=⟨fun _ _ h=>sqT_lst hp h,List.prefix_refl _,fun _ _ h=>perm_lst hp h,fun a _ _ _ h=>by rw [upd_ne (ne_of h hp (by intro z;cases z))];exact h⟩
theorem RO.mono {a:Addr}{o:MO}(e:Ev K H ρ H' ρ') (s:H' a=H a) (h:RO K H ρ a o):RO K H' ρ' a o:=by
 cases o with
 | lst ds=>obtain ⟨xs,q,r⟩:=h;exact ⟨xs,by rw [s];exact q,r.mono e⟩
 | dct kvs=>obtain ⟨xs,q,k,r⟩:=h;exact ⟨xs,by rw [s];exact q,k,r.mono e⟩
theorem RS.new {mh:MH}{p:Addr}{o:HO}(h:RS K H ρ mh) (hp:H p=none):RS K (upd H p o) ρ mh :=
 ⟨h.len,h.nd,fun n a ob e1 e2=>(h.obj n a ob e1 e2).mono (Ev.new hp) (by
  obtain ⟨oo,q⟩:=h.tracked (List.mem_of_getElem? e1)
  rw [upd_ne (ne_of_none q hp)])⟩
theorem RS.newL {mh:MH}{p:Addr}{xs:List V}{ds:List D}(h:RS K H ρ mh) (hp:H p=none) (r:RDs K H ρ ds xs):RS K (upd H p (.lst xs)) (ρ++[p]) (mh++[.lst ds]):=by
 have hnp:p ∉ ρ:=fun z=>by
  obtain ⟨o,q⟩:=h.tracked z;rw [hp] at q;cases q
 refine ⟨by rw [List.length_append,List.length_append,h.len];rfl,?_,fun n a ob e1 e2=>?_⟩
 ·rw [List.nodup_append]
  exact ⟨h.nd,List.pairwise_singleton _ _,fun a ha b hb z=>by
   rw [List.mem_singleton.mp hb] at z;rw [z] at ha;exact hnp ha⟩
 ·by_cases hn:n < ρ.length
  ·rw [List.getElem?_append_left hn] at e1;rw [List.getElem?_append_left (by rw [← h.len];exact hn)] at e2;refine (h.obj n a ob e1 e2).mono (Ev.newL hp) ?_;obtain ⟨oo,q⟩:=h.tracked (List.mem_of_getElem? e1);rw [upd_ne (ne_of_none q hp)]
  ·rw [List.getElem?_append_right (by omega)] at e1;rw [List.getElem?_append_right (by rw [← h.len];omega)] at e2;have n0:n - ρ.length=0:=by
    have:=(List.getElem?_eq_some_iff.mp e1).1;simp at this;omega
   rw [n0] at e1;rw [← h.len,n0] at e2;cases e1;cases e2;exact ⟨xs,upd_same,r.mono (Ev.newL hp)⟩
theorem RS.setL {mh:MH}{n:Nat}{p:Addr}{ys xs:List V}{ds:List D}(h:RS K H ρ mh) (hn:ρ[n]?=some p) (hp:H p=some (.lst ys)) (r:RDs K H ρ ds xs):RS K (upd H p (.lst xs)) ρ (mh.set n (.lst ds)):=by
 refine ⟨by rw [List.length_set];exact h.len,h.nd,fun m a ob e1 e2=>?_⟩
 by_cases hm:n=m
 ·subst hm;rw [hn] at e1;cases e1;rw [List.getElem?_set] at e2;simp only [if_true] at e2;split at e2
  ·cases e2;exact ⟨xs,upd_same,r.mono (Ev.lst hp)⟩
  ·cases e2
 ·rw [List.getElem?_set_ne hm] at e2;refine (h.obj m a ob e1 e2).mono (Ev.lst hp) ?_;rw [upd_ne];intro z;subst z;exact hm ((List.getElem?_inj (List.getElem?_eq_some_iff.mp hn).1 h.nd).mp (hn.trans e1.symm))
end
noncomputable abbrev DM (α:Type):=Loc→MH→Option (α×MH)
noncomputable def DM.bnd {α β:Type}(m:DM α) (f:α→DM β):DM β:=fun loc mh=>match m loc mh with
 | none=>none
 | some (a,mh')=>f a loc mh'
theorem bnd_some {α β:Type}{m:DM α}{f:α→DM β}{loc:Loc}{mh:MH}{r:β×MH}(h:m.bnd f loc mh=some r):∃ a m1,m loc mh=some (a,m1)∧f a loc m1=some r:=by
 unfold DM.bnd at h;split at h
 ·cases h
 ·rename_i a m1 e;exact ⟨a,m1,e,h⟩
noncomputable def DM.ret {α:Type}(a:α):DM α:=fun _ mh=>some (a,mh)
noncomputable def DM.lift {α:Type}(f:MH→Option (α×MH)):DM α:=fun _ mh=>f mh
noncomputable def DM.bad {α:Type}:DM α:=fun _ _=>none
noncomputable def Co (K:PySem.W.Frag) (H:Hp) (ρ:List Addr) (mh':MH) (d:D) (Q:VK):Prop:=∀ H' ρ' v,Ev K H ρ H' ρ'→RS K H' ρ' mh'→RD K H' ρ' d v→Q v H'
noncomputable def tD (K:PySem.W.Frag) (loc:Loc) (mh:MH) (r:Option (D×MH)):TE:=fun σ H Q=>∃ ρ d mh',r=some (d,mh')∧RL K H ρ loc σ∧RS K H ρ mh∧Co K H ρ mh' d Q
noncomputable def tDT (K:PySem.W.Frag) (loc:Loc) (mh:MH) (r:Option (Bool×MH)):TT:=fun σ H Q=>∃ ρ b mh',r=some (b,mh')∧RL K H ρ loc σ∧RS K H ρ mh∧∀ H' ρ',Ev K H ρ H' ρ'→RS K H' ρ' mh'→Q b H'
noncomputable def tDA (K:PySem.W.Frag) (loc:Loc) (mh:MH) (r:Option (List D×MH)):TA:=fun σ H Q=>∃ ρ ds mh',r=some (ds,mh')∧RL K H ρ loc σ∧RS K H ρ mh∧∀ H' ρ' vs,Ev K H ρ H' ρ'→RS K H' ρ' mh'→RDs K H' ρ' ds vs→Q vs H'
noncomputable def DE (X:Cx) (e:Expr) (m:DM D):Prop:=∀ loc mh,PE X e (tD X.K loc mh (m loc mh))
noncomputable def DT (X:Cx) (e:Expr) (m:DM Bool):Prop:=∀ loc mh,PT X e (tDT X.K loc mh (m loc mh))
noncomputable def DA (X:Cx) (es:List Expr) (m:DM (List D)):Prop:=∀ loc mh,PA X es (tDA X.K loc mh (m loc mh))
theorem PE_imp {X:Cx}{e:Expr}{t t':TE}(h:PE X e t) (i:∀ σ H Q,t' σ H Q→t σ H Q):PE X e t':=fun pins s σ H Q I q=>h pins s σ H Q I (i σ H Q q)
theorem PT_imp {X:Cx}{e:Expr}{t t':TT}(h:PT X e t) (i:∀ σ H Q,t' σ H Q→t σ H Q):PT X e t':=fun pins s σ H Q I q=>h pins s σ H Q I (i σ H Q q)
theorem PA_imp {X:Cx}{es:List Expr}{t t':TA}(h:PA X es t) (i:∀ σ H Q,t' σ H Q→t σ H Q):PA X es t':=fun pos pins s σ H Q I q=>h pos pins s σ H Q I (i σ H Q q)
theorem tD_none {K:PySem.W.Frag}{loc:Loc}{mh:MH}{σ:St}{H:Hp}{Q:VK}(h:tD K loc mh none σ H Q):False:=by obtain ⟨_,_,_,e,_⟩:=h;cases e
theorem PE_none {X:Cx}{e:Expr}{loc:Loc}{mh:MH}:PE X e (tD X.K loc mh none):=fun _ _ _ _ _ _ h=>(tD_none h).elim
theorem PT_none {X:Cx}{e:Expr}{loc:Loc}{mh:MH}:PT X e (tDT X.K loc mh none):=fun _ _ _ _ _ _ h=>by obtain ⟨_,_,_,e,_⟩:=h;cases e
theorem PA_none {X:Cx}{es:List Expr}{loc:Loc}{mh:MH}:PA X es (tDA X.K loc mh none):=fun _ _ _ _ _ _ _ h=>by obtain ⟨_,_,_,e,_⟩:=h;cases e
theorem de_bad {X:Cx}{e:Expr}:DE X e DM.bad:=fun _ _=>PE_none
theorem dt_bad {X:Cx}{e:Expr}:DT X e DM.bad:=fun _ _=>PT_none
theorem da_bad {X:Cx}{es:List Expr}:DA X es DM.bad:=fun _ _=>PA_none
section
variable {X:Cx}{a b c e:Expr}{ma mb mc:DM D}{pos:Pos}
theorem de_c {d:D}{v:V}(h:PE X e (tC v)) (r:∀ K H ρ,RD K H ρ d v):DE X e (DM.ret d):=by
 refine fun loc mh=>PE_imp h ?_
 rintro σ H Q ⟨ρ,d',mh',q,rl,rs,co⟩;cases q;exact co H ρ v Ev.refl rs (r _ _ _)
theorem de_var {i:Nat}{x:Str}(hN:X.N[i]?=some x) (hv:Vis X.env.scope x) (hd:(x==("__debug__":Str))=false) (hcd:(x==("__classdict__":Str))=false) :
  DE X (.Name x pos) (fun loc mh=>match loc[i]? with | some (some d)=>some (d,mh) | _=>none):=by
 refine fun loc mh=>PE_imp (pe_var hN hv hd hcd) ?_
 rintro σ H Q ⟨ρ,d',mh',q,rl,rs,co⟩;dsimp only at q;split at q
 ·rename_i d e;cases q;obtain ⟨v,h1,h2⟩:=rl.2 i d' e;exact ⟨v,h1,co H ρ v Ev.refl rs h2⟩
 ·cases q
noncomputable def rD (K:PySem.W.Frag) (f:D→D→MH→Option (D×MH)):R2:=fun x y H Q=>∃ ρ mh dx dy d mh',f dx dy mh=some (d,mh')∧RS K H ρ mh∧RD K H ρ dx x∧RD K H ρ dy y∧Co K H ρ mh' d Q
noncomputable def rD1 (K:PySem.W.Frag) (f:D→MH→Option (D×MH)):V→Hp→VK→Prop:=fun x H Q=>∃ ρ mh dx d mh',f dx mh=some (d,mh')∧RS K H ρ mh∧RD K H ρ dx x∧Co K H ρ mh' d Q
noncomputable def rDs (K:PySem.W.Frag) (f:List D→MH→Option (D×MH)):List V→Hp→VK→Prop:=fun xs H Q=>∃ ρ mh ds d mh',f ds mh=some (d,mh')∧RS K H ρ mh∧RDs K H ρ ds xs∧Co K H ρ mh' d Q
theorem Co.ev {K:PySem.W.Frag}{H H1:Hp}{ρ ρ1:List Addr}{mh':MH}{d:D}{Q:VK}(e:Ev K H ρ H1 ρ1) (c:Co K H ρ mh' d Q):Co K H1 ρ1 mh' d Q:=fun H' ρ' v e' rs r=>c H' ρ' v (e.trans e') rs r
noncomputable def dop (f:D→D→MH→Option (D×MH)) (ma mb:DM D):DM D:=ma.bnd fun x=>mb.bnd fun y=>DM.lift (f x y)
theorem two {K:PySem.W.Frag}{f:D→D→MH→Option (D×MH)}{loc:Loc}{mh:MH}{σ:St}{H:Hp}{Q:VK}(h:tD K loc mh (dop f ma mb loc mh) σ H Q) :
  ∃ x m1,ma loc mh=some (x,m1)∧tOp (rD K f) (tD K loc mh (ma loc mh)) (tD K loc m1 (mb loc m1)) σ H Q:=by
 obtain ⟨ρ,d,mh',q,rl,rs,co⟩:=h;obtain ⟨x,m1,ea,q⟩:=bnd_some q;obtain ⟨y,m2,eb,q⟩:=bnd_some q;refine ⟨x,m1,ea,ρ,x,m1,ea,rl,rs,fun H1 ρ1 v1 e1 rs1 r1=>⟨ρ1,y,m2,eb,rl.mono e1,rs1,fun H2 ρ2 v2 e2 rs2 r2=>?_⟩⟩;exact ⟨ρ2,m2,x,y,d,mh',q,rs2,r1.mono e2,r2,co.ev (e1.trans e2)⟩
theorem de_two {f:D→D→MH→Option (D×MH)}(h:∀ ta tb,PE X a ta→PE X b tb→PE X e (tOp (rD X.K f) ta tb)) (ha:DE X a ma) (hb:DE X b mb):DE X e (dop f ma mb):=fun loc mh=>by
 cases ea:ma loc mh with
 | none =>
  have:dop f ma mb loc mh=none:=by unfold dop DM.bnd;rw [ea]
  rw [this];exact PE_none
 | some p =>
  refine PE_imp (h _ _ (ha loc mh) (hb loc p.2)) fun σ H Q q=>?_
  obtain ⟨x,m1,e1,q⟩:=two q;rw [ea] at e1;cases e1;exact q
theorem de_op {op:Operator}{f:D→D→MH→Option (D×MH)}(ho:OpR X (binaryOp op) (rD X.K f)) (ha:DE X a ma) (hb:DE X b mb):DE X (.BinOp a op b pos) (dop f ma mb):=de_two (fun _ _ p q=>pe_op ho p q) ha hb
theorem de_cmp {op:CmpOp}{f:D→D→MH→Option (D×MH)}(ho:OpR X (compareOp op) (rD X.K f)) (hm:behindInMarks op b=false) (ha:DE X a ma) (hb:DE X b mb):DE X (.Compare a [op] [b] pos) (dop f ma mb):=de_two (fun _ _ p q=>pe_cmpR ho p q hm) ha hb
theorem de_ix {f:D→D→MH→Option (D×MH)}(ho:IxR X (rD X.K f)) (hs:PlainIx b) (ha:DE X a ma) (hb:DE X b mb):DE X (.Subscript a b pos) (dop f ma mb):=de_two (fun _ _ p q=>pe_ix ho p q hs) ha hb
theorem de_un {op:UnaryOp}{f:D→MH→Option (D×MH)}(ho:UnR X (unaryOp op) (rD1 X.K f)) (ha:DE X a ma):DE X (.UnaryOp op a pos) (ma.bnd fun x=>DM.lift (f x)):=fun loc mh =>
 PE_imp (pe_un ho (ha loc mh)) fun σ H Q ⟨ρ,d,mh',q,rl,rs,co⟩=>by
 obtain ⟨x,m1,ea,q⟩:=bnd_some q
 ·exact ⟨ρ,x,m1,ea,rl,rs,fun H1 ρ1 v1 e1 rs1 r1=>⟨ρ1,m1,x,d,mh',q,rs1,r1,co.ev e1⟩⟩
noncomputable def asB:D→Option Bool
 | .bl b=>some b
 | _=>none
noncomputable def boolD (ma:DM D):DM Bool:=ma.bnd fun x=>match asB x with | some b=>DM.ret b | none=>DM.bad
theorem dt_cmpd {f:D→D→MH→Option (D×MH)}(h:∀ ta tb,PE X a ta→PE X b tb→PT X e (tTest (tOp (rD X.K f) ta tb))) (ha:DE X a ma) (hb:DE X b mb):DT X e (boolD (dop f ma mb)):=fun loc mh=>by
 cases ea:ma loc mh with
 | none =>
  have:boolD (dop f ma mb) loc mh=none:=by unfold boolD dop DM.bnd;rw [ea]
  rw [this];exact PT_none
 | some p =>
  refine PT_imp (h _ _ (ha loc mh) (hb loc p.2)) ?_;rintro σ H Q ⟨ρ,k,mh',q,rl,rs,co⟩;unfold boolD at q;cases ed:dop f ma mb loc mh with
  | none=>unfold DM.bnd at q;rw [ed] at q;cases q
  | some z =>
   obtain ⟨d,m2⟩:=z;unfold DM.bnd at q;rw [ed] at q;cases d with
   | bl k' =>
    cases q;have t:tD X.K loc mh (dop f ma mb loc mh) σ H (fun x H'=>∃ k,x=.bl k∧Q k H'):=⟨ρ,.bl k,mh',ed,rl,rs,fun H' ρ' v e' rs' r'=>by cases r';exact ⟨k,rfl,co H' ρ' e' rs'⟩⟩;obtain ⟨x,m1,e1,q⟩:=two t;rw [ea] at e1;cases e1;exact q
   | non=>cases q
   | int i=>cases q
   | str s=>cases q
   | tup ds=>cases q
   | ref n=>cases q
   | rol ds=>cases q
   | obj c ks ds=>cases q
theorem dt_cmp {op:CmpOp}{f:D→D→MH→Option (D×MH)}(ho:OpR X (compareOp op) (rD X.K f)) (hm:behindInMarks op b=false) (ha:DE X a ma) (hb:DE X b mb):DT X (.Compare a [op] [b] pos) (boolD (dop f ma mb)):=dt_cmpd (fun _ _ p q=>pt_cmpR ho p q hm) ha hb
noncomputable def dAndT (t u:DM Bool):DM Bool:=t.bnd fun c=>if c=true then u else DM.ret false
noncomputable def dOrT (t u:DM Bool):DM Bool:=t.bnd fun c=>if c=true then DM.ret true else u
noncomputable def dNotT (t:DM Bool):DM Bool:=t.bnd fun c=>DM.ret (!c)
noncomputable def DW (X:Cx) (e:Expr) (m:DM Bool):Prop:=∀ loc mh,PW X e (tDT X.K loc mh (m loc mh))
theorem PW_none {loc:Loc}{mh:MH}:PW X e (tDT X.K loc mh none):=fun _ _ _ _ _ _ _ h=>by obtain ⟨_,_,_,e,_⟩:=h;cases e
theorem PW_imp {t t':TT}(h:PW X e t) (i:∀ σ H Q,t' σ H Q→t σ H Q):PW X e t':=fun wh pins s σ H Q I q=>h wh pins s σ H Q I (i σ H Q q)
theorem DW.dt {m:DM Bool}(h:DW X e m):DT X e m:=fun loc mh=>(h loc mh).pt
variable {t u:DM Bool}{rest:List Expr}
theorem dw_and1 (ha:DT X a t):DW X (.BoolOp .And [a] pos) t:=fun loc mh=>pw_and1 (ha loc mh)
theorem dw_or1 (ha:DT X a t):DW X (.BoolOp .Or [a] pos) t:=fun loc mh=>pw_or1 (ha loc mh)
theorem dw_and (ha:DT X a t) (hb:DW X (.BoolOp .And (b::rest) pos) u):DW X (.BoolOp .And (a::b::rest) pos) (dAndT t u):=fun loc mh=>by
 cases ea:t loc mh with
 | none =>
  have:dAndT t u loc mh=none:=by unfold dAndT DM.bnd;rw [ea]
  rw [this];exact PW_none
 | some p =>
  obtain ⟨k,m1⟩:=p;refine PW_imp (pw_and (ha loc mh) (hb loc m1)) ?_;rintro σ H Q ⟨ρ,k',mh',q,rl,rs,co⟩;have q':(if k=true then u else DM.ret false) loc m1=some (k',mh'):=by unfold dAndT DM.bnd at q;rw [ea] at q;exact q
  refine ⟨ρ,k,m1,ea,rl,rs,fun H1 ρ1 e1 rs1=>?_⟩;cases k with
  | true=>exact iteT ⟨ρ1,k',mh',q',rl.mono e1,rs1,fun H2 ρ2 e2 rs2=>co H2 ρ2 (e1.trans e2) rs2⟩
  | false=>cases q';exact iteF (co H1 ρ1 e1 rs1)
theorem dw_or (ha:DT X a t) (hb:DW X (.BoolOp .Or (b::rest) pos) u):DW X (.BoolOp .Or (a::b::rest) pos) (dOrT t u):=fun loc mh=>by
 cases ea:t loc mh with
 | none =>
  have:dOrT t u loc mh=none:=by unfold dOrT DM.bnd;rw [ea]
  rw [this];exact PW_none
 | some p =>
  obtain ⟨k,m1⟩:=p;refine PW_imp (pw_or (ha loc mh) (hb loc m1)) ?_;rintro σ H Q ⟨ρ,k',mh',q,rl,rs,co⟩;have q':(if k=true then DM.ret true else u) loc m1=some (k',mh'):=by unfold dOrT DM.bnd at q;rw [ea] at q;exact q
  refine ⟨ρ,k,m1,ea,rl,rs,fun H1 ρ1 e1 rs1=>?_⟩;cases k with
  | true=>cases q';exact iteT (co H1 ρ1 e1 rs1)
  | false=>exact iteF ⟨ρ1,k',mh',q',rl.mono e1,rs1,fun H2 ρ2 e2 rs2=>co H2 ρ2 (e1.trans e2) rs2⟩
theorem dt_not (ha:DT X a t):DT X (.UnaryOp .Not a pos) (dNotT t):=fun loc mh=>by
 refine PT_imp (pt_not (ha loc mh)) ?_;rintro σ H Q ⟨ρ,k',mh',q,rl,rs,co⟩;obtain ⟨k,m1,ea,q⟩:=bnd_some q
 ·cases q;exact ⟨ρ,k,mh',ea,rl,rs,fun H1 ρ1 e1 rs1=>co H1 ρ1 e1 rs1⟩
noncomputable def dIf (t:DM Bool) (ma mb:DM D):DM D:=t.bnd fun c=>if c=true then ma else mb
theorem de_if (hc:DT X c t) (ha:DE X a ma) (hb:DE X b mb):DE X (.IfExp c a b pos) (dIf t ma mb):=fun loc mh=>by
 cases ea:t loc mh with
 | none =>
  have:dIf t ma mb loc mh=none:=by unfold dIf DM.bnd;rw [ea]
  rw [this];exact PE_none
 | some p =>
  obtain ⟨k,m1⟩:=p;refine PE_imp (pe_ifExp (hc loc mh) (ha loc m1) (hb loc m1)) ?_;rintro σ H Q ⟨ρ,d,mh',q,rl,rs,co⟩;have q':(if k=true then ma else mb) loc m1=some (d,mh'):=by unfold dIf DM.bnd at q;rw [ea] at q;exact q
  refine ⟨ρ,k,m1,ea,rl,rs,fun H1 ρ1 e1 rs1=>?_⟩;cases k with
  | true=>exact iteT ⟨ρ1,d,mh',q',rl.mono e1,rs1,co.ev e1⟩
  | false=>exact iteF ⟨ρ1,d,mh',q',rl.mono e1,rs1,co.ev e1⟩
noncomputable def dAndV (ma mb:DM D):DM D:=(boolD ma).bnd fun c=>if c=true then mb else DM.ret (.bl false)
noncomputable def dOrV (ma mb:DM D):DM D:=(boolD ma).bnd fun c=>if c=true then DM.ret (.bl true) else mb
theorem boolD_some {loc:Loc}{mh:MH}{k:Bool}{m1:MH}(h:boolD ma loc mh=some (k,m1)):ma loc mh=some (.bl k,m1):=by
 obtain ⟨x,m2,ea,h⟩:=bnd_some h
 ·cases x with
  | bl b=>cases h;exact ea
  | non=>cases h
  | int i=>cases h
  | str s=>cases h
  | tup ds=>cases h
  | ref n=>cases h
  | rol ds=>cases h
  | obj c ks ds=>cases h
theorem de_one {op}(ha:DE X a ma):DE X (.BoolOp op [a] pos) ma:=fun loc mh=>pe_one (ha loc mh)
theorem de_and (ha:DE X a ma) (hb:DE X (.BoolOp .And (b::rest) pos) mb):DE X (.BoolOp .And (a::b::rest) pos) (dAndV ma mb):=fun loc mh=>by
 cases ea:boolD ma loc mh with
 | none =>
  have:dAndV ma mb loc mh=none:=by unfold dAndV DM.bnd;rw [ea]
  rw [this];exact PE_none
 | some p =>
  obtain ⟨k,m1⟩:=p;refine PE_imp (pe_and (ha loc mh) (hb loc m1)) ?_;rintro σ H Q ⟨ρ,d,mh',q,rl,rs,co⟩;have q':(if k=true then mb else DM.ret (.bl false)) loc m1=some (d,mh'):=by unfold dAndV DM.bnd at q;rw [ea] at q;exact q
  refine ⟨ρ,.bl k,m1,boolD_some ea,rl,rs,fun H1 ρ1 v e1 rs1 r1=>?_⟩;cases r1;refine ⟨k,rfl,?_⟩;cases k with
  | true=>exact iteT ⟨ρ1,d,mh',q',rl.mono e1,rs1,co.ev e1⟩
  | false=>cases q';exact iteF (co H1 ρ1 _ e1 rs1 (.bl false))
theorem de_or (ha:DE X a ma) (hb:DE X (.BoolOp .Or (b::rest) pos) mb):DE X (.BoolOp .Or (a::b::rest) pos) (dOrV ma mb):=fun loc mh=>by
 cases ea:boolD ma loc mh with
 | none =>
  have:dOrV ma mb loc mh=none:=by unfold dOrV DM.bnd;rw [ea]
  rw [this];exact PE_none
 | some p =>
  obtain ⟨k,m1⟩:=p;refine PE_imp (pe_or (ha loc mh) (hb loc m1)) ?_;rintro σ H Q ⟨ρ,d,mh',q,rl,rs,co⟩;have q':(if k=true then DM.ret (.bl true) else mb) loc m1=some (d,mh'):=by unfold dOrV DM.bnd at q;rw [ea] at q;exact q
  refine ⟨ρ,.bl k,m1,boolD_some ea,rl,rs,fun H1 ρ1 v e1 rs1 r1=>?_⟩;cases r1;refine ⟨k,rfl,?_⟩;cases k with
  | true=>cases q';exact iteT (co H1 ρ1 _ e1 rs1 (.bl true))
  | false=>exact iteF ⟨ρ1,d,mh',q',rl.mono e1,rs1,co.ev e1⟩
theorem de_not (ha:DE X a ma):DE X (.UnaryOp .Not a pos) ((boolD ma).bnd fun c=>DM.ret (.bl (!c))):=fun loc mh=>by
 refine PE_imp (pe_not (ha loc mh)) ?_;rintro σ H Q ⟨ρ,d,mh',q,rl,rs,co⟩;cases ea:boolD ma loc mh with
 | none=>unfold DM.bnd at q;rw [ea] at q;cases q
 | some p =>
  obtain ⟨k,m1⟩:=p;unfold DM.bnd at q;rw [ea] at q;cases q;refine ⟨ρ,.bl k,mh',boolD_some ea,rl,rs,fun H1 ρ1 v e1 rs1 r1=>?_⟩;cases r1;exact ⟨k,rfl,co H1 ρ1 _ e1 rs1 (.bl _)⟩
noncomputable def truD:D→MH→Option Bool
 | .non,_=>some false
 | .bl b,_=>some b
 | .int i,_=>some (i != 0)
 | .str y,_=>if y.length≤sizeLine then some ((y.length:Int) != 0) else none
 | .tup ds,_=>some (!ds.isEmpty)
 | .ref n,mh=>match mh[n]? with | some (.lst o)=>some (!o.isEmpty) | _=>none
 | .rol ds,_=>some (!ds.isEmpty)
 | .obj ..,_=>none
theorem isEmpty_rds {K:PySem.W.Frag}{H:Hp}{ρ:List Addr}{ds:List D}{xs:List V}(r:RDs K H ρ ds xs):ds.isEmpty=xs.isEmpty:=by cases r <;> rfl
theorem truD_ok {K:PySem.W.Frag}{H:Hp}{ρ:List Addr}{mh:MH}{d:D}{v:V}{k:Bool}(rs:RS K H ρ mh) (r:RD K H ρ d v) (e:truD d mh=some k):TruV K v H k:=by
 cases r with
 | non=>cases e;rfl
 | bl b=>cases e;rfl
 | int i=>cases e;rfl
 | str x =>
  have e:(if x.length≤sizeLine then some ((x.length:Int) != 0) else none)=some k:=e;split at e
  ·rename_i hz;cases e;exact ⟨hz,rfl⟩
  ·cases e
 | tup s r=>cases e;exact .inr (.inl ⟨_,s,by rw [isEmpty_rds r]⟩)
 | rol s r=>cases e;exact .inl ⟨_,s.sq,by rw [isEmpty_rds r]⟩
 | obj n s l r=>cases e
 | @ref n a h =>
  have e:(match mh[n]? with | some (.lst o)=>some (!o.isEmpty) | _=>none)=some k:=e;split at e
  ·rename_i o eo;cases e;obtain ⟨a',ha,ro⟩:=rs.at eo;rw [h] at ha;cases ha;obtain ⟨xs,q,r⟩:=ro.read;exact .inl ⟨xs,q,by rw [isEmpty_rds r]⟩
  ·cases e
noncomputable def truM (ma:DM D):DM Bool:=ma.bnd fun x=>fun _ mh=>match truD x mh with | some k=>some (k,mh) | none=>none
theorem dt_truth (ha:DE X a ma) (he:∀ whole,isTrue a X.env whole=(do let v ← whole;standAt a.pos;holding [v] (truthy v))):DT X a (truM ma):=fun loc mh=>by
 refine PT_imp (pt_truth (ha loc mh) he) ?_;rintro σ H Q ⟨ρ,k,mh',q,rl,rs,co⟩;obtain ⟨x,m1,ea,q⟩:=bnd_some q
 ·split at q
  ·rename_i k' ek;cases q;exact ⟨ρ,x,mh',ea,rl,rs,fun H1 ρ1 v e1 rs1 r1=>⟨k,truD_ok rs1 r1 ek,co H1 ρ1 e1 rs1⟩⟩
  ·cases q
noncomputable def dCons (ma:DM D) (mr:DM (List D)):DM (List D):=ma.bnd fun x=>mr.bnd fun xs=>DM.ret (x::xs)
theorem da_nil:DA X [] (DM.ret []):=by
 refine fun loc mh=>PA_imp pa_nil ?_
 rintro σ H Q ⟨ρ,ds,mh',q,rl,rs,co⟩;cases q;exact co H ρ [] Ev.refl rs .nil
theorem da_cons {es:List Expr}{mr:DM (List D)}(ha:DE X a ma) (hr:DA X es mr) (hs:starEach (a::es) X.env=(false,eval a X.env)::starEach es X.env):DA X (a::es) (dCons ma mr):=fun loc mh=>by
 cases ea:ma loc mh with
 | none =>
  have:dCons ma mr loc mh=none:=by unfold dCons DM.bnd;rw [ea]
  rw [this];exact PA_none
 | some p =>
  obtain ⟨x,m1⟩:=p;refine PA_imp (pa_cons (ha loc mh) (hr loc m1) hs) ?_;rintro σ H Q ⟨ρ,ds,mh',q,rl,rs,co⟩;obtain ⟨x2,m2,ea2,q⟩:=bnd_some q;rw [ea] at ea2;cases ea2;obtain ⟨xs,m2,er,q'⟩:=bnd_some q
  ·cases q';exact ⟨ρ,x,m1,ea,rl,rs,fun H1 ρ1 v e1 rs1 r1=>⟨ρ1,xs,mh',er,rl.mono e1,rs1,fun H2 ρ2 vs e2 rs2 r2=>co H2 ρ2 _ (e1.trans e2) rs2 (.cons (r1.mono e2) r2)⟩⟩
noncomputable def mkTup (ds:List D) (mh:MH):Option (D×MH):=if ds.length≤sizeLine then some (.tup ds,mh) else none
noncomputable def mkLst (ds:List D) (mh:MH):Option (D×MH):=if ds.length≤sizeLine then some (.ref mh.length,mh++[.lst ds]) else none
theorem RS.last {K:PySem.W.Frag}{H:Hp}{ρ:List Addr}{mh:MH}(h:RS K H ρ mh) (p:Addr):(ρ++[p])[mh.length]?=some p:=by rw [← h.len];simp
theorem Co.newT {K:PySem.W.Frag}{H:Hp}{ρ:List Addr}{mh:MH}{ds:List D}{vs:List V}{Q:VK}(rs:RS K H ρ mh) (r:RDs K H ρ ds vs) (co:Co K H ρ mh (.tup ds) Q):∀ p,H p=none→Q (.ref p) (upd H p (.tup vs)):=fun p hp =>
 co _ ρ _ (Ev.new hp) (rs.new hp) (.tup (.inl (.inl upd_same)) (r.mono (Ev.new hp)))
theorem Co.newL {K:PySem.W.Frag}{H:Hp}{ρ:List Addr}{mh:MH}{ds:List D}{vs:List V}{Q:VK}(rs:RS K H ρ mh) (r:RDs K H ρ ds vs) (co:Co K H ρ (mh++[.lst ds]) (.ref mh.length) Q):∀ p,H p=none→Q (.ref p) (upd H p (.lst vs)):=fun p hp =>
 co _ (ρ++[p]) _ (Ev.newL hp) (rs.newL hp r) (.ref (rs.last p))
theorem de_tup {es:List Expr}{mr:DM (List D)}{x1}(h:DA X es mr):DE X (.Tuple es x1 pos) (mr.bnd fun ds=>DM.lift (mkTup ds)):=fun loc mh=>by
 refine PE_imp (pe_tup (h loc mh)) ?_;rintro σ H Q ⟨ρ,d,mh',q,rl,rs,co⟩;obtain ⟨ds,m1,ea,q⟩:=bnd_some q
 ·unfold DM.lift mkTup at q;split at q
  ·rename_i hz;cases q;exact ⟨ρ,ds,mh',ea,rl,rs,fun H1 ρ1 vs e1 rs1 r1=>⟨by rw [← r1.length];exact hz,Co.newT rs1 r1 (co.ev e1)⟩⟩
  ·cases q
theorem de_lst {es:List Expr}{mr:DM (List D)}(h:DA X es mr):DE X (.List es pos) (mr.bnd fun ds=>DM.lift (mkLst ds)):=fun loc mh=>by
 refine PE_imp (pe_lst (h loc mh)) ?_;rintro σ H Q ⟨ρ,d,mh',q,rl,rs,co⟩;obtain ⟨ds,m1,ea,q⟩:=bnd_some q
 ·unfold DM.lift mkLst at q;split at q
  ·rename_i hz;cases q;exact ⟨ρ,ds,m1,ea,rl,rs,fun H1 ρ1 vs e1 rs1 r1=>⟨by rw [← r1.length];exact hz,Co.newL rs1 r1 (co.ev e1)⟩⟩
  ·cases q
theorem de_callB {f:List D→MH→Option (D×MH)}{es:List Expr}{mr:DM (List D)}{x:Str}{p:Pos}{id:String}(hc:CallR X (.builtin id) (rDs X.K f)) (hg:Gl X x) (hm:X.mg x=none) (hv:bootBuiltins x=some (.builtin id)) (ha:DA X (a::es) mr)
  (hn:x ≠ "__name__") (hdb:(x==("__debug__":Str))=false) (he:starEach (a::es) X.env=(false,eval a X.env)::starEach es X.env) (hpl:(backTo pos (starEach es X.env)).any (·.1)=false) :
  DE X (.Call (.Name x p) (a::es) [] pos) (mr.bnd fun ds=>DM.lift (f ds)):=fun loc mh=>by
 refine PE_imp (pe_callB hc hg hm hv (ha loc mh) hn hdb he hpl) ?_;rintro σ H Q ⟨ρ,d,mh',q,rl,rs,co⟩;obtain ⟨ds,m1,ea,q⟩:=bnd_some q
 ·exact ⟨ρ,ds,m1,ea,rl,rs,fun H1 ρ1 vs e1 rs1 r1=>⟨ρ1,m1,ds,d,mh',q,rs1,r1,co.ev e1⟩⟩
theorem de_callTy {f:List D→MH→Option (D×MH)}{es:List Expr}{mr:DM (List D)}{x:Str}{p:Pos}{T:String}(hc:CallR X (.type T) (rDs X.K f)) (hg:Gl X x) (hm:X.mg x=none) (hv:bootBuiltins x=some (.type T)) (ha:DA X (a::es) mr)
  (hn:x ≠ "__name__") (hdb:(x==("__debug__":Str))=false) (he:starEach (a::es) X.env=(false,eval a X.env)::starEach es X.env) (hpl:(backTo pos (starEach es X.env)).any (·.1)=false) :
  DE X (.Call (.Name x p) (a::es) [] pos) (mr.bnd fun ds=>DM.lift (f ds)):=fun loc mh=>by
 refine PE_imp (pe_callTy hc hg hm hv (ha loc mh) hn hdb he hpl) ?_;rintro σ H Q ⟨ρ,d,mh',q,rl,rs,co⟩;obtain ⟨ds,m1,ea,q⟩:=bnd_some q
 ·exact ⟨ρ,ds,m1,ea,rl,rs,fun H1 ρ1 vs e1 rs1 r1=>⟨ρ1,m1,ds,d,mh',q,rs1,r1,co.ev e1⟩⟩
end
section
variable {X:Cx}
theorem OpR_imp {f:Value→Value→Sem Value}{r r':R2}(h:OpR X f r) (i:∀ x y H Q,r' x y H Q→r x y H Q):OpR X f r':=fun pins s σ H x y v u Q I rx ry q=>h pins s σ H x y v u Q I rx ry (i x y H Q q)
noncomputable def iop (C:Int→Int→Bool) (g:Int→Int→Int):D→D→MH→Option (D×MH)
 | .int i,.int j,mh=>if C i j=true then some (.int (g i j),mh) else none
 | _,_,_=>none
theorem iop_ok {f:Value→Value→Sem Value}{C:Int→Int→Prop}{Cb:Int→Int→Bool}{g:Int→Int→Int}(h:OpR X f (rI C fun i j=>.int (g i j))) (hC:∀ i j,Cb i j=true→C i j):OpR X f (rD X.K (iop Cb g)):=by
 refine OpR_imp h ?_;rintro x y H Q ⟨ρ,mh,dx,dy,d,mh',q,rs,rx,ry,co⟩;cases rx with
 | int i =>
  cases ry with
  | int j =>
   have q:(if Cb i j=true then some (D.int (g i j),mh) else none)=some (d,mh'):=q;split at q
   ·rename_i hc;cases q;exact ⟨i,j,rfl,rfl,hC i j hc,co H ρ _ Ev.refl rs (.int _)⟩
   ·cases q
  | _=>cases q
 | _=>cases q
theorem iop0_ok {f:Value→Value→Sem Value}{g:Int→Int→Int}(h:OpR X f (rI0 fun i j=>.int (g i j))):OpR X f (rD X.K (iop (fun _ _=>true) g)) :=
 iop_ok (C:=fun _ _=>True) (OpR_imp h fun x y H Q ⟨i,j,e1,e2,_,q⟩=>⟨i,j,e1,e2,q⟩) fun _ _ _=>trivial
noncomputable def icmp (g:Int→Int→Bool):D→D→MH→Option (D×MH)
 | .int i,.int j,mh=>some (.bl (g i j),mh)
 | _,_,_=>none
theorem icmp_ok {f:Value→Value→Sem Value}{g:Int→Int→Bool}(h:OpR X f (rI0 fun i j=>.bl (g i j))):OpR X f (rD X.K (icmp g)):=by
 refine OpR_imp h ?_;rintro x y H Q ⟨ρ,mh,dx,dy,d,mh',q,rs,rx,ry,co⟩;cases rx with
 | int i =>
  cases ry with
  | int j =>
   cases q;exact ⟨i,j,rfl,rfl,co H ρ _ Ev.refl rs (.bl _)⟩
  | _=>cases q
 | _=>cases q
noncomputable def addD:D→D→MH→Option (D×MH)
 | .int i,.int j,mh=>some (.int (i+j),mh)
 | .str i,.str j,mh=>if i.length+j.length≤sizeLine then some (.str (i++j),mh) else none
 | .tup xs,.tup ys,mh=>if xs.length+ys.length≤sizeLine then some (.tup (xs++ys),mh) else none
 | .ref n,.ref m,mh=>match mh[n]?,mh[m]? with
  | some (.lst xs),some (.lst ys)=>if xs.length+ys.length≤sizeLine then some (.ref mh.length,mh++[.lst (xs++ys)]) else none
  | _,_=>none
 | _,_,_=>none
end
noncomputable def mapO {α β:Type}(f:α→Option β):List α→Option (List β)
 | []=>some []
 | x::xs=>match f x with
  | some y=>match mapO f xs with
   | some ys=>some (y::ys)
   | none=>none
  | none=>none
noncomputable def py (mh:MH):Nat→D→Option PyData
 | _,.non=>some .none
 | _,.bl b=>some (.bool b)
 | _,.int i=>some (.int i)
 | _,.str x=>if PyData.strOk x=true then some (.str x) else none
 | 0,.tup _=>none
 | 0,.ref _=>none
 | 0,.rol _=>none
 | 0,.obj ..=>none
 | _+1,.obj ..=>none
 | n+1,.tup ds=>match mapO (py mh n) ds with | some xs=>some (.tuple xs) | none=>none
 | n+1,.rol ds=>match mapO (py mh n) ds with | some xs=>some (.list xs) | none=>none
 | n+1,.ref k=>match mh[k]? with
  | some (.lst o)=>match mapO (py mh n) o with | some xs=>some (.list xs) | none=>none
  | _=>none
section
variable {X:Cx}{pins:List (Addr×Obj)}{σ:St}{H:Hp}{s:Shared}{ρ:List Addr}{mh:MH}
theorem reads_of (I:Inv X pins σ H s) (rs:RS X.K H ρ mh):∀ (n:Nat) (d:D) (v:V) (u:Value) (a:PyData),py mh n d=some a→RD X.K H ρ d v→RelV v u→(∃ as,Reads s.heap u a as)∧a.canLay0=true∧a.depth≤n:=by
 intro n
 induction n with
 | zero =>
  intro d v u a e r rv;cases r with
  | non=>cases e;cases rv;exact ⟨⟨_,.none⟩,rfl,Nat.le_refl _⟩
  | bl b=>cases e;cases rv;exact ⟨⟨_,.bool b⟩,rfl,Nat.le_refl _⟩
  | int i=>cases e;obtain ⟨t,rfl⟩:=rv;exact ⟨⟨_,.int i t⟩,rfl,Nat.le_refl _⟩
  | str x =>
   have e:(if PyData.strOk x=true then some (PyData.str x) else none)=some a:=e;split at e
   ·cases e;obtain ⟨t,rfl⟩:=rv;exact ⟨⟨_,.str x t⟩,by assumption,Nat.le_refl _⟩
   ·cases e
  | tup s r=>cases e
  | ref h=>cases e
  | rol s r=>cases e
  | obj n s l r=>cases e
 | succ n ih =>
  have all:∀ (ds:List D) (vs:List V) (us:List Value) (as:List PyData),mapO (py mh n) ds=some as→RDs X.K H ρ ds vs→Vals vs us→(∃ bs,ReadsAll s.heap us as bs)∧PyData.canLayAll0 as=true∧PyData.depthAll as≤n:=by
   intro ds
   induction ds with
   | nil=>intro vs us as e r rv;cases e;cases r;cases rv;exact ⟨⟨_,.nil⟩,rfl,Nat.zero_le _⟩
   | cons d ds ihd =>
    intro vs us as e r rv;cases r with
    | cons r1 r2 =>
     cases rv with
     | cons v1 v2 =>
      simp only [mapO] at e;split at e
      ·rename_i y ey;split at e
       ·rename_i ys eys;cases e;obtain ⟨⟨a1,h1⟩,h2,h3⟩:=ih _ _ _ _ ey r1 v1;obtain ⟨⟨b1,g1⟩,g2,g3⟩:=ihd _ _ _ eys r2 v2;refine ⟨⟨_,.cons h1 g1⟩,?_,?_⟩
        ·simp only [PyData.canLayAll0,h2,g2,Bool.and_self]
        ·simp only [PyData.depthAll];omega
       ·cases e
      ·cases e
  intro d v u a e r rv;cases r with
  | non=>cases e;cases rv;exact ⟨⟨_,.none⟩,rfl,Nat.zero_le _⟩
  | bl b=>cases e;cases rv;exact ⟨⟨_,.bool b⟩,rfl,Nat.zero_le _⟩
  | int i=>cases e;obtain ⟨t,rfl⟩:=rv;exact ⟨⟨_,.int i t⟩,rfl,Nat.zero_le _⟩
  | str x =>
   have e:(if PyData.strOk x=true then some (PyData.str x) else none)=some a:=e;split at e
   ·cases e;obtain ⟨t,rfl⟩:=rv;exact ⟨⟨_,.str x t⟩,by assumption,Nat.zero_le _⟩
   ·cases e
  | @tup ds a' xs sq r =>
   cases rv;have e:(match mapO (py mh n) ds with | some xs=>some (PyData.tuple xs) | none=>none)=some a:=e;split at e
   ·rename_i ys ey;cases e;obtain ⟨its,rv,⟨o,h1,h2,n',h3⟩,_⟩:=I.tuple sq;obtain ⟨⟨bs,g1⟩,g2,g3⟩:=all ds xs its ys ey r rv;refine ⟨⟨_,.tuple h1 h2 h3 (by simpa using g1)⟩,by simpa [PyData.canLay0] using g2,?_⟩;simp only [PyData.depth];omega
   ·cases e
  | obj n s l r=>cases e
  | @rol ds a' xs sq r =>
   cases rv;have e:(match mapO (py mh n) ds with | some xs=>some (PyData.list xs) | none=>none)=some a:=e;split at e
   ·rename_i ys ey;cases e;obtain ⟨its,rv,⟨ob,n',h1,h2,h2',h3⟩,_⟩:=I.list sq.sq;obtain ⟨⟨bs,g1⟩,g2,g3⟩:=all _ xs its ys ey r rv;refine ⟨⟨_,.list h1 h2 h3 (by simpa using g1)⟩,by simpa [PyData.canLay0] using g2,?_⟩;simp only [PyData.depth];omega
   ·cases e
  | @ref k a' h =>
   cases rv;have e:(match mh[k]? with | some (.lst o)=>(match mapO (py mh n) o with | some xs=>some (PyData.list xs) | none=>none) | _=>none)=some a:=e;split at e
   ·rename_i o eo;split at e
    ·rename_i ys ey;cases e;obtain ⟨a2,ha,ro⟩:=rs.at eo;rw [h] at ha;cases ha;obtain ⟨xs,sq,r⟩:=ro.read;obtain ⟨its,rv,⟨ob,n',h1,h2,h2',h3⟩,_⟩:=I.list sq;obtain ⟨⟨bs,g1⟩,g2,g3⟩:=all _ xs its ys ey r rv;refine ⟨⟨_,.list h1 h2 h3 (by simpa using g1)⟩,by simpa [PyData.canLay0] using g2,?_⟩;simp only [PyData.depth];omega
    ·cases e
   ·cases e
noncomputable def eqB (mh:MH) (x y:D):Option Bool:=match py mh 60 x,py mh 60 y with
 | some a,some b=>some (PyData.eqv a b)
 | _,_=>none
noncomputable def eqD (x y:D) (mh:MH):Option (D×MH):=match eqB mh x y with | some k=>some (.bl k,mh) | none=>none
noncomputable def neD (x y:D) (mh:MH):Option (D×MH):=match eqB mh x y with | some k=>some (.bl (!k),mh) | none=>none
theorem room60 {A:Around}{a b:PyData}(hu:A.units+64 < cLine) (h:a.depth≤60):A.units+min a.depth b.depth < cLine:=by omega
theorem eqB_some {x y:D}{k:Bool}(h:eqB mh x y=some k):∃ a b,py mh 60 x=some a∧py mh 60 y=some b∧k=PyData.eqv a b:=by
 unfold eqB at h;split at h
 ·rename_i a b ea eb;cases h;exact ⟨a,b,ea,eb,rfl⟩
 ·cases h
theorem op_eqD (hu:X.A.units+64 < cLine):OpR X (compareOp .Eq) (rD X.K eqD):=by
 rintro pins s σ H x y v u Q I rx ry ⟨ρ,mh,dx,dy,d,mh',q,rs,r1,r2,co⟩;unfold eqD at q;split at q
 ·rename_i k ek;cases q;obtain ⟨a,b,ea,eb,rfl⟩:=eqB_some ek;obtain ⟨⟨as,h1⟩,h2,h3⟩:=reads_of I rs 60 dx x v a ea r1 rx;obtain ⟨⟨bs,g1⟩,g2,g3⟩:=reads_of I rs 60 dy y u b eb r2 ry;exact SeqAt.compareEq_reads h1 g1 h2 g2 (room60 hu h3) ⟨.bl _,H,I,rfl,co H ρ _ Ev.refl rs (.bl _)⟩
 ·cases q
theorem op_neD (hu:X.A.units+64 < cLine):OpR X (compareOp .NotEq) (rD X.K neD):=by
 rintro pins s σ H x y v u Q I rx ry ⟨ρ,mh,dx,dy,d,mh',q,rs,r1,r2,co⟩;unfold neD at q;split at q
 ·rename_i k ek;cases q;obtain ⟨a,b,ea,eb,rfl⟩:=eqB_some ek;obtain ⟨⟨as,h1⟩,h2,h3⟩:=reads_of I rs 60 dx x v a ea r1 rx;obtain ⟨⟨bs,g1⟩,g2,g3⟩:=reads_of I rs 60 dy y u b eb r2 ry;exact SeqAt.compareNe_reads h1 g1 h2 g2 (room60 hu h3) ⟨.bl _,H,I,rfl,co H ρ _ Ev.refl rs (.bl _)⟩
 ·cases q
noncomputable def inB (mh:MH) (x c:D):Option Bool:=match py mh 60 x,py mh 60 c with
 | some a,some (.list xs)=>some (xs.any fun y=>PyData.eqv y a)
 | some a,some (.tuple xs)=>some (xs.any fun y=>PyData.eqv y a)
 | _,_=>none
noncomputable def inD0 (neg:Bool) (x c:D) (mh:MH):Option (D×MH):=match inB mh x c with | some k=>some (.bl (if neg then !k else k),mh) | none=>none
theorem op_inD0 (hu:X.A.units+64 < cLine):OpR X (compareOp .In) (rD X.K (inD0 false)):=by
 rintro pins s σ H x y v u Q I rx ry ⟨ρ,mh,dx,dy,d,mh',q,rs,r1,r2,co⟩;unfold inD0 at q;split at q
 ·rename_i k ek;cases q;unfold inB at ek;split at ek
  ·rename_i a xs ea eb;cases ek;obtain ⟨⟨as,h1⟩,h2,h3⟩:=reads_of I rs 60 dx x v a ea r1 rx;obtain ⟨⟨bs,g1⟩,g2,g3⟩:=reads_of I rs 60 dy y u _ eb r2 ry;exact SeqAt.in_list_reads g1 h1 (by simpa [PyData.canLay0] using g2) h2 (by simp only [PyData.depth] at g3;omega) ⟨.bl _,H,I,rfl,co H ρ _ Ev.refl rs (.bl _)⟩
  ·rename_i a xs ea eb;cases ek;obtain ⟨⟨as,h1⟩,h2,h3⟩:=reads_of I rs 60 dx x v a ea r1 rx;obtain ⟨⟨bs,g1⟩,g2,g3⟩:=reads_of I rs 60 dy y u _ eb r2 ry;exact SeqAt.in_tuple_reads g1 h1 (by simpa [PyData.canLay0] using g2) h2 (by simp only [PyData.depth] at g3;omega) ⟨.bl _,H,I,rfl,co H ρ _ Ev.refl rs (.bl _)⟩
  ·cases ek
 ·cases q
theorem op_notInD0 (hu:X.A.units+64 < cLine):OpR X (compareOp .NotIn) (rD X.K (inD0 true)):=by
 rintro pins s σ H x y v u Q I rx ry ⟨ρ,mh,dx,dy,d,mh',q,rs,r1,r2,co⟩;unfold inD0 at q;split at q
 ·rename_i k ek;cases q;unfold inB at ek;split at ek
  ·rename_i a xs ea eb;cases ek;obtain ⟨⟨as,h1⟩,h2,h3⟩:=reads_of I rs 60 dx x v a ea r1 rx;obtain ⟨⟨bs,g1⟩,g2,g3⟩:=reads_of I rs 60 dy y u _ eb r2 ry;exact SeqAt.notIn_list_reads g1 h1 (by simpa [PyData.canLay0] using g2) h2 (by simp only [PyData.depth] at g3;omega) ⟨.bl _,H,I,rfl,co H ρ _ Ev.refl rs (.bl _)⟩
  ·rename_i a xs ea eb;cases ek;obtain ⟨⟨as,h1⟩,h2,h3⟩:=reads_of I rs 60 dx x v a ea r1 rx;obtain ⟨⟨bs,g1⟩,g2,g3⟩:=reads_of I rs 60 dy y u _ eb r2 ry;exact SeqAt.notIn_tuple_reads g1 h1 (by simpa [PyData.canLay0] using g2) h2 (by simp only [PyData.depth] at g3;omega) ⟨.bl _,H,I,rfl,co H ρ _ Ev.refl rs (.bl _)⟩
  ·cases ek
 ·cases q
end
section
variable {X:Cx}
noncomputable def isD (neg:Bool):D→D→MH→Option (D×MH)
 | x,.non,mh=>some (.bl (if neg then !(match x with | .non=>true | _=>false) else match x with | .non=>true | _=>false),mh)
 | .bl a,.bl b,mh=>some (.bl (if neg then a != b else a==b),mh)
 | _,_,_=>none
theorem op_isD:OpR X (compareOp .Is) (rD X.K (isD false)):=by
 rintro pins s σ H x y v u Q I rx ry ⟨ρ,mh,dx,dy,d,mh',q,rs,r1,r2,co⟩;cases r2 with
 | non =>
  cases q;cases ry;refine is_none_gen ⟨.bl _,H,I,?_,co H ρ _ Ev.refl rs (.bl _)⟩;rw [rx.none_iff];cases r1 <;> rfl
 | bl b =>
  cases r1 with
  | bl a=>cases q;cases rx;cases ry;exact is_bool ⟨.bl _,H,I,rfl,co H ρ _ Ev.refl rs (.bl _)⟩
  | _=>cases q
 | _=>cases r1 <;> cases q
theorem op_isNotD:OpR X (compareOp .IsNot) (rD X.K (isD true)):=by
 rintro pins s σ H x y v u Q I rx ry ⟨ρ,mh,dx,dy,d,mh',q,rs,r1,r2,co⟩;cases r2 with
 | non =>
  cases q;cases ry;refine isnot_none_gen ⟨.bl _,H,I,?_,co H ρ _ Ev.refl rs (.bl _)⟩;rw [rx.none_iff];cases r1 <;> rfl
 | bl b =>
  cases r1 with
  | bl a=>cases q;cases rx;cases ry;exact isnot_bool ⟨.bl _,H,I,rfl,co H ρ _ Ev.refl rs (.bl _)⟩
  | _=>cases q
 | _=>cases r1 <;> cases q
theorem op_catT0:OpR X (binaryOp .Add) (fun x y H Q=>∃ a b ys,x=.ref a∧y=.ref b∧SqT X.K H a []∧SqT X.K H b ys∧Q (.ref b) H):=by
 rintro pins s σ H x y v u Q I rx ry ⟨a,b,ys,e1,e2,ha,hb,q⟩;subst e1;subst e2;cases rx;cases ry;obtain ⟨its,r1,p1,_⟩:=I.tuple ha;obtain ⟨its2,r2,p2,_⟩:=I.tuple hb;cases r1;obtain ⟨⟨cls,dd,data,sl⟩,ho,hc,n,hd⟩:=id p1;obtain ⟨⟨cls2,dd2,data2,sl2⟩,ho2,hc2,n2,hd2⟩:=id p2;simp only at hc hd hc2 hd2;subst hc hd hc2 hd2;exact concat_meets ⟨_,ho,rfl⟩ ⟨_,ho2,rfl⟩ noFill_tuple_add seq_tuple_add PySem.F.slot_tuple_add PySem.F.entry_tuple_add (PySem.F.args_tuple_add_2 _ _) (tuple_addW0 a b _ _ n n2 dd dd2 sl sl2 (by simp)) ⟨ho,ho2,⟨.ref b,H,I,rfl,q⟩⟩
theorem op_addD:OpR X (binaryOp .Add) (rD X.K addD):=by
 refine OpR_imp (op_add.or (op_add_str.or (op_catT.or (op_cat.or op_catT0)))) ?_;rintro x y H Q ⟨ρ,mh,dx,dy,d,mh',q,rs,rx,ry,co⟩;cases rx with
 | int i =>
  cases ry with
  | int j=>cases q;exact .inl ⟨i,j,rfl,rfl,co H ρ _ Ev.refl rs (.int _)⟩
  | _=>cases q
 | str i =>
  cases ry with
  | str j =>
   have q:(if i.length+j.length≤sizeLine then some (D.str (i++j),mh) else none)=some (d,mh'):=q;split at q
   ·rename_i hz;cases q;exact .inr (.inl ⟨i,j,rfl,rfl,hz,co H ρ _ Ev.refl rs (.str _)⟩)
   ·cases q
  | _=>cases q
 | @tup xs a us s1 r1 =>
  cases ry with
  | @tup ys b ws s2 r2 =>
   have q:(if xs.length+ys.length≤sizeLine then some (D.tup (xs++ys),mh) else none)=some (d,mh'):=q;split at q
   ·rename_i hz;cases q
    by_cases hne:xs=[]
    ·subst hne;cases r1;exact .inr (.inr (.inr (.inr ⟨a,b,ws,rfl,rfl,s1,s2,co H ρ _ Ev.refl rs (.tup s2 r2)⟩)))
    ·refine .inr (.inr (.inl ⟨a,b,us,ws,rfl,rfl,s1,s2,fun z=>hne ?_,by rw [← r1.length,← r2.length];exact hz,?_⟩))
     ·rw [z] at r1;cases r1;rfl
     ·refine ⟨fun z=>?_,fun z=>Co.newT rs (r1.append r2) co⟩;subst z;cases r2;exact co H ρ _ Ev.refl rs (.tup s1 (by rw [List.append_nil];exact r1))
   ·cases q
  | _=>cases q
 | @ref n a ha =>
  cases ry with
  | @ref m b hb =>
   have q:(match mh[n]?,mh[m]? with
    | some (.lst xs),some (.lst ys)=>if xs.length+ys.length≤sizeLine then some (D.ref mh.length,mh++[.lst (xs++ys)]) else none
    | _,_=>none)=some (d,mh'):=q
   split at q
   ·rename_i xs ys e1 e2;split at q
    ·rename_i hz;cases q;obtain ⟨a2,h1,us,g1,r1⟩:=rs.at e1;obtain ⟨b2,h2,ws,g2,r2⟩:=rs.at e2;rw [ha] at h1;rw [hb] at h2;cases h1;cases h2;exact .inr (.inr (.inr (.inl ⟨a,b,us,ws,rfl,rfl,g1,g2,by rw [← r1.length,← r2.length];exact hz,Co.newL rs (r1.append r2) co⟩)))
    ·cases q
   ·cases q
  | _=>cases q
 | _=>cases q
end
section
variable {X:Cx}
theorem CallR_imp {f:Value}{r r':List V→Hp→VK→Prop}(h:CallR X f r) (i:∀ xs H Q,r' xs H Q→r xs H Q):CallR X f r':=fun pins s σ H xs us Q I rx q=>h pins s σ H xs us Q I rx (i xs H Q q)
theorem IxR_imp {r r':R2}(h:IxR X r) (i:∀ x y H Q,r' x y H Q→r x y H Q):IxR X r':=fun a b pins s σ H x y v u Q I rx ry q hs=>h a b pins s σ H x y v u Q I rx ry (i x y H Q q) hs
theorem SlR_imp {r r':V→Option Int→Option Int→Hp→VK→Prop}(h:SlR X r) (i:∀ x lo hi H Q,r' x lo hi H Q→r x lo hi H Q):SlR X r':=fun pins s σ H x v vl vu lo hi sl Q I rx hs pl pu q=>h pins s σ H x v vl vu lo hi sl Q I rx hs pl pu (i x lo hi H Q q)
noncomputable def seqD:D→MH→Option (List D)
 | .tup ds,_=>some ds
 | .ref n,mh=>match mh[n]? with | some (.lst o)=>some o | _=>none
 | .rol ds,_=>some ds
 | _,_=>none
theorem seqD_ok {K:PySem.W.Frag}{H:Hp}{ρ:List Addr}{mh:MH}{d:D}{v:V}{ds:List D}(rs:RS K H ρ mh) (r:RD K H ρ d v) (e:seqD d mh=some ds):∃ p xs,v=.ref p∧(SqL K H p xs∨SqT K H p xs)∧RDs K H ρ ds xs:=by
 cases r with
 | tup s r=>cases e;exact ⟨_,_,rfl,.inr s,r⟩
 | rol s r=>cases e;exact ⟨_,_,rfl,.inl s.sq,r⟩
 | @ref n a h =>
  have e:(match mh[n]? with | some (.lst o)=>some o | _=>none)=some ds:=e;split at e
  ·rename_i o eo;cases e;obtain ⟨a',ha,ro⟩:=rs.at eo;rw [h] at ha;cases ha;obtain ⟨xs,q,r⟩:=ro.read;exact ⟨_,xs,rfl,.inl q,r⟩
  ·cases e
 | _=>cases e
theorem atI_rds {K:PySem.W.Frag}{H:Hp}{ρ:List Addr}{ds:List D}{xs:List V}{i:Int}{d:D}(r:RDs K H ρ ds xs) (e:atI ds i=some d):∃ v,atI xs i=some v∧RD K H ρ d v:=by
 unfold atI at e ⊢;rw [← r.length];cases q:ixN ds.length i with
 | none=>rw [q] at e;cases e
 | some j =>
  rw [q] at e;exact r.get e
noncomputable def ixD0:D→D→MH→Option (D×MH)
 | .str z,.int i,mh=>if z.length≤sizeLine then (match atI z.cps.toList i with | some c=>some (.str ⟨#[c]⟩,mh) | none=>none) else none
 | x,.int i,mh=>match seqD x mh with
  | some ds=>(match atI ds i with | some d=>some (d,mh) | none=>none)
  | none=>none
 | _,_,_=>none
theorem ix_D0:IxR X (rD X.K ixD0):=by
 refine IxR_imp (ix_seq (X:=X)) ?_;rintro x y H Q ⟨ρ,mh,dx,dy,d,mh',q,rs,rx,ry,co⟩;have seq:∀ i:Int,y=.int i→(match seqD dx mh with | some ds=>(match atI ds i with | some d=>some (d,mh) | none=>none) | none=>none)=some (d,mh')→rIx X.K x y H Q:=fun i ey q=>by
  split at q
  ·rename_i ds e1;split at q
   ·rename_i d' e2;cases q;obtain ⟨p,xs,rfl,hq,r⟩:=seqD_ok rs rx e1;obtain ⟨v,e3,r3⟩:=atI_rds r e2;rcases hq with hq | hq
    ·exact .inl ⟨p,xs,i,v,rfl,ey,hq,e3,co H ρ v Ev.refl rs r3⟩
    ·exact .inr (.inl ⟨p,xs,i,v,rfl,ey,hq,e3,co H ρ v Ev.refl rs r3⟩)
   ·cases q
  ·cases q
 cases ry with
 | int i =>
  cases rx with
  | str z =>
   have q:(if z.length≤sizeLine then (match atI z.cps.toList i with | some c=>some (D.str ⟨#[c]⟩,mh) | none=>none) else none)=some (d,mh'):=q;split at q
   ·rename_i hz;split at q
    ·rename_i c ec;cases q;exact .inr (.inr ⟨z,i,c,rfl,rfl,hz,ec,co H ρ _ Ev.refl rs (.str _)⟩)
    ·cases q
   ·cases q
  | non=>exact seq i rfl q
  | bl b=>exact seq i rfl q
  | int j=>exact seq i rfl q
  | tup s r=>exact seq i rfl q
  | ref h=>exact seq i rfl q
  | rol s r=>exact seq i rfl q
  | obj n s l r=>exact seq i rfl q
 | non=>cases rx <;> cases q
 | bl b=>cases rx <;> cases q
 | str s=>cases rx <;> cases q
 | tup s r=>cases rx <;> cases q
 | ref h=>cases rx <;> cases q
 | rol s r=>cases rx <;> cases q
 | obj n s l r=>cases rx <;> cases q
noncomputable def cutD {α:Type}(xs:List α) (lo hi:Option Int):List α:=(xs.drop (HT.sIx xs.length 0 lo)).take (HT.sIx xs.length xs.length hi - HT.sIx xs.length 0 lo)
theorem cut_rds {K:PySem.W.Frag}{H:Hp}{ρ:List Addr}{ds:List D}{xs:List V}{lo hi:Option Int}(r:RDs K H ρ ds xs):RDs K H ρ (cutD ds lo hi) (cutV xs lo hi):=by
 unfold cutD cutV;rw [r.length];exact (r.drop _).take _
theorem getItem_tuple_whole {prog:Program}{w:World}{A:Around}{E:Value→Shared→Prop}{s:Shared}{t sl:Addr}{items:Array Value}{vl vu:Value}{lo hi:Option Int}{Q:Value→Shared→Prop}(ht:IsTup s.heap t items) (hs:s.heap.IsSliceOf sl vl vu .none) (pl:IsPart vl lo) (pu:IsPart vu hi)
  (h0:HT.sIx items.size 0 lo=0) (h1:HT.sIx items.size items.size hi=items.size) (h:Q (.ref t) s):wpAny (model prog w) A (getItem (.ref t) (.ref sl)) Q E s:=by
 obtain ⟨os,hos,hcs,hds⟩:=id hs
 have hTs:s.TypeIs (.ref sl) "slice":=⟨os,hos,hcs⟩
 unfold getItem
 try with_reducible refine wpAny_holding ?_
 first | refine wpAny_bind (wpAny_pure ?_) | skip
 refine wpAny_bind (wpAny_sequenceKey ht.typeIs (by decide) ?_)
 refine wpAny_bind (wpAny_callSpecial?_slot (name:=Str.ofString "__getitem__") ht.typeIs PyProof.Rows.slot_tuple_getitem
  (wpAny_call_entry PyProof.Rows.slot_tuple_getitem ht.typeIs entry_tuple_getitem ?_ (args_tuple_getitem _ _)))
 show wpAny _ _ (Builtin.Tuple.tupleItemsOf (.ref t) >>= _) _ _ s;refine wpAny_bind (tupleItemsOf_ ht ?_);refine wpAny_bind (wpAny_typeOf hTs ?_);rw [if_pos (by decide)];refine wpAny_bind (HT.sliceApplied_gen hs pl pu ?_);rw [h0,h1];have hyes:((((0:Nat):Int)==0&&(1:Int)==1&&(items.size - 0)==items.size)=true):=by simp
 show wpAny _ _ (if (((0:Nat):Int)==0&&(1:Int)==1&&(items.size - 0)==items.size)=true then _ else _) _ _ s;rw [if_pos hyes];unfold Builtin.Tuple.tupleIsExact;refine wpAny_bind (wpAny_bind (wpAny_typeOf ht.typeIs (wpAny_pure ?_)));rw [if_pos (by decide)];exact wpAny_bind (wpAny_rule (wpAny_pure ⟨_,rfl,wpAny_pure h⟩))
theorem sl_tupAll:SlR X (fun x lo hi H Q=>∃ a xs,x=.ref a∧SqT X.K H a xs∧HT.sIx xs.length 0 lo=0∧HT.sIx xs.length xs.length hi=xs.length∧Q (.ref a) H):=by
 intro pins s σ H x v vl vu lo hi sl Q I rx hs pl pu h;obtain ⟨a,xs,rfl,hx,h0,h1,q⟩:=h;cases rx;obtain ⟨its,r,ht,hz⟩:=I.tuple hx;have hlen:its.toArray.size=xs.length:=by rw [List.size_toArray];exact r.length.symm
 refine ⟨"tuple",_,PyProof.Rows.slot_tuple_getitem.lookup,ht.typeIs,?_⟩;exact getItem_tuple_whole ht hs pl pu (by rw [hlen];exact h0) (by rw [hlen];exact h1) ⟨.ref a,H,I,rfl,q⟩
noncomputable def slD (x:D) (lo hi:Option Int) (mh:MH):Option (D×MH):=match x with
 | .tup ds=>if HT.sIx ds.length 0 lo=0∧HT.sIx ds.length ds.length hi=ds.length then some (.tup ds,mh) else some (.tup (cutD ds lo hi),mh)
 | .ref n=>match mh[n]? with
  | some (.lst o)=>some (.ref mh.length,mh++[.lst (cutD o lo hi)])
  | _=>none
 | .rol ds=>some (.ref mh.length,mh++[.lst (cutD ds lo hi)])
 | _=>none
noncomputable def rDSl (K:PySem.W.Frag):V→Option Int→Option Int→Hp→VK→Prop:=fun x lo hi H Q=>∃ ρ mh dx d mh',slD dx lo hi mh=some (d,mh')∧RS K H ρ mh∧RD K H ρ dx x∧Co K H ρ mh' d Q
theorem sl_D:SlR X (rDSl X.K):=by
 refine SlR_imp (sl_tupAll.or (sl_tup.or sl_list)) ?_;rintro x lo hi H Q ⟨ρ,mh,dx,d,mh',q,rs,rx,co⟩;cases rx with
 | @tup ds a xs s r =>
  have q:(if HT.sIx ds.length 0 lo=0∧HT.sIx ds.length ds.length hi=ds.length then some (D.tup ds,mh) else some (D.tup (cutD ds lo hi),mh))=some (d,mh'):=q;have hl:=r.length;split at q
  ·rename_i hw;cases q;exact .inl ⟨a,xs,rfl,s,by rw [← hl];exact hw.1,by rw [← hl];exact hw.2,co H ρ _ Ev.refl rs (.tup s r)⟩
  ·rename_i hw;cases q;exact .inr (.inl ⟨a,xs,rfl,s,by rw [← hl];exact hw,Co.newT rs (cut_rds r) co⟩)
 | @ref n a h =>
  have q:(match mh[n]? with | some (.lst o)=>some (D.ref mh.length,mh++[.lst (cutD o lo hi)]) | _=>none)=some (d,mh'):=q;split at q
  ·rename_i o eo;cases q;obtain ⟨a',ha,ro⟩:=rs.at eo;rw [h] at ha;cases ha;obtain ⟨xs,sq,r⟩:=ro.read;exact .inr (.inr ⟨a,xs,rfl,sq,Co.newL rs (cut_rds r) co⟩)
  ·cases q
 | @rol ds a xs s r =>
  cases q;exact .inr (.inr ⟨a,xs,rfl,s.sq,Co.newL rs (cut_rds r) co⟩)
 | _=>cases q
noncomputable def partD (m:Option (DM D)):DM (Option Int):=match m with
 | none=>DM.ret none
 | some m=>m.bnd fun x=>match x with | .int i=>DM.ret (some i) | _=>DM.bad
noncomputable def DPart (X:Cx) (e:Option Expr) (m:Option (DM D)):Prop:=match e,m with
 | none,none=>True
 | some e,some m=>DE X e m
 | _,_=>False
noncomputable def tDO (K:PySem.W.Frag) (loc:Loc) (mh:MH) (r:Option (Option Int×MH)):TO:=fun σ H Q=>∃ ρ o mh',r=some (o,mh')∧RL K H ρ loc σ∧RS K H ρ mh∧∀ H' ρ',Ev K H ρ H' ρ'→RS K H' ρ' mh'→Q o H'
theorem po_D {e:Option Expr}{m:Option (DM D)}(h:DPart X e m) (loc:Loc) (mh:MH):PO X e (tDO X.K loc mh (partD m loc mh)):=by
 rintro pins s σ H Q I ⟨ρ,o,mh',q,rl,rs,co⟩;cases e with
 | none =>
  cases m with
  | none =>
   cases q;exact po_none pins s σ H Q I (co H ρ Ev.refl rs)
  | some m=>exact h.elim
 | some e =>
  cases m with
  | none=>exact h.elim
  | some m =>
   obtain ⟨x,m1,ea,q⟩:=bnd_some q;cases x with
   | int i =>
    cases q;refine po_some (h loc mh) pins s σ H Q I ⟨ρ,.int i,mh',ea,rl,rs,fun H' ρ' v e' rs' r'=>?_⟩;cases r';exact ⟨i,rfl,co H' ρ' e' rs'⟩
   | non=>cases q
   | bl b=>cases q
   | str z=>cases q
   | tup ds=>cases q
   | ref n=>cases q
   | rol ds=>cases q
   | obj c ks ds=>cases q
noncomputable def dSl (ma:DM D) (ml mu:Option (DM D)):DM D:=ma.bnd fun x=>(partD ml).bnd fun l=>(partD mu).bnd fun u=>DM.lift (slD x l u)
theorem de_slice {a:Expr}{ma:DM D}{lo hi:Option Expr}{ml mu:Option (DM D)}{p2 pos:Pos}(ha:DE X a ma) (hl:DPart X lo ml) (hu:DPart X hi mu):DE X (.Subscript a (.Slice lo hi none p2) pos) (dSl ma ml mu):=fun loc mh=>by
 cases ea:ma loc mh with
 | none =>
  have:dSl ma ml mu loc mh=none:=by unfold dSl DM.bnd;rw [ea]
  rw [this];exact PE_none
 | some p =>
  obtain ⟨x,m1⟩:=p;cases el:partD ml loc m1 with
  | none =>
   have:dSl ma ml mu loc mh=none:=by unfold dSl;unfold DM.bnd;rw [ea];dsimp only;rw [el]
   rw [this];exact PE_none
  | some p2 =>
   obtain ⟨l,m2⟩:=p2;refine PE_imp (pe_slice sl_D (ha loc mh) (po_D hl loc m1) (po_D hu loc m2)) ?_;rintro σ H Q ⟨ρ,d,mh',q,rl,rs,co⟩;obtain ⟨x',m1',ea',q⟩:=bnd_some q;rw [ea] at ea';cases ea';obtain ⟨l',m2',el',q⟩:=bnd_some q;rw [el] at el';cases el';obtain ⟨u,m3,eu,q⟩:=bnd_some q
   exact ⟨ρ,x,m1,ea,rl,rs,fun H1 ρ1 v e1 rs1 r1=>⟨ρ1,l,m2,el,rl.mono e1,rs1,fun H2 ρ2 e2 rs2=>⟨ρ2,u,m3,eu,(rl.mono e1).mono e2,rs2,fun H3 ρ3 e3 rs3 =>
    ⟨ρ3,m3,x,d,mh',q,rs3,(r1.mono e2).mono e3,co.ev (e1.trans (e2.trans e3))⟩⟩⟩⟩
theorem pick_rev (its:List Value):slicePick its.toArray none none (some (-1))=its.reverse.toArray:=by
 unfold slicePick sliceBounds sliceRange;simp only [Option.getD_some];have h1:¬ ((-1:Int) > 0):=by decide
 simp only [h1,if_false,List.size_toArray];congr 1;have hc:(if ((its.length:Int) - 1 > -1) then ((its.length:Int) - 1 - -1 - -1 - 1) / (- -1) else 0).toNat=its.length:=by
  split
  ·have:((its.length:Int) - 1 - -1 - -1 - 1) / (- -1)=its.length:=by
    have e:(- -1:Int)=1:=by decide
    rw [e,Int.ediv_one];omega
   rw [this];omega
  ·omega
 rw [hc];have e:∀ k,k≤its.length→(List.map (fun (k:Nat)=>((its.length:Int) - 1+-1 * (k:Int)).toNat) (List.range k)).filterMap (fun x=>its.toArray[x]?)=its.reverse.take k:=by
  intro k
  induction k with
  | zero=>intro _;simp
  | succ k ih =>
   intro hk;rw [List.range_succ,List.map_append,List.filterMap_append,ih (by omega),List.take_add_one];congr 1;have e1:((its.length:Int) - 1+-1 * (k:Int)).toNat=its.length - 1 - k:=by omega
   have hlt:k < its.length:=by omega
   have hlt2:its.length - 1 - k < its.length:=by omega
   simp only [List.map_cons,List.map_nil,List.filterMap_cons,List.filterMap_nil,e1,List.getElem?_toArray,List.getElem?_reverse hlt,List.getElem?_eq_getElem hlt2,Option.toList_some]
 rw [e its.length (Nat.le_refl _),List.take_of_length_le (by simp)]
noncomputable def revD:D→MH→Option (D×MH)
 | .ref n,mh=>match mh[n]? with | some (.lst o)=>some (.ref mh.length,mh++[.lst o.reverse]) | _=>none
 | _,_=>none
end
section
variable {X:Cx}
theorem de_rev {a:Expr}{ma:DM D}{k:Nat}{p1 p2 p3 pos:Pos}(ha:DE X a ma):DE X (.Subscript a (.Slice none none (some (.UnaryOp .USub (.Constant (.int 1) k p1) p2)) p3) pos) (ma.bnd fun x=>DM.lift (revD x)):=fun loc mh=>by
 rintro pins s σ H Q I ⟨ρ,d,mh',q,rl,rs,co⟩;obtain ⟨x,m1,ea,q⟩:=bnd_some q;refine Subscript_ (thn (ha loc mh pins s σ H (fun v H1=>∃ ρ1,Ev X.K H ρ H1 ρ1∧RS X.K H1 ρ1 m1∧RD X.K H1 ρ1 x v) I ⟨ρ,x,m1,ea,rl,rs,fun H1 ρ1 v e1 rs1 r1=>⟨ρ1,e1,rs1,r1⟩⟩) ?_);rintro v s1 ⟨xv,H1,I1,r1,ρ1,e1,rs1,rd⟩;refine wpAny_Slice ?_;rw [evalPart_none,evalPart_some];refine wpAny_pure (wpAny_pure ?_);refine UnaryOp_ (wpAny_Constant_int (neg_int ?_));cases rd with
 | @ref n b hb =>
  have q:(match m1[n]? with | some (.lst o)=>some (D.ref m1.length,m1++[.lst o.reverse]) | _=>none)=some (d,mh'):=q;split at q
  ·rename_i o eo;cases q;obtain ⟨a',ha',ro⟩:=rs1.at eo;rw [hb] at ha';cases ha';obtain ⟨xs,sq,r⟩:=ro.read;cases r1;have I2:=(I1.tok (s1.toks+1)).tok (s1.toks+1+1)
   have I3:Inv X pins σ H1 { s1 with heap:=s1.heap.push { cls:=.type "slice",data:=.fields #[.none,.none,.int (-1) (s1.toks+1)] },toks:=s1.toks+1+1 }:=I2.kept (t':=s1.toks+1+1) fun b ob q=>Heap.get?_push_of_some _ q
   obtain ⟨its,rv,ht,hz⟩:=I3.list sq;have hlen:=rv.length;refine tail_any (ops:=[.ref b,.ref s1.heap.objs.size]) ht.isList.typeIs slot_list_getitem.lookup (wpAny_getItem_list_slice ht.isList (Heap.IsSliceOf.new ..) .none .none (.int (-1) _) (by decide) ?_ (by rw [List.size_toArray];omega)) (by with_unfolding_all rfl);rw [pick_rev];refine ⟨.ref _,_,I3.laid (t':=s1.toks+1+1) (o:=.lst xs.reverse) (fun b ob q=>Heap.get?_push_of_some _ q) (Nat.le_refl _) ⟨?_,_,0,rv.reverse,Heap.get?_push_size _ rfl⟩,rfl,Co.newL rs1 r.reverse (co.ev e1) _ (I3.hok.fresh (Nat.le_refl _))⟩;rw [List.length_reverse];exact hz
  ·cases q
 | _=>cases q
noncomputable def lenD:List D→MH→Option (D×MH)
 | [.str z],mh=>if z.length≤sizeLine then some (.int z.length,mh) else none
 | [x],mh=>match seqD x mh with | some ds=>some (.int ds.length,mh) | none=>none
 | _,_=>none
theorem rds1 {K:PySem.W.Frag}{H:Hp}{ρ:List Addr}{d:D}{xs:List V}(h:RDs K H ρ [d] xs):∃ v,xs=[v]∧RD K H ρ d v:=by
 cases h with
 | cons r t=>cases t;exact ⟨_,rfl,r⟩
theorem call_lenD:CallR X (.builtin "len") (rDs X.K lenD):=by
 refine CallR_imp (call_len_seq.or call_len_str) ?_;rintro xs H Q ⟨ρ,mh,ds,d,mh',q,rs,r,co⟩
 match ds,q with
 | [x],q =>
  obtain ⟨v,rfl,rx⟩:=rds1 r;have seq:(match seqD x mh with | some ds=>some (D.int ds.length,mh) | none=>none)=some (d,mh')→∃ p ys,[v]=[.ref p]∧(SqL X.K H p ys∨SqT X.K H p ys)∧Q (.int ys.length) H:=fun q=>by
   split at q
   ·rename_i ds e1;cases q;obtain ⟨p,ys,rfl,hq,r⟩:=seqD_ok rs rx e1;exact ⟨p,ys,rfl,hq,by rw [← r.length];exact co H ρ _ Ev.refl rs (.int _)⟩
   ·cases q
  cases rx with
  | str z =>
   have q:(if z.length≤sizeLine then some (D.int z.length,mh) else none)=some (d,mh'):=q;split at q
   ·rename_i hz;cases q;exact .inr ⟨z,rfl,hz,co H ρ _ Ev.refl rs (.int _)⟩
   ·cases q
  | non=>exact .inl (seq q)
  | bl b=>exact .inl (seq q)
  | int i=>exact .inl (seq q)
  | tup s r=>exact .inl (seq q)
  | ref h=>exact .inl (seq q)
  | rol s r=>exact .inl (seq q)
  | obj n s l r=>exact .inl (seq q)
 | [],q=>cases q
 | _::_::_,q=>simp [lenD] at q
noncomputable def listD:List D→MH→Option (D×MH)
 | [x],mh=>match seqD x mh with | some ds=>some (.ref mh.length,mh++[.lst ds]) | none=>none
 | _,_=>none
theorem call_listD:CallR X (.type "list") (rDs X.K listD):=by
 refine CallR_imp call_list_of ?_;rintro xs H Q ⟨ρ,mh,ds,d,mh',q,rs,r,co⟩
 match ds,q with
 | [x],q =>
  obtain ⟨v,rfl,rx⟩:=rds1 r;have q:(match seqD x mh with | some ds=>some (D.ref mh.length,mh++[.lst ds]) | none=>none)=some (d,mh'):=q;split at q
  ·rename_i ds e1;cases q;obtain ⟨p,ys,rfl,hq,r⟩:=seqD_ok rs rx e1;exact ⟨p,ys,rfl,hq,Co.newL rs r co⟩
  ·cases q
 | [],q=>cases q
 | _::_::_,q=>cases q
noncomputable def tyName:D→MH→Option String
 | .non,_=>some "NoneType"
 | .bl _,_=>some "bool"
 | .int _,_=>some "int"
 | .str _,_=>some "str"
 | .tup _,_=>some "tuple"
 | .ref n,mh=>match mh[n]? with | some (.lst _)=>some "list" | _=>none
 | .rol _,_=>some "list"
 | .obj ..,_=>none
noncomputable def isiB (t c:String):Option Bool :=
 if t==c then some true else
 if ["NoneType", "bool", "int", "str", "tuple", "list"].contains t&&["bool", "int", "str", "tuple", "list", "dict"].contains c then some (t == "bool"&&c == "int") else none
theorem isiB_ok {K:PySem.W.Frag}{t c:String}{b:Bool}(ht:t∈["NoneType", "bool", "int", "str", "tuple", "list"]) (hc:c∈["bool", "int", "str", "tuple", "list", "dict"]) (h:isiB t c=some b):PySem.W.kitOne K (.type t) (.type c)=some b:=by
 simp only [List.mem_cons,List.mem_nil_iff,or_false] at ht hc;rcases ht with rfl | rfl | rfl | rfl | rfl | rfl <;> rcases hc with rfl | rfl | rfl | rfl | rfl | rfl <;> (first | (have e:b=true:=by (have h':=h;revert h';decide +revert));subst e;kernel_rfl | (have e:b=false:=by (have h':=h;revert h';decide +revert));subst e;kernel_rfl)
end
inductive Src where
 | seq (ds:List D) | lref (n:Nat) | enum (s:Src) | zip (s t:Src)
noncomputable def enumL:Nat→List D→List D
 | _,[]=>[]
 | i,d::r=>.tup [.int i,d]::enumL (i+1) r
noncomputable def Src.items:Src→MH→List D
 | .seq ds,_=>ds
 | .lref n,mh=>match mh[n]? with | some (.lst o)=>o | _=>[]
 | .enum s,mh=>enumL 0 (s.items mh)
 | .zip s t,mh=>List.zipWith (fun a b=>.tup [a,b]) (s.items mh) (t.items mh)
noncomputable def Src.ok:Src→MH→Bool
 | .seq _,_=>true
 | .lref n,mh=>match mh[n]? with | some (.lst _)=>true | _=>false
 | .enum s,mh=>s.ok mh
 | .zip s t,mh=>s.ok mh&&t.ok mh
noncomputable def Src.get (s:Src) (mh:MH) (i:Nat):Option D:=(s.items mh)[i]?
noncomputable def Src.stop (s:Src) (mh:MH) (i:Nat):Bool:=s.ok mh&&decide ((s.items mh).length≤i)
structure JR (K:PySem.W.Frag) (H0:Hp) (ρ0:List Addr) (src:Src) (J:It):Prop where
 go:∀ H ρ mh i d,Ev K H0 ρ0 H ρ→RS K H ρ mh→src.get mh i=some d→J.go i H∧∀ x H',J.yld i H x H'→Ev K H ρ H' ρ∧RS K H' ρ mh∧RD K H' ρ d x
 stop:∀ H ρ mh i,Ev K H0 ρ0 H ρ→RS K H ρ mh→src.stop mh i=true→J.stop i H
noncomputable def tDI (K:PySem.W.Frag) (loc:Loc) (mh:MH) (r:Option (Src×MH)):TI:=fun σ H R=>∃ ρ src mh',r=some (src,mh')∧RL K H ρ loc σ∧RS K H ρ mh∧∀ H' ρ' J,Ev K H ρ H' ρ'→RS K H' ρ' mh'→JR K H' ρ' src J→R J H'
noncomputable def DI (X:Cx) (tg iter:Expr) (m:DM Src):Prop:=∀ loc mh,PI X tg iter (tDI X.K loc mh (m loc mh))
theorem PI_imp {X:Cx}{tg e:Expr}{t t':TI}(h:PI X tg e t) (i:∀ σ H R,t' σ H R→t σ H R):PI X tg e t':=fun pins s σ H R I q=>h pins s σ H R I (i σ H R q)
theorem PI_none {X:Cx}{tg e:Expr}{loc:Loc}{mh:MH}:PI X tg e (tDI X.K loc mh none):=fun _ _ _ _ _ _ h=>by obtain ⟨_,_,_,e,_⟩:=h;cases e
section
variable {X:Cx}{tg:Expr}
theorem JR.tup {K:PySem.W.Frag}{H0:Hp}{ρ0:List Addr}{ds:List D}{a:Addr}{xs:List V}(s:SqT K H0 a xs) (r:RDs K H0 ρ0 ds xs):JR K H0 ρ0 (.seq ds) (Itt K a) where
 go:=fun H ρ mh i d e rs q=>by
  obtain ⟨v,e1,r1⟩:=(r.mono e).get q;refine ⟨⟨xs,v,e.tup _ _ s,e1⟩,?_⟩;rintro x H' ⟨h1,h2⟩;subst h1;have:=h2 xs (e.tup _ _ s);rw [e1] at this;cases this;exact ⟨Ev.refl,rs,r1⟩
 stop:=fun H ρ mh i e rs q=>by
  refine ⟨xs,e.tup _ _ s,?_⟩;rw [← r.length];have q:(true&&decide (ds.length≤i))=true:=q;rw [Bool.true_and] at q;exact of_decide_eq_true q
theorem JR.lst {K:PySem.W.Frag}{H0:Hp}{ρ0:List Addr}{n:Nat}{a:Addr}(h:ρ0[n]?=some a):JR K H0 ρ0 (.lref n) (Itl K a) where
 go:=fun H ρ mh i d e rs q=>by
  unfold Src.get Src.items at q;cases eo:mh[n]? with
  | none=>simp only [eo] at q;simp at q
  | some ob =>
   cases ob with
   | dct kvs=>simp only [eo] at q;simp at q
   | lst o =>
   simp only [eo] at q;obtain ⟨a',ha,ro⟩:=rs.at eo;rw [e.at h] at ha;cases ha;obtain ⟨xs,sq,r⟩:=ro.read;obtain ⟨v,e1,r1⟩:=r.get q;refine ⟨⟨xs,v,sq,e1⟩,?_⟩;rintro x H' ⟨h1,h2⟩;subst h1;have:=h2 xs sq;rw [e1] at this;cases this;exact ⟨Ev.refl,rs,r1⟩
 stop:=fun H ρ mh i e rs q=>by
  unfold Src.stop Src.ok Src.items at q;cases eo:mh[n]? with
  | none=>simp only [eo] at q;simp at q
  | some ob =>
   cases ob with
   | dct kvs=>simp only [eo] at q;simp at q
   | lst o =>
   simp only [eo] at q;obtain ⟨a',ha,ro⟩:=rs.at eo;rw [e.at h] at ha;cases ha;obtain ⟨xs,sq,r⟩:=ro.read;exact ⟨xs,sq,by rw [← r.length];simpa using q⟩
theorem JR.rol {K:PySem.W.Frag}{H0:Hp}{ρ0:List Addr}{ds:List D}{a:Addr}{xs:List V}(s:PermL K H0 a xs) (r:RDs K H0 ρ0 ds xs):JR K H0 ρ0 (.seq ds) (Itl K a) where
 go:=fun H ρ mh i d e rs q=>by
  obtain ⟨v,e1,r1⟩:=(r.mono e).get q;have sq:=(e.perm _ _ s).sq;refine ⟨⟨xs,v,sq,e1⟩,?_⟩;rintro x H' ⟨h1,h2⟩;subst h1;have:=h2 xs sq;rw [e1] at this;cases this;exact ⟨Ev.refl,rs,r1⟩
 stop:=fun H ρ mh i e rs q=>by
  refine ⟨xs,(e.perm _ _ s).sq,?_⟩;rw [← r.length];have q:(true&&decide (ds.length≤i))=true:=q;rw [Bool.true_and] at q;exact of_decide_eq_true q
noncomputable def rangeL (lo:Int) (n:Nat):List D:=(List.range n).map fun (k:Nat)=>D.int (lo+(k:Int))
theorem JR.rng {K:PySem.W.Frag}{H0:Hp}{ρ0:List Addr}{lo:Int}{n:Nat}:JR K H0 ρ0 (.seq (rangeL lo n)) (Itr lo n) where
 go:=fun H ρ mh i d e rs q=>by
  have q:(rangeL lo n)[i]?=some d:=q;unfold rangeL at q;rw [List.getElem?_map] at q
  by_cases hi:i < n
  ·rw [List.getElem?_range hi] at q;cases q;refine ⟨hi,?_⟩;rintro x H' ⟨h1,h2⟩;subst h1;subst h2;exact ⟨Ev.refl,rs,.int _⟩
  ·rw [List.getElem?_eq_none (by simp;omega)] at q;cases q
 stop:=fun H ρ mh i e rs q=>by
  show n≤i;have q:(true&&decide ((rangeL lo n).length≤i))=true:=q;rw [Bool.true_and] at q;have:=of_decide_eq_true q;unfold rangeL at this
  simpa using this
noncomputable def srcOf:D→MH→Option Src
 | .tup ds,_=>some (.seq ds)
 | .ref n,mh=>match mh[n]? with | some (.lst _)=>some (.lref n) | _=>none
 | .rol ds,_=>some (.seq ds)
 | _,_=>none
noncomputable def srcM (ma:DM D):DM Src:=ma.bnd fun x=>fun _ mh=>match srcOf x mh with | some s=>some (s,mh) | none=>none
theorem di_val {a:Expr}{ma:DM D}(ha:DE X a ma):DI X tg a (srcM ma):=fun loc mh=>by
 cases ea:ma loc mh with
 | none =>
  have:srcM ma loc mh=none:=by unfold srcM DM.bnd;rw [ea]
  rw [this];exact PI_none
 | some p =>
  obtain ⟨x,m1⟩:=p;have eq:srcM ma loc mh=(match srcOf x m1 with | some s=>some (s,m1) | none=>none):=by unfold srcM DM.bnd;rw [ea]
  rw [eq];cases x with
  | tup ds =>
   rintro pins s σ H R I ⟨ρ,src,mh',q,rl,rs,co⟩;cases q;refine pi_tup (ha loc mh) pins s σ H R I ⟨ρ,_,_,ea,rl,rs,fun H1 ρ1 v e1 rs1 r1=>?_⟩;cases r1 with
   | tup s r=>exact ⟨_,rfl,⟨_,s⟩,co H1 ρ1 _ e1 rs1 (JR.tup s r)⟩
  | ref n =>
   rintro pins s σ H R I ⟨ρ,src,mh',q,rl,rs,co⟩;cases eo:m1[n]? with
   | none=>simp only [srcOf,eo] at q;cases q
   | some ob =>
    cases ob with
    | dct kvs=>simp only [srcOf,eo] at q;cases q
    | lst o =>
    simp only [srcOf,eo] at q;cases q;refine pi_list (ha loc mh) pins s σ H R I ⟨ρ,_,_,ea,rl,rs,fun H1 ρ1 v e1 rs1 r1=>?_⟩;cases r1 with
    | @ref _ a' h =>
     obtain ⟨a2,ha2,ro⟩:=rs1.at eo;rw [h] at ha2;cases ha2;obtain ⟨xs,sq,r⟩:=ro.read;exact ⟨_,rfl,⟨xs,sq⟩,co H1 ρ1 _ e1 rs1 (JR.lst h)⟩
  | rol ds =>
   rintro pins s σ H R I ⟨ρ,src,mh',q,rl,rs,co⟩;cases q;refine pi_list (ha loc mh) pins s σ H R I ⟨ρ,_,_,ea,rl,rs,fun H1 ρ1 v e1 rs1 r1=>?_⟩;cases r1 with
   | rol s r=>exact ⟨_,rfl,⟨_,s.sq⟩,co H1 ρ1 _ e1 rs1 (JR.rol s r)⟩
  | non=>exact PI_none
  | bl b=>exact PI_none
  | int i=>exact PI_none
  | str z=>exact PI_none
  | obj c ks ds=>exact PI_none
noncomputable def rng1 (ds:List D):Option Src:=match ds with
 | [.int j]=>if -(2 ^ 62)≤j∧j < 2 ^ 62 then some (.seq (rangeL 0 j.toNat)) else none
 | _=>none
theorem rng1_some {ds:List D}{s:Src}(h:rng1 ds=some s):∃ j,ds=[.int j]∧-(2 ^ 62)≤j∧j < 2 ^ 62∧s=.seq (rangeL 0 j.toNat):=by
 unfold rng1 at h;split at h
 ·rename_i j;split at h
  ·rename_i hj;cases h;exact ⟨j,rfl,hj.1,hj.2,rfl⟩
  ·cases h
 ·cases h
noncomputable def rngM (f:List D→Option Src) (mr:DM (List D)):DM Src:=mr.bnd fun ds=>match f ds with | some s=>DM.ret s | none=>DM.bad
theorem rngM_some {f:List D→Option Src}{mr:DM (List D)}{loc:Loc}{mh:MH}{r:Src×MH}(h:rngM f mr loc mh=some r):∃ ds,mr loc mh=some (ds,r.2)∧f ds=some r.1:=by
 obtain ⟨ds,m1,ea,q⟩:=bnd_some h;cases e:f ds with
 | none=>rw [e] at q;cases q
 | some s=>rw [e] at q;cases q;exact ⟨ds,ea,e⟩
theorem rds2 {K:PySem.W.Frag}{H:Hp}{ρ:List Addr}{d e:D}{xs:List V}(h:RDs K H ρ [d,e] xs):∃ v u,xs=[v,u]∧RD K H ρ d v∧RD K H ρ e u:=by
 cases h with
 | cons r t =>
  cases t with
  | cons r2 t=>cases t;exact ⟨_,_,rfl,r,r2⟩
theorem di_range1 {a:Expr}{mr:DM (List D)}{p pos:Pos}(hg:Gl X "range") (hm:X.mg "range"=none) (ha:DA X [a] mr) (hs:starEach [a] X.env=[(false,eval a X.env)]):DI X tg (.Call (.Name "range" p) [a] [] pos) (rngM rng1 mr):=fun loc mh=>by
 refine PI_imp (pi_range1 hg hm (ha loc mh) hs) ?_;rintro σ H R ⟨ρ,src,mh',q,rl,rs,co⟩;obtain ⟨ds,ea,q⟩:=rngM_some q;refine ⟨ρ,ds,mh',ea,rl,rs,fun H1 ρ1 vs e1 rs1 r1=>?_⟩;obtain ⟨j,rfl,h1,h2,e⟩:=rng1_some q;obtain ⟨v,rfl,rv⟩:=rds1 r1;cases rv;have e:src=.seq (rangeL 0 j.toNat):=e;subst e;exact ⟨j,rfl,h1,h2,co H1 ρ1 _ e1 rs1 JR.rng⟩
end
inductive Fl where
 | nx | bk | ct | rt (d:D)
noncomputable abbrev SM:=Loc→MH→Option (Fl×Loc×MH)
noncomputable def CoS (K:PySem.W.Frag) (H:Hp) (ρ:List Addr) (f:Fl) (loc':Loc) (mh':MH) (N:Ends):Prop:=match f with
 | .nx=>∀ H' ρ' σ',Ev K H ρ H' ρ'→RS K H' ρ' mh'→RL K H' ρ' loc' σ'→N.nx σ' H'
 | .bk=>∀ H' ρ' σ',Ev K H ρ H' ρ'→RS K H' ρ' mh'→RL K H' ρ' loc' σ'→N.bk σ' H'
 | .ct=>∀ H' ρ' σ',Ev K H ρ H' ρ'→RS K H' ρ' mh'→RL K H' ρ' loc' σ'→N.ct σ' H'
 | .rt d=>∀ H' ρ' v,Ev K H ρ H' ρ'→RS K H' ρ' mh'→RD K H' ρ' d v→N.rt v H'
theorem CoS.ev {K:PySem.W.Frag}{H H1:Hp}{ρ ρ1:List Addr}{f:Fl}{loc':Loc}{mh':MH}{N:Ends}(e:Ev K H ρ H1 ρ1) (c:CoS K H ρ f loc' mh' N):CoS K H1 ρ1 f loc' mh' N:=by
 cases f with
 | nx=>exact fun H' ρ' σ' e' rs r=>c H' ρ' σ' (e.trans e') rs r
 | bk=>exact fun H' ρ' σ' e' rs r=>c H' ρ' σ' (e.trans e') rs r
 | ct=>exact fun H' ρ' σ' e' rs r=>c H' ρ' σ' (e.trans e') rs r
 | rt d=>exact fun H' ρ' σ' e' rs r=>c H' ρ' σ' (e.trans e') rs r
noncomputable def tS (K:PySem.W.Frag) (m:SM):TS:=fun N σ H=>∃ loc mh ρ f loc' mh',m loc mh=some (f,loc',mh')∧RL K H ρ loc σ∧RS K H ρ mh∧CoS K H ρ f loc' mh' N
noncomputable def DS (X:Cx) (st:Stmt) (m:SM):Prop:=PS X st (tS X.K m)
noncomputable def DSs (X:Cx) (sts:List Stmt) (m:SM):Prop:=PSs X sts (tS X.K m)
theorem PS_imp {X:Cx}{st:Stmt}{t t':TS}(h:PS X st t) (i:∀ N σ H,t' N σ H→t N σ H):PS X st t':=fun pins s σ H N I q=>h pins s σ H N I (i N σ H q)
theorem PSs_imp {X:Cx}{st:List Stmt}{t t':TS}(h:PSs X st t) (i:∀ N σ H,t' N σ H→t N σ H):PSs X st t':=fun pins s σ H N I q=>h pins s σ H N I (i N σ H q)
noncomputable def SM.bad:SM:=fun _ _=>none
theorem ds_bad {X:Cx}{st:Stmt}:DS X st SM.bad:=fun _ _ _ _ _ _ h=>by obtain ⟨_,_,_,_,_,_,e,_⟩:=h;cases e
noncomputable def tDx (K:PySem.W.Frag) (m:DM D):TE:=fun σ H Q=>∃ loc mh,tD K loc mh (m loc mh) σ H Q
noncomputable def tTx (K:PySem.W.Frag) (m:DM Bool):TT:=fun σ H Q=>∃ loc mh,tDT K loc mh (m loc mh) σ H Q
noncomputable def tIx (K:PySem.W.Frag) (m:DM Src):TI:=fun σ H R=>∃ loc mh,tDI K loc mh (m loc mh) σ H R
theorem DE.x {X:Cx}{e:Expr}{m:DM D}(h:DE X e m):PE X e (tDx X.K m):=fun pins s σ H Q I ⟨loc,mh,q⟩=>h loc mh pins s σ H Q I q
theorem DT.x {X:Cx}{e:Expr}{m:DM Bool}(h:DT X e m):PT X e (tTx X.K m):=fun pins s σ H Q I ⟨loc,mh,q⟩=>h loc mh pins s σ H Q I q
theorem DI.x {X:Cx}{tg e:Expr}{m:DM Src}(h:DI X tg e m):PI X tg e (tIx X.K m):=fun pins s σ H Q I ⟨loc,mh,q⟩=>h loc mh pins s σ H Q I q
section
variable {X:Cx}{st:Stmt}{sts:List Stmt}{m m1 m2:SM}{e:Expr}{me:DM D}{pos:Pos}
noncomputable def SM.nxt:SM:=fun loc mh=>some (.nx,loc,mh)
noncomputable def seqS (m1 m2:SM):SM:=fun loc mh=>match m1 loc mh with
 | some (.nx,l,h)=>m2 l h
 | r=>r
theorem dss_nil:DSs X [] SM.nxt:=by
 refine PSs_imp pss_nil ?_;rintro N σ H ⟨loc,mh,ρ,f,loc',mh',q,rl,rs,co⟩;cases q;exact co H ρ σ Ev.refl rs rl
theorem dss_cons (h1:DS X st m1) (h2:DSs X sts m2):DSs X (st::sts) (seqS m1 m2):=by
 refine PSs_imp (pss_cons h1 h2) ?_;rintro N σ H ⟨loc,mh,ρ,f,loc',mh',q,rl,rs,co⟩;unfold seqS at q;split at q
 ·rename_i l h e1;exact ⟨loc,mh,ρ,.nx,l,h,e1,rl,rs,fun H1 ρ1 σ1 ev1 rs1 rl1=>⟨l,h,ρ1,f,loc',mh',q,rl1,rs1,co.ev ev1⟩⟩
 ·rename_i r hne;refine ⟨loc,mh,ρ,f,loc',mh',q,rl,rs,?_⟩;cases f with
  | nx=>exact absurd q (hne _ _)
  | bk=>exact co
  | ct=>exact co
  | rt d=>exact co
theorem ds_pass:DS X (.Pass pos) SM.nxt:=by
 refine PS_imp ps_pass ?_;rintro N σ H ⟨loc,mh,ρ,f,loc',mh',q,rl,rs,co⟩;cases q;exact co H ρ σ Ev.refl rs rl
theorem ds_break:DS X (.Break pos) (fun loc mh=>some (.bk,loc,mh)):=by
 refine PS_imp ps_break ?_;rintro N σ H ⟨loc,mh,ρ,f,loc',mh',q,rl,rs,co⟩;cases q;exact co H ρ σ Ev.refl rs rl
theorem ds_continue:DS X (.Continue pos) (fun loc mh=>some (.ct,loc,mh)):=by
 refine PS_imp ps_continue ?_;rintro N σ H ⟨loc,mh,ρ,f,loc',mh',q,rl,rs,co⟩;cases q;exact co H ρ σ Ev.refl rs rl
noncomputable def retS (me:DM D):SM:=fun loc mh=>match me loc mh with | some (d,mh')=>some (.rt d,loc,mh') | none=>none
theorem ds_ret (he:DE X e me):DS X (.Return (some e) pos) (retS me):=by
 refine PS_imp (ps_ret he.x) ?_;rintro N σ H ⟨loc,mh,ρ,f,loc',mh',q,rl,rs,co⟩;unfold retS at q;split at q
 ·rename_i d h1 ee;cases q;exact ⟨loc,mh,ρ,d,_,ee,rl,rs,co⟩
 ·cases q
theorem ds_retN:DS X (.Return none pos) (fun loc mh=>some (.rt .non,loc,mh)):=by
 refine PS_imp ps_retN ?_;rintro N σ H ⟨loc,mh,ρ,f,loc',mh',q,rl,rs,co⟩;cases q;exact co H ρ _ Ev.refl rs .non
noncomputable def dropS (me:DM D):SM:=fun loc mh=>match me loc mh with | some (_,mh')=>some (.nx,loc,mh') | none=>none
theorem ds_expr (he:DE X e me) (hs:swapsWith e none pos.line X.env=pure false):DS X (.Expr e pos) (dropS me):=by
 refine PS_imp (ps_expr he.x hs) ?_;rintro N σ H ⟨loc,mh,ρ,f,loc',mh',q,rl,rs,co⟩;unfold dropS at q;split at q
 ·rename_i d h1 ee;cases q;exact ⟨loc,mh,ρ,d,_,ee,rl,rs,fun H' ρ' v e' rs' r'=>co H' ρ' σ e' rs' (rl.mono e')⟩
 ·cases q
noncomputable def ifS (t:DM Bool) (m1 m2:SM):SM:=fun loc mh=>match t loc mh with
 | some (k,h)=>if k=true then m1 loc h else m2 loc h
 | none=>none
theorem ds_if {c:Expr}{a b:List Stmt}{t:DM Bool}(hc:DT X c t) (ha:DSs X a m1) (hb:DSs X b m2):DS X (.If c a b pos) (ifS t m1 m2):=by
 refine PS_imp (ps_if hc.x ha hb) ?_;rintro N σ H ⟨loc,mh,ρ,f,loc',mh',q,rl,rs,co⟩;unfold ifS at q;split at q
 ·rename_i k h ek;refine ⟨loc,mh,ρ,k,h,ek,rl,rs,fun H1 ρ1 e1 rs1=>?_⟩;cases k with
  | true=>exact iteT ⟨loc,h,ρ1,f,loc',mh',by rw [if_pos rfl] at q;exact q,rl.mono e1,rs1,co.ev e1⟩
  | false=>exact iteF ⟨loc,h,ρ1,f,loc',mh',by rw [if_neg Bool.false_ne_true] at q;exact q,rl.mono e1,rs1,co.ev e1⟩
 ·cases q
noncomputable abbrev GM:=D→Loc→MH→Option (Loc×MH)
noncomputable def KeptBut (ws:List Nat) (σ σ':St):Prop:=σ'.length=σ.length∧∀ i,i ∉ ws→σ'[i]?=σ[i]?
noncomputable def tG (K:PySem.W.Frag) (ws:List Nat) (g:GM):TG:=fun v σ H Q=>∃ d loc mh ρ loc' mh',g d loc mh=some (loc',mh')∧RL K H ρ loc σ∧RS K H ρ mh∧RD K H ρ d v ∧
 ∀ H' ρ' σ',Ev K H ρ H' ρ'→RS K H' ρ' mh'→RL K H' ρ' loc' σ'→KeptBut ws σ σ'→Q σ' H'
noncomputable def DG (X:Cx) (tg:Expr) (ws:List Nat) (g:GM):Prop:=PG X tg (tG X.K ws g)
theorem PG_imp {tg:Expr}{t t':TG}(h:PG X tg t) (i:∀ v σ H Q,t' v σ H Q→t v σ H Q):PG X tg t':=fun pins s σ H v u Q I r q=>h pins s σ H v u Q I r (i v σ H Q q)
noncomputable def gSet (i:Nat):GM:=fun d loc mh=>some (loc.set i (some d),mh)
theorem KeptBut.set {σ:St}{i:Nat}{o:Option V}:KeptBut [i] σ (σ.set i o):=⟨List.length_set,fun j hj=>List.getElem?_set_ne (fun e=>hj (by simp [e]))⟩
theorem dg_name {i:Nat}{x:Str}(hN:X.N.Nodup) (hi:X.N[i]?=some x) (hx:L2.Loc X.env.scope x) (hf:X.fn x=true∨X.env.scope.names.lookup x=some .local):DG X (.Name x pos) [i] (gSet i):=by
 refine PG_imp (pg_name hN hi hx hf) ?_;rintro v σ H Q ⟨d,loc,mh,ρ,loc',mh',q,rl,rs,r,co⟩;cases q;exact co H ρ _ Ev.refl rs (rl.set r) KeptBut.set
noncomputable def setAll:List Nat→List D→Loc→Loc
 | i::is,d::ds,loc=>setAll is ds (loc.set i (some d))
 | _,_,loc=>loc
noncomputable def setAllV:List Nat→List V→St→St
 | i::is,d::ds,loc=>setAllV is ds (loc.set i (some d))
 | _,_,loc=>loc
noncomputable def gNs:List Nat→TGs
 | []=>gNil
 | i::is=>gCons (gName i) (gNs is)
theorem gNs_of:∀ (is:List Nat) (vs:List V) (σ:St) (H:Hp) (Q:St→Hp→Prop),vs.length=is.length→Q (setAllV is vs σ) H→gNs is vs σ H Q
 | [],[],_,_,_,_,q=>⟨rfl,q⟩
 | [],_::_,_,_,_,h,_=>by simp at h
 | _::_,[],_,_,_,h,_=>by simp at h
 | i::is,v::vs,σ,H,Q,h,q=>⟨v,vs,rfl,gNs_of is vs _ H Q (by simpa using h) q⟩
theorem setAll_rl {K:PySem.W.Frag}{H:Hp}{ρ:List Addr}:∀ (is:List Nat) {ds:List D}{vs:List V}{loc:Loc}{σ:St},RDs K H ρ ds vs→RL K H ρ loc σ→RL K H ρ (setAll is ds loc) (setAllV is vs σ)
 | [],_,_,_,_,.nil,rl=>rl
 | [],_,_,_,_,.cons _ _,rl=>rl
 | _::_,_,_,_,_,.nil,rl=>rl
 | i::is,_,_,_,_,.cons r t,rl=>setAll_rl is t (rl.set r)
theorem setAll_kept:∀ (is:List Nat) (vs:List V) (σ:St),KeptBut is σ (setAllV is vs σ)
 | [],[],_=>⟨rfl,fun _ _=>rfl⟩
 | [],_::_,_=>⟨rfl,fun _ _=>rfl⟩
 | _::_,[],_=>⟨rfl,fun _ _=>rfl⟩
 | i::is,v::vs,σ=>by
  obtain ⟨h1,h2⟩:=setAll_kept is vs (σ.set i (some v));refine ⟨h1.trans List.length_set,fun j hj=>?_⟩;have hj':¬ (j=i)∧j ∉ is:=by simpa using hj
  show (setAllV is vs (σ.set i (some v)))[j]?=σ[j]?;rw [h2 j hj'.2,List.getElem?_set_ne (fun e=>hj'.1 e.symm)]
noncomputable def gTupD (is:List Nat):GM:=fun d loc mh=>match d with
 | .tup ds=>if ds.length=is.length then some (setAll is ds loc,mh) else none
 | _=>none
theorem dg_tup {es:List Expr}{k:Nat}{is:List Nat}(hc:X.calm=true) (h:PGs X es (gNs is)) (hn:(assignEach es X.env).length=is.length) (hst:(assignEach es X.env).findIdx? (·.1)=none):DG X (.Tuple es k pos) is (gTupD is):=by
 refine PG_imp (pg_tup hc h hn hst) ?_;rintro v σ H Q ⟨d,loc,mh,ρ,loc',mh',q,rl,rs,r,co⟩;cases r with
 | @tup ds a xs s r =>
  have q:(if ds.length=is.length then some (setAll is ds loc,mh) else none)=some (loc',mh'):=q;split at q
  ·rename_i hl;cases q;exact ⟨a,xs,rfl,s,by rw [← r.length];exact hl,gNs_of is xs σ H Q (by rw [← r.length];exact hl) (co H ρ _ Ev.refl rs (setAll_rl is r rl) (setAll_kept is xs σ))⟩
  ·cases q
 | _=>cases q
noncomputable def setIx (o i v:D) (mh:MH):Option MH:=match o,i with
 | .ref n,.int k=>match mh[n]? with
  | some (.lst ds)=>match ixN ds.length k with
   | some j=>some (mh.set n (.lst (ds.set j v)))
   | none=>none
  | _=>none
 | _,_=>none
noncomputable def gSubD (mo mi:DM D):GM:=fun v loc mh=>match mo loc mh with
 | some (o,m1)=>match mi loc m1 with
  | some (i,m2)=>match setIx o i v m2 with
   | some m3=>some (loc,m3)
   | none=>none
  | none=>none
 | none=>none
theorem dg_sub {o i:Expr}{mo mi:DM D}(ho:DE X o mo) (hi:DE X i mi) (ha:∀ v,assign (.Subscript o i pos) X.env v=(do
      let ov ← holding [v] (eval o X.env)
      let iv ← holding [v,ov] (eval i X.env)
      standAt pos
      holding [v,ov,iv] (setItem ov iv v)
      release [v,ov,iv] [])):DG X (.Subscript o i pos) [] (gSubD mo mi):=by
  refine PG_imp (pg_sub ho.x hi.x set_list ha) ?_;rintro v σ H Q ⟨d,loc,mh,ρ,loc',mh',q,rl,rs,r,co⟩;unfold gSubD at q;split at q
  · rename_i od m1 eo;split at q
    · rename_i idx m2 ei;split at q
      · rename_i m3 es;cases q;refine ⟨loc,mh,ρ,od,m1,eo,rl,rs,fun H1 ρ1 v1 e1 rs1 r1=>⟨loc,m1,ρ1,idx,m2,ei,rl.mono e1,rs1,fun H2 ρ2 v2 e2 rs2 r2=>?_⟩⟩;have r1':=r1.mono e2;have r':=(r.mono e1).mono e2;cases r1' with
        | @ref n a hn =>
          cases r2 with
          | int k =>
            have es:(match m2[n]? with | some (.lst ds)=>(match ixN ds.length k with | some j=>some (m2.set n (.lst (ds.set j d))) | none=>none) | _=>none)=some mh':=es;split at es
            · rename_i ds em;split at es
              · rename_i j ej;cases es;obtain ⟨a',ha',xs,hx,rx⟩:=rs2.at em;rw [hn] at ha';cases ha';refine ⟨a,xs,k,j,rfl,rfl,hx,by rw [← rx.length];exact ej,?_⟩;exact co _ ρ2 σ ((e1.trans e2).trans (Ev.lst hx)) (rs2.setL hn hx (rx.set r' j)) (((rl.mono e1).mono e2).mono (Ev.lst hx)) ⟨rfl,fun _ _=>rfl⟩
              · cases es
            · cases es
          | _=>cases es
        | _=>cases r2 <;> cases es
      · cases q
    · cases q
  · cases q
noncomputable def asgS (me:DM D) (g:GM):SM:=fun loc mh=>match me loc mh with
 | some (d,h)=>match g d loc h with
  | some (l,h')=>some (.nx,l,h')
  | none=>none
 | none=>none
theorem asgS_imp {ws:List Nat}{g:GM}{N:Ends}{σ:St}{H:Hp}(h:tS X.K (asgS me g) N σ H):tAsg (tDx X.K me) (tG X.K ws g) N σ H:=by
 obtain ⟨loc,mh,ρ,f,loc',mh',q,rl,rs,co⟩:=h;unfold asgS at q;split at q
 ·rename_i d h1 ee;split at q
  ·rename_i l h2 eg;cases q;exact ⟨loc,mh,ρ,d,h1,ee,rl,rs,fun H1 ρ1 v e1 rs1 r1=>⟨d,loc,h1,ρ1,_,_,eg,rl.mono e1,rs1,r1,fun H2 ρ2 σ2 e2 rs2 rl2 _=>co H2 ρ2 σ2 (e1.trans e2) rs2 rl2⟩⟩
  ·cases q
 ·cases q
theorem ds_asg {tg:Expr}{ws:List Nat}{g:GM}(he:DE X e me) (hg:DG X tg ws g) (hs:swapsWithSole [tg] e pos.line X.env=pure false) (hw:swappedStores [tg] e X.env=pure none) (h1:(assignEach [tg] X.env).map (·.2)=[assign tg X.env]):DS X (.Assign [tg] e pos) (asgS me g) :=
 PS_imp (ps_asg he.x hg hs hw h1) fun N σ H h=>asgS_imp h
noncomputable def forD (src:Src) (g:GM) (body:SM):Nat→Nat→SM
 | 0,i,loc,mh=>if src.stop mh i=true then some (.nx,loc,mh) else none
 | k+1,i,loc,mh=>match src.get mh i with
  | none=>if src.stop mh i=true then some (.nx,loc,mh) else none
  | some d=>match g d loc mh with
   | none=>none
   | some (l1,h1)=>match body l1 h1 with
    | some (.nx,l,h)=>forD src g body k (i+1) l h
    | some (.ct,l,h)=>forD src g body k (i+1) l h
    | some (.bk,l,h)=>some (.nx,l,h)
    | some (.rt d,l,h)=>some (.rt d,l,h)
    | none=>none
noncomputable def forS (mi:DM Src) (g:GM) (body:SM):SM:=fun loc mh=>match mi loc mh with
 | some (src,h)=>forD src g body (src.items h).length 0 loc h
 | none=>none
theorem ds_for {tg iter:Expr}{body:List Stmt}{mi:DM Src}{ws:List Nat}{g:GM}{mb:SM}(hp:PassesOwn (model X.prog X.w) X.A X.env X.xe) (hc:X.calm=true) (hi:DI X tg iter mi) (hg:DG X tg ws g) (hb:DSs X body mb)
  (hs:∀ x,foldedSetIterable iter X.env x=pure x):DS X (.For tg iter body [] pos) (forS mi g mb):=by
 refine PS_imp (ps_for hp hc hi.x hg hb hs) ?_;rintro N σ H ⟨loc,mh,ρ,f,loc',mh',q,rl,rs,co⟩;unfold forS at q;split at q
 ·rename_i src h0 ei;refine ⟨loc,mh,ρ,src,h0,ei,rl,rs,fun H1 ρ1 J e1 rs1 jr=>?_⟩
  refine ⟨fun i k σ H=>∃ ρ loc mh f loc' mh',Ev X.K H1 ρ1 H ρ∧RL X.K H ρ loc σ∧RS X.K H ρ mh∧forD src g mb k i loc mh=some (f,loc',mh')∧CoS X.K H ρ f loc' mh' N,
   ⟨_,ρ1,loc,h0,f,loc',mh',Ev.refl,rl.mono e1,rs1,q,co.ev e1⟩,?_⟩
  rintro i k σ H ⟨ρ,loc,mh,f,loc',mh',ev,rl,rs,q,co⟩;have stop:(if src.stop mh i=true then some (Fl.nx,loc,mh) else none)=some (f,loc',mh')→J.stop i H∧N.nx σ H:=fun q=>by
   split at q
   ·rename_i hst;cases q;exact ⟨jr.stop H ρ mh i ev rs hst,co H ρ σ Ev.refl rs rl⟩
   ·cases q
  cases k with
  | zero=>exact .inl (stop q)
  | succ k =>
   simp only [forD] at q;split at q
   ·exact .inl (stop q)
   ·rename_i d ed;obtain ⟨hgo,hyld⟩:=jr.go H ρ mh i d ev rs ed;split at q
    ·cases q
    ·rename_i l1 h1 eg
     refine .inr ⟨hgo,fun σ' H'=>∃ ρ' loc mh f loc' mh',Ev X.K H1 ρ1 H' ρ'∧RL X.K H' ρ' loc σ'∧RS X.K H' ρ' mh∧forD src g mb k (i+1) loc mh=some (f,loc',mh')∧CoS X.K H' ρ' f loc' mh' N,
      fun σ' H' h=>⟨k,Nat.lt_succ_self _,h⟩,fun x H' hy=>?_⟩
     obtain ⟨ev2,rs2,rd2⟩:=hyld x H' hy;refine ⟨d,loc,mh,ρ,l1,h1,eg,rl.mono ev2,rs2,rd2,fun H3 ρ3 σ3 ev3 rs3 rl3 _=>?_⟩;split at q
     ·rename_i l h eb;exact ⟨l1,h1,ρ3,.nx,l,h,eb,rl3,rs3,fun H4 ρ4 σ4 ev4 rs4 rl4=>⟨ρ4,l,h,f,loc',mh',ev.trans (ev2.trans (ev3.trans ev4)),rl4,rs4,q,co.ev (ev2.trans (ev3.trans ev4))⟩⟩
     ·rename_i l h eb;exact ⟨l1,h1,ρ3,.ct,l,h,eb,rl3,rs3,fun H4 ρ4 σ4 ev4 rs4 rl4=>⟨ρ4,l,h,f,loc',mh',ev.trans (ev2.trans (ev3.trans ev4)),rl4,rs4,q,co.ev (ev2.trans (ev3.trans ev4))⟩⟩
     ·rename_i l h eb;cases q;exact ⟨l1,h1,ρ3,.bk,_,_,eb,rl3,rs3,fun H4 ρ4 σ4 ev4 rs4 rl4=>co H4 ρ4 σ4 (ev2.trans (ev3.trans ev4)) rs4 rl4⟩
     ·rename_i d' l h eb;cases q;exact ⟨l1,h1,ρ3,.rt d',_,_,eb,rl3,rs3,fun H4 ρ4 v4 ev4 rs4 r4=>co H4 ρ4 v4 (ev2.trans (ev3.trans ev4)) rs4 r4⟩
     ·cases q
 ·cases q
end
noncomputable def capD (cs:List (Option Nat)) (loc:Loc):Loc:=cs.map fun o=>match o with | some j=>(match loc[j]? with | some d=>d | none=>none) | none=>none
noncomputable def capV (cs:List (Option Nat)) (σ:St):St:=cs.map fun o=>match o with | some j=>(match σ[j]? with | some d=>d | none=>none) | none=>none
theorem cap_rl {K:PySem.W.Frag}{H:Hp}{ρ:List Addr}{loc:Loc}{σ:St}(cs:List (Option Nat)) (h:RL K H ρ loc σ):RL K H ρ (capD cs loc) (capV cs σ):=by
 refine ⟨by unfold capD capV;rw [List.length_map,List.length_map],fun i d e=>?_⟩;unfold capD at e;unfold capV;rw [List.getElem?_map] at e ⊢;cases q:cs[i]? with
 | none=>rw [q] at e;cases e
 | some o =>
  rw [q] at e;cases o with
  | none=>simp at e
  | some j =>
   simp only [Option.map_some,Option.some.injEq] at e;cases ej:loc[j]? with
   | none=>rw [ej] at e;cases e
   | some d' =>
    rw [ej] at e;have e:d'=some d:=e;subst e;obtain ⟨v,e1,r⟩:=h.2 j d ej;exact ⟨v,by simp only [Option.map_some,e1],r⟩
structure CapOk (X:Cx) (N':List Str) (scope:Scope) (cs:List (Option Nat)):Prop where
 len:N'.length=cs.length
 cap:∀ (i:Nat) (x:Str) (j:Nat),N'[i]?=some x→cs[i]?=some (some j)→scope.names.lookup x=some .free∧X.N[j]?=some x
theorem CapOk.to {X:Cx}{N':List Str}{scope:Scope}{cs:List (Option Nat)}(h:CapOk X N' scope cs) (σ:St):Cap X N' scope σ (capV cs σ):=by
 refine ⟨by unfold capV;rw [List.length_map];exact h.len.symm,fun i x v e1 e2=>?_⟩;unfold capV at e2;rw [List.getElem?_map] at e2;cases q:cs[i]? with
 | none=>rw [q] at e2;cases e2
 | some o =>
  rw [q] at e2;cases o with
  | none=>simp at e2
  | some j =>
   obtain ⟨h1,h2⟩:=h.cap i x j e1 q;refine ⟨h1,j,h2,?_⟩;simp only [Option.map_some,Option.some.injEq] at e2;cases ej:σ[j]? with
   | none=>rw [ej] at e2;cases e2
   | some d'=>rw [ej] at e2;have e2:d'=some v:=e2;rw [e2]
theorem kept_of {cs:List (Option Nat)}{ws:List Nat}{σ σ2:St}(hw:∀ i∈ws,∀ j,cs[i]?≠some (some j)) (h:KeptBut ws (capV cs σ) σ2):Kept (capV cs σ) σ2:=by
 refine ⟨h.1,fun i v e=>?_⟩;rw [h.2 i fun hi=>?_]
 ·exact e
 ·unfold capV at e;rw [List.getElem?_map] at e;cases q:cs[i]? with
  | none=>rw [q] at e;cases e
  | some o =>
   cases o with
   | none=>rw [q] at e;simp at e
   | some j=>exact hw i hi j q
noncomputable def compD (src:Src) (g:GM) (tc:DM Bool) (me:DM D) (loc:Loc):Nat→Nat→List D→MH→Option (List D×MH)
 | 0,i,acc,mh=>if src.stop mh i=true then some (acc,mh) else none
 | k+1,i,acc,mh=>match src.get mh i with
  | none=>if src.stop mh i=true then some (acc,mh) else none
  | some d=>match g d loc mh with
   | none=>none
   | some (l1,h1)=>match tc l1 h1 with
    | none=>none
    | some (c,h2)=>if c=true then (match me l1 h2 with
      | some (y,h3)=>if acc.length < sizeLine then compD src g tc me loc k (i+1) (acc++[y]) h3 else none
      | none=>none) else compD src g tc me loc k (i+1) acc h2
noncomputable def compM (mi:DM Src) (cs:List (Option Nat)) (g:GM) (tc:DM Bool) (me:DM D):DM D:=fun loc mh=>match mi loc mh with
 | some (src,h)=>match compD src g tc me (capD cs loc) (src.items h).length 0 [] h with
  | some (ds,h')=>some (.ref h'.length,h'++[.lst ds])
  | none=>none
 | none=>none
section
variable {X:Cx}{N':List Str}{scope:Scope}{cs:List (Option Nat)}{ws:List Nat}{mi:DM Src}{g:GM}{tc:DM Bool}{me:DM D}{elt target iter:Expr}{ifs:List Expr}{pos:Pos}
theorem comp_imp (hcap:CapOk X N' scope cs) (hw:∀ i∈ws,∀ j,cs[i]?≠some (some j)) {σ:St}{H:Hp}{Q:VK}(h:tDx X.K (compM mi cs g tc me) σ H Q) :
  tComp X N' scope (tIx X.K mi) (tG X.K ws g) (tTx X.K tc) (tDx X.K me) σ H Q:=by
 obtain ⟨loc,mh,ρ,d,mh',q,rl,rs,co⟩:=h;unfold compM at q;split at q
 ·rename_i src h0 ei;split at q
  ·rename_i ds h1 ec;cases q;refine ⟨loc,mh,ρ,src,h0,ei,rl,rs,fun H1 ρ1 J e1 rs1 jr=>?_⟩;refine ⟨capV cs σ,hcap.to σ,fun i k acc H=>∃ ρ accD mh,Ev X.K H1 ρ1 H ρ∧RS X.K H ρ mh∧RDs X.K H ρ accD acc∧compD src g tc me (capD cs loc) k i accD mh=some (ds,h1),⟨_,ρ1,[],h0,Ev.refl,rs1,.nil,ec⟩,?_⟩;have co1:=co.ev e1;have rl1:=cap_rl cs (rl.mono e1);rintro i k acc H ⟨ρ,accD,mh,ev,rs,ra,q⟩;have stop:(if src.stop mh i=true then some (accD,mh) else none)=some (ds,h1)→J.stop i H∧∀ p,H p=none→Q (.ref p) (upd H p (.lst acc)):=fun q=>by
    split at q
    ·rename_i hst;cases q;exact ⟨jr.stop H ρ _ i ev rs hst,Co.newL rs ra (co1.ev ev)⟩
    ·cases q
   cases k with
   | zero=>exact .inl (stop q)
   | succ k =>
    simp only [compD] at q;split at q
    ·exact .inl (stop q)
    ·rename_i d ed;obtain ⟨hgo,hyld⟩:=jr.go H ρ mh i d ev rs ed;split at q
     ·cases q
     ·rename_i l1 h2 eg;refine .inr ⟨hgo,fun acc' H'=>∃ ρ accD mh,Ev X.K H1 ρ1 H' ρ∧RS X.K H' ρ mh∧RDs X.K H' ρ accD acc'∧compD src g tc me (capD cs loc) k (i+1) accD mh=some (ds,h1),fun acc' H' h=>⟨k,Nat.lt_succ_self _,h⟩,fun x H' hy=>?_⟩;obtain ⟨ev2,rs2,rd2⟩:=hyld x H' hy;refine ⟨d,capD cs loc,mh,ρ,l1,h2,eg,rl1.mono (ev.trans ev2),rs2,rd2,fun H3 ρ3 σ3 ev3 rs3 rl3 kb=>⟨kept_of hw kb,?_⟩⟩;split at q
      ·cases q
      ·rename_i c h3 et;refine ⟨l1,h2,ρ3,c,h3,et,rl3,rs3,fun H4 ρ4 ev4 rs4=>?_⟩;have evA:=ev2.trans (ev3.trans ev4);cases c with
       | false =>
        rw [if_neg Bool.false_ne_true] at q;exact iteF ⟨ρ4,accD,h3,ev.trans evA,rs4,ra.mono evA,q⟩
       | true =>
        rw [if_pos rfl] at q;split at q
        ·rename_i y h4 ey;split at q
         ·rename_i hz;refine iteT ⟨by rw [← ra.length];exact hz,l1,h3,ρ4,y,h4,ey,rl3.mono ev4,rs4,fun H5 ρ5 v ev5 rs5 r5=>⟨ρ5,accD++[y],h4,ev.trans (evA.trans ev5),rs5,(ra.mono (evA.trans ev5)).append (.cons r5 .nil),q⟩⟩
         ·cases q
        ·cases q
  ·cases q
 ·cases q
noncomputable def DIf (X:Cx) (ifs:List Expr) (m:DM Bool):Prop:=PIf X ifs (tTx X.K m)
theorem dif_nil:DIf X [] (DM.ret true):=by
 rintro pins s σ H Q I ⟨loc,mh,ρ,b,mh',q,rl,rs,co⟩;cases q;exact pif_nil pins s σ H Q I (co H ρ Ev.refl rs)
theorem dif_one {c:Expr}{m:DM Bool}(h:DT X c m):DIf X [c] m:=pif_one h.x
theorem de_comp (hc:X.calm=true) (S:CompOk X scope) (hcap:CapOk X N' scope cs) (hw:∀ i∈ws,∀ j,cs[i]?≠some (some j)) (hit:DI X target iter mi)
  (hg:∀ pins C cells s₀ H₀ fp,DG (cxComp X pins N' scope C cells s₀ H₀ fp) target ws g)
  (hi:∀ pins C cells s₀ H₀ fp,DIf (cxComp X pins N' scope C cells s₀ H₀ fp) ifs tc)
  (he:∀ pins C cells s₀ H₀ fp,DE (cxComp X pins N' scope C cells s₀ H₀ fp) elt me)
  (hs:∀ x,foldedSetIterable iter X.env x=pure x):DE X (.ListComp elt [⟨target,iter,ifs,0⟩] scope pos) (compM mi cs g tc me):=fun loc mh =>
 PE_imp (pe_comp (N':=N') (g:=tG X.K ws g) (tc:=tTx X.K tc) (te:=tDx X.K me) hc S hit.x (fun p C c s h f=>hg p C c s h f) (fun p C c s h f=>hi p C c s h f) (fun p C c s h f=>(he p C c s h f).x) hs) fun σ H Q h=>comp_imp hcap hw ⟨loc,mh,h⟩
theorem ds_setComp {y:Str}{py spos:Pos}{wy:List Nat}{gy:GM}(hc:X.calm=true) (S:CompOk X scope) (hcap:CapOk X N' scope cs) (hw:∀ i∈ws,∀ j,cs[i]?≠some (some j)) (hit:DI X target iter mi)
  (hg:∀ pins C cells s₀ H₀ fp,DG (cxComp X pins N' scope C cells s₀ H₀ fp) target ws g)
  (hi:∀ pins C cells s₀ H₀ fp,DIf (cxComp X pins N' scope C cells s₀ H₀ fp) ifs tc)
  (he:∀ pins C cells s₀ H₀ fp,DE (cxComp X pins N' scope C cells s₀ H₀ fp) elt me) (hgy:DG X (.Name y py) wy gy)
  (hsw:swapsWith (.ListComp elt [⟨target,iter,ifs,0⟩] scope pos) (some (.Name y py)) spos.line X.env=pure true)
  (hs:∀ x,foldedSetIterable iter X.env x=pure x):DS X (.Assign [.Name y py] (.ListComp elt [⟨target,iter,ifs,0⟩] scope pos) spos) (asgS (compM mi cs g tc me) gy) :=
 PS_imp (ps_setComp (N':=N') (g:=tG X.K ws g) (tc:=tTx X.K tc) (te:=tDx X.K me) hc S hit.x (fun p C c s h f=>hg p C c s h f) (fun p C c s h f=>hi p C c s h f) (fun p C c s h f=>(he p C c s h f).x) hgy hsw hs) fun N σ H h=>comp_imp hcap hw (asgS_imp h)
end
noncomputable def spD (K:PySem.W.Frag) (n:Nat) (f:List D→MH→Option (D×MH)):Sp:=fun vs H Q _=>vs.length=n∧rDs K f vs H Q
section
variable {X:Cx}
theorem de_call {CX:CXT}{k:Nat}{fa:Addr}{fd:FuncData}{ps:List Str}{f:List D→MH→Option (D×MH)}{x:Str}{p pos:Pos}{a:Expr}{es:List Expr}{mr:DM (List D)}{E:XK}
  (F:FnOk X.prog X.w X.K X.mg X.base CX k fa fd ps (spD X.K ps.length f)) (hr:Room k X.A) (hg:Gl X x) (hm:X.mg x=some (.ref fa)) (hk:PySem.W.keepIn X.K (.ref fa)=true) (hb:Binds X.K fd ps []) (hx:Passes CX X E)
  (ha:DA X (a::es) mr) (hf:∀ ds mh r,f ds mh=some r→ds.length=ps.length) (hdb:(x==("__debug__":Str))=false) (he:starEach (a::es) X.env=(false,eval a X.env)::starEach es X.env) (hpl:(backTo pos (starEach es X.env)).any (·.1)=false) :
  DE X (.Call (.Name x p) (a::es) [] pos) (mr.bnd fun ds=>DM.lift (f ds)):=fun loc mh=>by
 refine PE_imp (pe_call F hr hg hm hk hb .nil hx (ha loc mh) hdb he hpl) ?_;rintro σ H Q ⟨ρ,d,mh',q,rl,rs,co⟩;obtain ⟨ds,m1,ea,q⟩:=bnd_some q;refine ⟨ρ,ds,m1,ea,rl,rs,fun H1 ρ1 vs e1 rs1 r1=>?_⟩;show spD X.K ps.length f (vs++[]) H1 Q E;rw [List.append_nil];exact ⟨by rw [← r1.length];exact hf _ _ _ q,ρ1,m1,ds,d,mh',q,rs1,r1,co.ev e1⟩
theorem de_call0 {CX:CXT}{k:Nat}{fa:Addr}{fd:FuncData}{f:List D→MH→Option (D×MH)}{x:Str}{p pos:Pos}{E:XK}
  (F:FnOk X.prog X.w X.K X.mg X.base CX k fa fd [] (spD X.K 0 f)) (hr:Room k X.A) (hg:Gl X x) (hm:X.mg x=some (.ref fa)) (hk:PySem.W.keepIn X.K (.ref fa)=true) (hb:Binds X.K fd [] []) (hx:Passes CX X E) (hdb:(x==("__debug__":Str))=false) :
  DE X (.Call (.Name x p) [] [] pos) (DM.lift (f [])):=fun loc mh=>by
 refine PE_imp (pe_call0 F hr hg hm hk hb .nil hx hdb) ?_;rintro σ H Q ⟨ρ,d,mh',q,rl,rs,co⟩;exact ⟨rfl,ρ,mh,[],d,mh',q,rs,.nil,co⟩
noncomputable def isiD (c:String) (x:D) (mh:MH):Option (D×MH):=match tyName x mh with
 | some t=>match isiB t c with
  | some b=>some (.bl b,mh)
  | none=>none
 | none=>none
theorem call_isi {c:String}(hc:c∈["bool", "int", "str", "tuple", "list", "dict"]):CallR X (.builtin "isinstance") (fun xs H Q=>∃ v,xs=[v,.ty c]∧rD1 X.K (isiD c) v H Q):=by
 rintro pins s σ H xs us Q I r ⟨v,e,ρ,mh,dx,d,mh',q,rs,rd,co⟩;subst e;obtain ⟨u,w',rfl,r1,r2⟩:=Vals.two r;cases (show w'=Value.type c from r2);unfold isiD at q;split at q
 ·rename_i t et;split at q
  ·rename_i b eb;cases q;have fin:∀ tk,EP X pins σ Q (.bool b) { s with toks:=tk }:=fun tk=>⟨.bl b,H,I.tok tk,rfl,co H ρ _ Ev.refl rs (.bl b)⟩
   cases rd with
   | non=>cases et;cases (show u=Value.none from r1);exact PySem.W.kia_one PySem.W.kitx_none I.kIn True.intro (isiB_ok (by decide) hc eb) (fun z=>nomatch z) fin
   | bl y=>cases et;cases (show u=Value.bool y from r1);exact PySem.W.kia_one PySem.W.kitx_bool I.kIn True.intro (isiB_ok (by decide) hc eb) (fun z=>nomatch z) fin
   | int i=>cases et;obtain ⟨t,q⟩:=(show ∃ t,u=Value.int i t from r1);cases q;exact PySem.W.kia_one PySem.W.kitx_int I.kIn True.intro (isiB_ok (by decide) hc eb) (fun z=>nomatch z) fin
   | str y=>cases et;obtain ⟨t,q⟩:=(show ∃ t,u=Value.str y t from r1);cases q;exact PySem.W.kia_one PySem.W.kitx_str I.kIn True.intro (isiB_ok (by decide) hc eb) (fun z=>nomatch z) fin
   | @tup ds a xs sq r =>
    cases et;cases (show u=Value.ref a from r1);obtain ⟨its,_,⟨o,h1,h2,_⟩,_⟩:=I.tuple sq;exact PySem.W.kia_one PySem.W.kitx_tuple I.kIn ⟨o,h1,h2⟩ (isiB_ok (by decide) hc eb) (fun z=>nomatch z) fin
   | obj n s l r=>cases et
   | @rol ds a xs sq r =>
    cases et;cases (show u=Value.ref a from r1);obtain ⟨its,_,⟨ob,n',h1,h2,_⟩,_⟩:=I.list sq.sq;exact PySem.W.kia_one PySem.W.kitx_list I.kIn ⟨ob,h1,h2⟩ (isiB_ok (by decide) hc eb) (fun z=>nomatch z) fin
   | @ref n a h =>
    have et:(match mh[n]? with | some (.lst _)=>some "list" | _=>none)=some t:=et;split at et
    ·rename_i o eo;cases et;cases (show u=Value.ref a from r1);obtain ⟨a',ha,ro⟩:=rs.at eo;rw [h] at ha;cases ha;obtain ⟨xs,sq,_⟩:=ro.read;obtain ⟨its,_,⟨ob,n',h1,h2,_⟩,_⟩:=I.list sq;exact PySem.W.kia_one PySem.W.kitx_list I.kIn ⟨ob,h1,h2⟩ (isiB_ok (by decide) hc eb) (fun z=>nomatch z) fin
    ·cases et
  ·cases q
 ·cases q
theorem de_isi {c:Str}{T:String}{p p2 pos:Pos}{a:Expr}{ma:DM D}(hT:T∈["bool", "int", "str", "tuple", "list", "dict"]) (hg:Gl X "isinstance") (hm:X.mg "isinstance"=none) (hg2:Gl X c) (hm2:X.mg c=none) (hv2:bootBuiltins c=some (.type T)) (hn2:c ≠ "__name__") (hd2:(c==("__debug__":Str))=false) (ha:DE X a ma)
  (he:starEach (a::[.Name c p2]) X.env=(false,eval a X.env)::starEach [.Name c p2] X.env):DE X (.Call (.Name "isinstance" p) [a,.Name c p2] [] pos) (ma.bnd fun x=>DM.lift (isiD T x)):=fun loc mh=>by
 refine PE_imp (pe_callB (call_isi hT) hg hm boot_isinstance (pa_cons (ha loc mh) (pa_cons (pe_bltn hg2 hm2 hv2 (v:=.ty T) rfl hn2 hd2) pa_nil) he) (by decide) (by decide) he) ?_;rintro σ H Q ⟨ρ,d,mh',q,rl,rs,co⟩;obtain ⟨x,m1,ea,q⟩:=bnd_some q;exact ⟨ρ,x,m1,ea,rl,rs,fun H1 ρ1 v e1 rs1 r1=>⟨v,rfl,ρ1,m1,x,d,mh',q,rs1,r1,co.ev e1⟩⟩
end
section
variable {X:Cx}{a b c e o:Expr}{ma mb mc mo:DM D}{pos:Pos}
noncomputable def dchain (f f':D→D→MH→Option (D×MH)) (ma mb mc:DM D):DM D:=ma.bnd fun x=>mb.bnd fun y=>(boolD (DM.lift (f x y))).bnd fun k=>if k=true then mc.bnd fun z=>DM.lift (f' y z) else DM.ret (.bl false)
theorem chain_imp {f f':D→D→MH→Option (D×MH)}{σ:St}{H:Hp}{Q:VK}(h:tDx X.K (dchain f f' ma mb mc) σ H Q):tChain (rD X.K f) (rD X.K f') (tDx X.K ma) (tDx X.K mb) (tDx X.K mc) σ H Q:=by
 obtain ⟨loc,mh,ρ,d,mh',q,rl,rs,co⟩:=h;obtain ⟨x,m1,ea,q⟩:=bnd_some q;obtain ⟨y,m2,eb,q⟩:=bnd_some q;obtain ⟨k,m3,ek,q⟩:=bnd_some q;have ek:=boolD_some ek;refine ⟨loc,mh,ρ,x,m1,ea,rl,rs,fun H1 ρ1 v1 e1 rs1 r1=>⟨loc,m1,ρ1,y,m2,eb,rl.mono e1,rs1,fun H2 ρ2 v2 e2 rs2 r2=>⟨ρ2,m2,x,y,.bl k,m3,ek,rs2,r1.mono e2,r2,fun H3 ρ3 v3 e3 rs3 r3=>?_⟩⟩⟩;cases r3;refine ⟨k,rfl,?_⟩;cases k with
 | true =>
  rw [if_pos rfl] at q;obtain ⟨z,m4,ec,q⟩:=bnd_some q;exact iteT ⟨loc,m3,ρ3,z,m4,ec,((rl.mono e1).mono e2).mono e3,rs3,fun H4 ρ4 v4 e4 rs4 r4=>⟨ρ4,m4,y,z,d,mh',q,rs4,(r2.mono e3).mono e4,r4,co.ev (e1.trans (e2.trans (e3.trans e4)))⟩⟩
 | false =>
  rw [if_neg Bool.false_ne_true] at q;cases q;exact iteF (co H3 ρ3 _ (e1.trans (e2.trans e3)) rs3 (.bl false))
theorem de_chain {op op':CmpOp}{f f':D→D→MH→Option (D×MH)}(ho:OpR X (compareOp op) (rD X.K f)) (ho':OpR X (compareOp op') (rD X.K f')) (hm:lastMarks [op,op'] [b,c]=false) (ha:DE X a ma) (hb:DE X b mb) (hc:DE X c mc) :
  DE X (.Compare a [op,op'] [b,c] pos) (dchain f f' ma mb mc):=fun loc mh=>PE_imp (pe_chain ho ho' ha.x hb.x hc.x hm) fun σ H Q h=>chain_imp ⟨loc,mh,h⟩
theorem dt_chain {op op':CmpOp}{f f':D→D→MH→Option (D×MH)}(ho:OpR X (compareOp op) (rD X.K f)) (ho':OpR X (compareOp op') (rD X.K f')) (hm:lastMarks [op,op'] [b,c]=false) (ha:DE X a ma) (hb:DE X b mb) (hc:DE X c mc) :
  DT X (.Compare a [op,op'] [b,c] pos) (boolD (dchain f f' ma mb mc)):=by
 refine fun loc mh=>PT_imp (pt_chain ho ho' ha.x hb.x hc.x hm) ?_
 rintro σ H Q ⟨ρ,k,mh',q,rl,rs,co⟩;have q:=boolD_some q;exact chain_imp ⟨loc,mh,ρ,_,_,q,rl,rs,fun H' ρ' v e' rs' r'=>by cases r';exact ⟨k,rfl,co H' ρ' e' rs'⟩⟩
noncomputable def rDM (K:PySem.W.Frag) (f:D→List D→MH→Option (D×MH)):V→List V→Hp→VK→Prop:=fun x xs H Q=>∃ ρ mh dx ds d mh',f dx ds mh=some (d,mh')∧RS K H ρ mh∧RD K H ρ dx x∧RDs K H ρ ds xs∧Co K H ρ mh' d Q
noncomputable def tyOk (T:String) (x:D) (mh:MH):Bool:=match x with
 | .str _=>T == "str"
 | .int _=>T == "int"
 | .ref n=>T == "list"&&(match mh[n]? with | some (.lst _)=>true | _=>false)
 | .tup _=>T == "tuple"
 | _=>false
theorem tyOk_V {K:PySem.W.Frag}{H:Hp}{ρ:List Addr}{mh:MH}{T:String}{x:D}{v:V}(rs:RS K H ρ mh) (r:RD K H ρ x v) (h:tyOk T x mh=true):tyV K T v H:=by
 cases r with
 | str z=>exact eq_of_beq h
 | int i=>exact eq_of_beq h
 | @ref n a hn =>
  have h:(T == "list"&&(match mh[n]? with | some (.lst _)=>true | _=>false))=true:=h;rw [Bool.and_eq_true] at h;obtain ⟨o,eo⟩:∃ o,mh[n]?=some (.lst o):=by
   have h:=h.2;split at h
   ·exact ⟨_,‹_›⟩
   ·cases h
  obtain ⟨a',ha,ro⟩:=rs.at eo;rw [hn] at ha;cases ha;obtain ⟨xs,sq,_⟩:=ro.read;exact .inl ⟨eq_of_beq h.1,xs,sq⟩
 | tup s r=>exact .inr (.inl ⟨eq_of_beq h,_,s⟩)
 | _=>cases h
noncomputable def methM (T:String) (f:D→List D→MH→Option (D×MH)) (mo:DM D) (mr:DM (List D)):DM D:=mo.bnd fun x=>fun loc mh=>if tyOk T x mh=true then (mr.bnd fun ds=>DM.lift (f x ds)) loc mh else none
theorem de_bm {T id:String}{name:Str}{apos:Pos}{es:List Expr}{mr:DM (List D)}{f:D→List D→MH→Option (D×MH)}(pa:PlainAttrs T) (slot:Slot T name id) (hty:typeOf (.builtin id)=pure (.type "method_descriptor")) (hm:MtR X id (rDM X.K f)) (ho:DE X o mo) (ha:DA X (a::es) mr)
  (hbase:attributeBase o name X.env (eval o X.env)=eval o X.env)
  (hfew:((backTo pos (starEach (a::es) X.env)).all (fun x=>!x.1)&&(backToKw pos (keywordEach [] X.env)).all (fun x=>x.1.isSome)
   && decide ((a::es).length+([]:List Keyword).length+(if ([]:List Keyword).isEmpty then 0 else 1) < 30))=true)
  (hline:(apos.endLine==pos.line)=true) (hs:starEach (a::es) X.env=(false,eval a X.env)::starEach es X.env) (hplain:(backTo pos (starEach es X.env)).any (·.1)=false) :
  DE X (.Call (.Attribute o name apos) (a::es) [] pos) (methM T f mo mr):=fun loc mh=>by
 cases eo:mo loc mh with
 | none =>
  have:methM T f mo mr loc mh=none:=by unfold methM DM.bnd;rw [eo]
  rw [this];exact PE_none
 | some p =>
  obtain ⟨x,m1⟩:=p;refine PE_imp (pe_bm pa slot hty hm (ho loc mh) (ha loc m1) hbase hfew hline hs hplain) ?_;rintro σ H Q ⟨ρ,d,mh',q,rl,rs,co⟩;obtain ⟨x',m1',eo',q⟩:=bnd_some q;rw [eo] at eo';cases eo';split at q
  ·rename_i ht;obtain ⟨ds,m2,er,q⟩:=bnd_some q;exact ⟨ρ,x,m1,eo,rl,rs,fun H1 ρ1 v e1 rs1 r1=>⟨tyOk_V rs1 r1 ht,ρ1,ds,m2,er,rl.mono e1,rs1,fun H2 ρ2 vs e2 rs2 r2=>⟨ρ2,m2,x,ds,d,mh',q,rs2,r1.mono e2,r2,co.ev (e1.trans e2)⟩⟩⟩
  ·cases q
theorem de_bm0 {T id:String}{name:Str}{apos:Pos}{f:D→List D→MH→Option (D×MH)}(pa:PlainAttrs T) (slot:Slot T name id) (hty:typeOf (.builtin id)=pure (.type "method_descriptor")) (hm:MtR X id (rDM X.K f)) (ho:DE X o mo)
  (hbase:attributeBase o name X.env (eval o X.env)=eval o X.env) (hline:(apos.endLine==pos.line)=true):DE X (.Call (.Attribute o name apos) [] [] pos) (methM T f mo (DM.ret [])):=fun loc mh=>by
 refine PE_imp (pe_bm0 pa slot hty hm (ho loc mh) hbase hline) ?_;rintro σ H Q ⟨ρ,d,mh',q,rl,rs,co⟩;obtain ⟨x,m1,eo,q⟩:=bnd_some q;split at q
 ·rename_i ht;exact ⟨ρ,x,m1,eo,rl,rs,fun H1 ρ1 v e1 rs1 r1=>⟨tyOk_V rs1 r1 ht,ρ1,m1,x,[],d,mh',q,rs1,r1,.nil,co.ev e1⟩⟩
 ·cases q
theorem MtR_imp {id:String}{r r':V→List V→Hp→VK→Prop}(h:MtR X id r) (i:∀ x xs H Q,r' x xs H Q→r x xs H Q):MtR X id r':=fun pins s σ H x xs v us Q I rx rs q=>h pins s σ H x xs v us Q I rx rs (i x xs H Q q)
noncomputable def appendD:D→List D→MH→Option (D×MH)
 | .ref n,[y],mh=>match mh[n]? with
  | some (.lst ds)=>if ds.length < sizeLine then some (.non,mh.set n (.lst (ds++[y]))) else none
  | _=>none
 | _,_,_=>none
theorem mt_appendD:MtR X "list.append" (rDM X.K appendD):=by
 refine MtR_imp mt_append ?_;rintro x xs H Q ⟨ρ,mh,dx,ds,d,mh',q,rs,rx,r,co⟩
 match ds,q with
 | [y],q =>
  obtain ⟨v,rfl,rv⟩:=rds1 r;cases rx with
  | @ref n a hn =>
   have q:(match mh[n]? with | some (.lst ds)=>if ds.length < sizeLine then some (D.non,mh.set n (.lst (ds++[y]))) else none | _=>none)=some (d,mh'):=q;split at q
   ·rename_i ds em;split at q
    ·rename_i hz;cases q;obtain ⟨a',ha,us,hu,ru⟩:=rs.at em;rw [hn] at ha;cases ha;exact ⟨a,us,v,rfl,rfl,hu,by rw [← ru.length];exact hz,co _ ρ _ (Ev.lst hu) (rs.setL hn hu (ru.append (.cons rv .nil))) .non⟩
    ·cases q
   ·cases q
  | _=>cases q
 | [],q=>cases dx <;> cases q
 | _::_::_,q=>cases dx <;> cases q
noncomputable def negD:D→MH→Option (D×MH)
 | .int i,mh=>some (.int (-i),mh)
 | _,_=>none
theorem un_negD:UnR X (unaryOp .USub) (rD1 X.K negD):=by
 rintro pins s σ H x v Q I rx ⟨ρ,mh,dx,d,mh',q,rs,r1,co⟩;cases r1 with
 | int i=>cases q;exact un_neg pins s σ H _ v Q I rx ⟨i,rfl,co H ρ _ Ev.refl rs (.int _)⟩
 | _=>cases q
end
noncomputable def Rise (xs:Array Nat):Prop:=xs.toList.Pairwise (· < ·)
theorem Rise.lt {xs:Array Nat}(h:Rise xs) {i j:Nat}{x y:Nat}(hij:i < j) (hx:xs[i]?=some x) (hy:xs[j]?=some y):x < y:=by
 obtain ⟨h1,rfl⟩:=Array.getElem?_eq_some_iff.mp hx;obtain ⟨h2,rfl⟩:=Array.getElem?_eq_some_iff.mp hy;have:=List.pairwise_iff_getElem.mp h i j (by simpa using h1) (by simpa using h2) hij
 simpa using this
structure Below (xs:Array Nat) (j p:Nat):Prop where
 le:p≤xs.size
 lo:∀ i x,i < p→xs[i]?=some x→x < j
 hi:∀ i x,p≤i→xs[i]?=some x→j≤x
theorem Below.same {xs:Array Nat}{j p q:Nat}(a:Below xs j p) (b:Below xs j q):p=q:=by
 rcases Nat.lt_trichotomy p q with h | h | h
 ·have:=b.le;have hp:p < xs.size:=by omega
  have:=b.lo p _ h (Array.getElem?_eq_getElem hp);have:=a.hi p _ (Nat.le_refl _) (Array.getElem?_eq_getElem hp);omega
 ·exact h
 ·have:=a.le;have hq:q < xs.size:=by omega
  have:=a.lo q _ h (Array.getElem?_eq_getElem hq);have:=b.hi q _ (Nat.le_refl _) (Array.getElem?_eq_getElem hq);omega
structure Good (b:Bool) (t:SetTable):Prop where
 led:t.led=b
 rise:t.plain=true→Rise t.place
theorem Good.stand {b:Bool}{t:SetTable}(h:Good b t) (n:Nat):Good b (t.standIn n):=⟨h.led,fun z=>by cases z⟩
section
variable {P:Program}{w:World}
structure SetD (P:Program) (w:World) (o:Obj) (es:Array (Int×Value)) (ep:Nat) (t:SetTable) (S:Int→Bool) (n:Nat):Prop where
 ex:o.ExactSet
 dt:o.data=.set es ep t
 el:ElemsOf (intKind P w) es.toList
 mem:∀ k,S k=true ↔ ∃ e∈es.toList,(intKind P w).is k e.2=true
 few:es.size < scanBound
 fit:t.fits es.size=true
 sz:es.size=n
 good:Good (!w.params.followText "set-order") t
noncomputable def SetG (P:Program) (w:World) (h:Heap) (a:Addr) (S:Int→Bool) (n:Nat):Prop:=∃ o es ep t,h.get? a=some o∧SetD P w o es ep t S n
theorem SetG.of {h:Heap}{a:Addr}{S:Int→Bool}{n:Nat}(g:SetG P w h a S n):h.SetOf (intKind P w) a S n:=by
 obtain ⟨o,es,ep,t,e,d⟩:=g;exact ⟨o,es,ep,t,e,d.ex,d.dt,d.el,d.mem,d.few,d.fit,d.sz⟩
theorem SetG.stay {h h':Heap}{a:Addr}{S:Int→Bool}{n:Nat}(g:SetG P w h a S n) (k:∀ o,h.get? a=some o→h'.get? a=some o):SetG P w h' a S n:=by
 obtain ⟨o,es,ep,t,e,d⟩:=g;exact ⟨o,es,ep,t,k o e,d⟩
theorem SetG.congr {h:Heap}{a:Addr}{S S':Int→Bool}{n n':Nat}(g:SetG P w h a S n) (e:∀ k,S k=S' k) (en:n=n'):SetG P w h a S' n':=by
 have:S=S':=funext e;subst this;subst en;exact g
variable {A:Around}{E:Value→Shared→Prop}{s:Shared}
end
section
variable {P:Program}{w:World}{A:Around}{R:Result→Shared→Prop}{I:Addr}{fp wr:List Addr}{G:Array GenState→Array GenState→Prop}{n:Nat}{V:Nat→Value→Prop}{T:Nat→Shared→Prop}
end
section
variable {P:Program}{w:World}{A:Around}{E:Value→Shared→Prop}{s:Shared}
end
section
variable {P:Program}{w:World}{A:Around}{E:Value→Shared→Prop}{s:Shared}
noncomputable def metOf (ns:List Int):List Int:=firstMet (fun i=>ns.getD i 0) ns.length
end
section
variable {P:Program}{w:World}{A:Around}{E:Value→Shared→Prop}{s:Shared}
end
theorem perm_erase {α:Type}:∀ {l:List α}{i:Nat}(h:i < l.length),List.Perm (l[i]::l.eraseIdx i) l
 | a::r,0,_=>.refl _
 | a::r,i+1,h=>by
  have hi:i < r.length:=by simpa using h
  have:=perm_erase (l:=r) (i:=i) hi;show List.Perm (r[i]::a::r.eraseIdx i) (a::r);exact (List.Perm.swap _ _ _).trans (this.cons a)
theorem pick_go {α:Type}(nx:Nat→Nat):∀ (fuel k:Nat) (left:List α) (out:Array α),left.length=fuel→List.Perm (pickOrder.go nx fuel k left out).toList (out.toList++left)
 | 0,k,left,out,h=>by
  have:left=[]:=List.length_eq_zero_iff.mp h;subst this;unfold pickOrder.go;rw [List.append_nil]
 | fuel+1,k,left,out,h=>by
  unfold pickOrder.go;have hl:nx k % left.length < left.length:=Nat.mod_lt _ (by omega);rw [List.getElem?_eq_getElem hl];dsimp only;refine (pick_go nx fuel _ _ _ (by rw [List.length_eraseIdx,if_pos hl];omega)).trans ?_;rw [Array.toList_push,List.append_assoc]
  exact List.Perm.append_left _ (by
   show List.Perm (left[nx k % left.length]::left.eraseIdx (nx k % left.length)) left
   exact perm_erase hl)
theorem pick_perm {α:Type}(nx:Nat→Nat) (xs:Array α):List.Perm (pickOrder nx xs).toList xs.toList:=by
 unfold pickOrder
 simpa using pick_go nx xs.size 0 xs.toList #[] (by simp)
section
variable {P:Program}{w:World}{A:Around}{E:Value→Shared→Prop}
end
inductive Mode where
 | txt | slt | drw (tp:Addr) (pl:List Nat)
noncomputable def Mode.first (t:SetTable):Mode→Nat→Value
 | .txt,_=>.int 0 0
 | .slt,0=>.int 0 0
 | .slt,i+1=>.int ((t.place.getD i 0+1:Nat):Int) 0
 | .drw tp _,_=>.ref tp
noncomputable def Mode.ord (w:World) (a:Addr) (es:Array (Int×Value)) (ep:Nat):Mode→List Value
 | .txt=>(pickOrder (w.params.setOrder a ep) es).toList.map (·.2)
 | .slt=>es.toList.map (·.2)
 | .drw _ pl=>pl.filterMap fun p=>(es[p]?).map (·.2)
noncomputable def Mode.ok (w:World) (es:Array (Int×Value)) (t:SetTable):Mode→Heap→Prop
 | .txt,_=>w.params.followText "set-order"=true
 | .slt,_=>w.params.followText "set-order"=false∧(t.plain=true∨es.size≤1)
 | .drw tp pl,h=>w.params.followText "set-order"=false∧pl.Perm (List.range es.size)∧∃ n,h.get? tp=some { cls:=.type "tuple",data:=.seq (pl.map fun (p:Nat)=>rawInt (p:Int)).toArray n }
theorem Mode.perm {w:World}{a:Addr}{es:Array (Int×Value)}{ep:Nat}{t:SetTable}{m:Mode}{h:Heap}(k:m.ok w es t h):List.Perm (m.ord w a es ep) (es.toList.map (·.2)):=by
 cases m with
 | txt=>exact (pick_perm _ _).map _
 | slt=>exact .refl _
 | drw tp pl =>
  obtain ⟨_,hp,_⟩:=k;refine (hp.filterMap _).trans ?_;have:=congrArg (List.map (fun x:Int×Value=>x.2)) (filterMap_getElem?_range es);rw [List.map_filterMap] at this;rw [← this]
noncomputable abbrev itRec (f:Value) (i:Nat) (a:Addr) (n ep:Nat):Obj:={ cls:=.type "set_iterator",data:=.fields #[f,.int i 0,.ref a,.int n 0,.int ep 0] }
namespace SI
end SI
section
variable {P:Program}{w:World}{A:Around}{E:Value→Shared→Prop}{s:Shared}{a I:Addr}{o:Obj}{es:Array (Int×Value)}{ep n:Nat}{t:SetTable}{S:Int→Bool}
structure SetSt (w:World) (o:Obj) (es:Array (Int×Value)) (ep:Nat) (t:SetTable) (a I:Addr) (m:Mode) (i:Nat) (h:Heap):Prop where
 it:h.get? I=some (itRec (m.first t i) i a es.size ep)
 st:h.get? a=some o
 ok:m.ok w es t h
end
section
variable {P:Program}{w:World}{A:Around}{E:Value→Shared→Prop}{s:Shared}{a I:Addr}{o:Obj}{es:Array (Int×Value)}{ep n:Nat}{t:SetTable}{S:Int→Bool}
noncomputable def Mode.fp:Mode→List Addr
 | .drw tp _=>[tp]
 | _=>[]
end
noncomputable def sortU (ns:List Int):List Int:=(metOf ns).mergeSort fun a b=>decide (a≤b)
theorem sort_one {l l':List Int}(p:l.Perm l') (h:l.Pairwise (·≤·)) (h':l'.Pairwise (·≤·)):l=l':=p.eq_of_pairwise (le:=(·≤·)) (fun a b _ _ x y=>Int.le_antisymm x y) h h'
theorem vals_ints:∀ {us:List Value}{ns:List Int},IntsAre us ns→Vals (ns.map V.int) us
 | _,_,.nil=>.nil
 | _,_,.cons n t h=>.cons ⟨t,rfl⟩ (vals_ints h)
noncomputable abbrev memS (ns:List Int):Int→Bool:=fun j=>(metOf ns).any (·==j)
section
variable {X:Cx}
noncomputable def SetO (P:Program) (w:World) (a:Addr) (ns:List Int):HO:=.ext fun h=>SetG P w h a (memS ns) (metOf ns).length
end
section
variable {P:Program}{w:World}{A:Around}{E:Value→Shared→Prop}{s:Shared}{a b:Addr}{o o':Obj}{es es':Array (Int×Value)}{ep n ep' n':Nat}{t t':SetTable}{S S':Int→Bool}
end
noncomputable def setEq (ns ms:List Int):Bool:=ns.all (fun k=>ms.contains k)&&ms.all fun k=>ns.contains k
noncomputable def intsOf:List D→Option (List Int)
 | []=>some []
 | .int i::r=>match intsOf r with
  | some l=>some (i::l)
  | none=>none
 | _=>none
noncomputable def intsD:D→MH→Option (List Int)
 | .ref n,mh=>match mh[n]? with
  | some (.lst o)=>intsOf o
  | _=>none
 | .rol ds,_=>intsOf ds
 | .tup ds,_=>intsOf ds
 | _,_=>none
theorem intsOf_map:∀ (ns:List Int),intsOf (ns.map D.int)=some ns
 | []=>rfl
 | n::r=>by
  show (match intsOf (r.map D.int) with | some l=>some (n::l) | none=>none)=_;rw [intsOf_map r]
theorem intsOf_some:∀ {ds:List D}{ns:List Int},intsOf ds=some ns→ds=ns.map D.int
 | [],ns,h=>by cases h;rfl
 | d::r,ns,h=>by
  cases d with
  | int i =>
   have h:(match intsOf r with | some l=>some (i::l) | none=>none)=some ns:=h;split at h
   ·rename_i l e;cases h;rw [intsOf_some e];rfl
   ·cases h
  | _=>cases h
section
variable {K:PySem.W.Frag}{H:Hp}{ρ:List Addr}{mh:MH}
theorem rds_ints {ns:List Int}{vs:List V}(h:RDs K H ρ (ns.map D.int) vs):vs=ns.map V.int:=by
 induction ns generalizing vs with
 | nil=>cases h;rfl
 | cons n r ih =>
  cases h with
  | cons a t=>cases a;rw [ih t];rfl
end
noncomputable def lenSetD (x:D) (mh:MH):Option (D×MH):=match intsD x mh with
 | some ns=>if ns.length < 4000 then some (.int (metOf ns).length,mh) else none
 | none=>none
noncomputable def sortSetD (x:D) (mh:MH):Option (D×MH):=match intsD x mh with
 | some ns=>if ns.length < 4000 then (if (metOf ns).length < 64 then some (.ref mh.length,mh++[.lst ((sortU ns).map D.int)]) else none) else none
 | none=>none
noncomputable def setEqD (x y:D) (mh:MH):Option (D×MH):=match intsD x mh,intsD y mh with
 | some ns,some ms=>if ns.length < 4000∧ms.length < 4000 then some (.bl (setEq ns ms),mh) else none
 | _,_=>none
section
variable {X:Cx}{a:Expr}{ma:DM D}{p p2 pos pos2:Pos}
noncomputable def setEqM (mx my:DM D):DM D:=mx.bnd fun x=>my.bnd fun y=>DM.lift (setEqD x y)
end
section
variable {X:Cx}{pins:List (Addr×Obj)}{σ:L2.St}{H:Hp}{s:Shared}
theorem walk_seq (I:Inv X pins σ H s) {A:Around}(hh:A.handled=none) {p:Addr}{ys:List V}(hq:SqL X.K H p ys∨SqT X.K H p ys) {Q:Value→Shared→Prop}{E:Value→Shared→Prop}
  (h:∀ (its:List Value) (St:Nat→Heap→Prop) (h2:Heap),Vals ys its→Walks X.prog X.w A s.heap.objs.size [s.heap.objs.size,p] [s.heap.objs.size] its.length (fun i v=>its[i]?=some v) St→St 0 h2 →
   (∀ b∈[s.heap.objs.size,p],b < h2.objs.size)→(∀ b o,s.heap.get? b=some o→h2.get? b=some o)→Q (.ref s.heap.objs.size) { s with heap:=h2 }) :
  wpAny (model X.prog X.w) A (pyIter (.ref p)) Q E s:=by
 rcases hq with hq | hq
 ·obtain ⟨its,rv,pl,hz⟩:=I.list hq;have hlt:p < s.heap.objs.size:=by obtain ⟨_,_,e,_⟩:=pl;exact Heap.lt_size e
  refine wpAny_pyIter_list pl.isList ?_;have W:=Walks.list (prog:=X.prog) (w:=X.w) hh s.heap.objs.size p (Nat.ne_of_lt hlt) its.toArray;refine h its (fun i h=>h.IsListIter s.heap.objs.size p i∧h.IsList p its.toArray) _ rv (by simpa using W) ⟨⟨_,Heap.get?_push_size _ rfl,rfl,rfl⟩,pl.isList.push _⟩ (fun b hb=>?_) fun b o e=>Heap.get?_push_of_some _ e
  rw [Heap.size_push];simp at hb;rcases hb with e | e
  ·rw [e];exact Nat.lt_succ_self _
  ·rw [e];exact Nat.lt_succ_of_lt hlt
 ·obtain ⟨its,rv,pl,hz⟩:=I.tuple hq;have pl:s.heap.IsTuple p its.toArray:=pl;have hlt:p < s.heap.objs.size:=by obtain ⟨_,e,_⟩:=id pl;exact Heap.lt_size e
  refine wpAny_pyIter_tuple pl ?_;have W:=Walks.tuple (prog:=X.prog) (w:=X.w) hh s.heap.objs.size p (Nat.ne_of_lt hlt) its.toArray;refine h its (fun i h=>h.IsTupleIter s.heap.objs.size p i∧h.IsTuple p its.toArray) _ rv (by simpa using W) ⟨⟨_,Heap.get?_push_size _ rfl,rfl,rfl⟩,pl.push _⟩ (fun b hb=>?_) fun b o e=>Heap.get?_push_of_some _ e
  rw [Heap.size_push];simp at hb;rcases hb with e | e
  ·rw [e];exact Nat.lt_succ_self _
  ·rw [e];exact Nat.lt_succ_of_lt hlt
theorem kept_new {h2 h':Heap}(hk:∀ b o,b ∉ [s.heap.objs.size]→h2.get? b=some o→h'.get? b=some o) (h1:∀ b o,s.heap.get? b=some o→h2.get? b=some o):∀ b o,s.heap.get? b=some o→h'.get? b=some o :=
 fun b o e=>hk b o (fun hm=>by rw [List.mem_singleton.mp hm] at e;exact Nat.lt_irrefl _ (Heap.lt_size e)) (h1 b o e)
end
theorem vals_int:∀ {ns:List Int}{its:List Value}{i:Nat}{v:Value},Vals (ns.map V.int) its→its[i]?=some v→∃ n t,ns[i]?=some n∧v=.int n t
 | [],_,_,_,.nil,e=>by simp at e
 | n::r,_,0,_,.cons h t,e=>by
  obtain ⟨k,rfl⟩:=h;cases e;exact ⟨n,k,rfl,rfl⟩
 | n::r,_,i+1,_,.cons h t,e=>by
  obtain ⟨m,k,h1,h2⟩:=vals_int (i:=i) t (by simpa using e);exact ⟨m,k,by simpa using h1,h2⟩
section
variable {X:Cx}
end
noncomputable def maxI:Int→List Int→Int
 | m,[]=>m
 | m,x::r=>maxI (if m < x then x else m) r
noncomputable def minI:Int→List Int→Int
 | m,[]=>m
 | m,x::r=>minI (if x < m then x else m) r
theorem argBest_fold (bt:Nat→Nat→Bool) (f:Int→List Int→Int) (ns:List Int) (b:Int→Int→Bool) (hb:∀ i j x y,ns[i]?=some x→ns[j]?=some y→bt i j=b x y) (f0:∀ m,f m []=m) (f1:∀ m l x,f m (l++[x])=if b x (f m l)=true then x else f m l) :
  ∀ (k:Nat) (h:k < ns.length),∀ m r,ns=m::r→ns[argBest bt k]?=some (f m (r.take k))
 | 0,h,m,r,e=>by
  subst e;simp [argBest,f0]
 | k+1,h,m,r,e=>by
  have ih:=argBest_fold bt f ns b hb f0 f1 k (by omega) m r e;have hk:k < r.length:=by rw [e,List.length_cons] at h;omega
  have e1:ns[k+1]?=some r[k]:=by rw [e,List.getElem?_cons_succ,List.getElem?_eq_getElem hk]
  have e2:r.take (k+1)=r.take k++[r[k]]:=by rw [List.take_add_one,List.getElem?_eq_getElem hk];rfl
  have e3:=hb (k+1) (argBest bt k) _ _ e1 ih;rw [e2,f1];unfold argBest;rw [e3];split
  ·exact e1
  ·exact ih
theorem maxI_snoc:∀ (l:List Int) (m x:Int),maxI m (l++[x])=if decide (maxI m l < x)=true then x else maxI m l
 | [],m,x=>by by_cases h:m < x <;> simp [maxI,h]
 | y::l,m,x=>by
  show maxI _ (l++[x])=_;rw [maxI_snoc l];rfl
theorem minI_snoc:∀ (l:List Int) (m x:Int),minI m (l++[x])=if decide (x < minI m l)=true then x else minI m l
 | [],m,x=>by by_cases h:x < m <;> simp [minI,h]
 | y::l,m,x=>by
  show minI _ (l++[x])=_;rw [minI_snoc l];rfl
noncomputable def bestFn (f:Int→List Int→Int):List D→MH→Option (D×MH)
 | [x],mh=>match seqD x mh with
  | some ds=>match intsOf ds with
   | some (n::r)=>some (.int (f n r),mh)
   | _=>none
  | none=>none
 | _,_=>none
theorem bestFn_some {f:Int→List Int→Int}{ds:List D}{mh mh':MH}{d:D}(h:bestFn f ds mh=some (d,mh')):∃ x n r,ds=[x]∧seqD x mh=some ((n::r).map D.int)∧d=.int (f n r)∧mh'=mh:=by
 match ds,h with
 | [x],h =>
  have h:(match seqD x mh with | some ds=>(match intsOf ds with | some (n::r)=>some (D.int (f n r),mh) | _=>none) | none=>none)=some (d,mh'):=h;split at h
  ·rename_i es e;split at h
   ·rename_i n r eb;cases h;rw [intsOf_some eb] at e;exact ⟨x,n,r,rfl,e,rfl,rfl⟩
   ·cases h
  ·cases h
 | [],h=>cases h
 | _::_::_,h=>cases h
noncomputable def maxD:List D→MH→Option (D×MH):=bestFn maxI
noncomputable def minD:List D→MH→Option (D×MH):=bestFn minI
section
variable {X:Cx}
theorem best_at (hc:X.calm=true) {id:String}{f:Int→List Int→Int}{op:CmpOp}{b:Int→Int→Bool}(f0:∀ m,f m []=m) (f1:∀ m l x,f m (l++[x])=if b x (f m l)=true then x else f m l)
  (cmp:∀ {A:Around} {x y:Int} {t u:Tok} {Q:Value→Shared→Prop} {E:Value→Shared→Prop} {s:Shared},Q (.bool (b x y)) s→wpAny (model X.prog X.w) A (richCompare op (.int x t) (.int y u)) Q E s)
  (call_w:∀ {A:Around} {x:Value} {Q:Value→Shared→Prop} {E:Value→Shared→Prop} {s:Shared},wpAny (model X.prog X.w) A.in1 (pyIter x) (fun it s₂=>∃ I fp wr n P St bt,it=.ref I∧Walks X.prog X.w A.in1 I fp wr n P St∧St 0 s₂.heap∧(∀ b∈fp,b < s₂.heap.objs.size)∧0 < n∧CmpOf X.prog X.w A.in1 op P bt ∧
   ∀ v h' tk,P (argBest bt (n - 1)) v→(∀ b o,b ∉ wr→s₂.heap.get? b=some o→h'.get? b=some o)→Q v { s₂ with heap:=h',toks:=tk }) E s→wpAny (model X.prog X.w) A (call (.builtin id) [x]) Q E s) :
  CallR X (.builtin id) (rDs X.K (bestFn f)):=by
 rintro pins s σ H xs us Q I r ⟨ρ,mh,ds,d,mh',q,rs,rd,co⟩;obtain ⟨x,n,l,rfl,e,rfl,rfl⟩:=bestFn_some q;obtain ⟨v,rfl,rx⟩:=rds1 rd;obtain ⟨u,rfl,ru⟩:=vals1 r;obtain ⟨p,ys,rfl,hq,ry⟩:=seqD_ok rs rx e;cases ru;rw [rds_ints ry] at hq;refine call_w (walk_seq I (A:=X.A.in1) (I.ok.hd hc) hq fun its St h2 rv W st hfp hk=>?_);have hlen:(n::l).length=its.length:=by have:=rv.length;simpa using this
 refine ⟨_,_,_,its.length,_,St,fun i j=>(match (n::l)[i]?,(n::l)[j]? with | some x,some y=>b x y | _,_=>false),rfl,W,st,hfp,by rw [← hlen];simp,fun i j vi vj s' Q' E' hi hj hQ=>?_,fun v h' tk hP hk'=>?_⟩
 ·obtain ⟨a,t,e1,rfl⟩:=vals_int rv hi;obtain ⟨a',t',e2,rfl⟩:=vals_int rv hj;simp only [e1,e2] at hQ;exact cmp hQ
 ·have ar:=argBest_fold (fun i j=>(match (n::l)[i]?,(n::l)[j]? with | some x,some y=>b x y | _,_=>false)) f (n::l) b (fun i j x y e1 e2=>by simp only [e1,e2]) f0 f1 (its.length - 1) (by rw [hlen];simp at hlen;omega) n l rfl;obtain ⟨a,t,e1,rfl⟩:=vals_int rv hP;rw [ar] at e1;have e3:l.take (its.length - 1)=l:=List.take_of_length_le (by rw [← hlen];simp);rw [e3] at e1;cases e1;exact ⟨.int _,H,I.kept (t':=tk) (kept_new hk' hk),⟨t,rfl⟩,co H ρ _ Ev.refl rs (.int _)⟩
end
section
variable {X:Cx}
theorem call_maxD (hc:X.calm=true):CallR X (.builtin "max") (rDs X.K maxD):=best_at (op:=.Gt) (b:=fun x m=>decide (m < x)) hc (fun _=>rfl) (fun m l x=>maxI_snoc l m x) (fun h=>PyProof.Rows.gt_int h) fun h=>call_max_walk h
theorem call_minD (hc:X.calm=true):CallR X (.builtin "min") (rDs X.K minD):=best_at (op:=.Lt) (b:=fun x m=>decide (x < m)) hc (fun _=>rfl) (fun m l x=>minI_snoc l m x) (fun h=>PyProof.Rows.lt_int h) fun h=>call_min_walk h
noncomputable def popAtD:D→List D→MH→Option (D×MH)
 | .ref n,[.int i],mh=>match mh[n]? with
  | some (.lst ds)=>if -(2 ^ 63)≤i∧i < 2 ^ 63 then (match ixN ds.length i with
   | some k=>(match ds[k]? with | some y=>some (y,mh.set n (.lst (ds.eraseIdx k))) | none=>none)
   | none=>none) else none
  | _=>none
 | _,_,_=>none
theorem RDs.eraseIdx {K:PySem.W.Frag}{H:Hp}{ρ:List Addr}:∀ {ds:List D}{vs:List V}(n:Nat),RDs K H ρ ds vs→RDs K H ρ (ds.eraseIdx n) (vs.eraseIdx n)
 | _,_,_,.nil=>.nil
 | _,_,0,.cons _ t=>t
 | _,_,n+1,.cons r t=>.cons r (RDs.eraseIdx n t)
theorem RDs.dropLast {K:PySem.W.Frag}{H:Hp}{ρ:List Addr}:∀ {ds:List D}{vs:List V},RDs K H ρ ds vs→RDs K H ρ ds.dropLast vs.dropLast
 | _,_,.nil=>.nil
 | _,_,.cons _ .nil=>.nil
 | _,_,.cons r (.cons r2 t)=>.cons r (RDs.dropLast (.cons r2 t))
theorem mt_popAtD:MtR X "list.pop" (rDM X.K popAtD):=by
 refine MtR_imp mt_popAt ?_;rintro x xs H Q ⟨ρ,mh,dx,ds,d,mh',q,rs,rx,r,co⟩
 match ds,q with
 | [.int i],q =>
  obtain ⟨v,rfl,rv⟩:=rds1 r;cases rv;cases rx with
  | @ref n a hn =>
   simp only [popAtD] at q;split at q
   ·rename_i ds em;split at q
    ·rename_i hb;split at q
     ·rename_i k ek;split at q
      ·rename_i y ey;cases q;obtain ⟨a',ha,us,hu,ru⟩:=rs.at em;rw [hn] at ha;cases ha;obtain ⟨w',hw,rw'⟩:=ru.get ey;refine ⟨a,us,i,k,w',rfl,rfl,hu,hb.1,hb.2,?_,hw,?_⟩
       ·rw [← ru.length];exact (ixN_seq ek).1
       ·exact co _ ρ _ (Ev.lst hu) (rs.setL hn hu (ru.eraseIdx k)) (rw'.mono (Ev.lst hu))
      ·cases q
     ·cases q
    ·cases q
   ·cases q
  | _=>cases q
 | [],q=>cases dx <;> cases q
 | .non::_,q=>cases dx <;> simp [popAtD] at q
 | .bl _::_,q=>cases dx <;> simp [popAtD] at q
 | .str _::_,q=>cases dx <;> simp [popAtD] at q
 | .tup _::_,q=>cases dx <;> simp [popAtD] at q
 | .ref _::_,q=>cases dx <;> simp [popAtD] at q
 | .rol _::_,q=>cases dx <;> simp [popAtD] at q
 | .obj ..::_,q=>cases dx <;> simp [popAtD] at q
 | .int _::_::_,q=>cases dx <;> simp [popAtD] at q
end
section
variable {X:Cx}{pins:List (Addr×Obj)}{σ:L2.St}{H:Hp}{s:Shared}{fp:List Addr}{h':Heap}
theorem inv_turns {t':Nat}(I:Inv X pins σ H s) (k:∀ b o,b ∉ fp→s.heap.get? b=some o→h'.get? b=some o) (hf:∀ b∈fp,FpOk X pins H b):Inv X pins σ H { s with heap:=h',toks:=t' }:=by
 have nf:∀ b u,H b=some u→b ∉ fp:=fun b u e z=>by rw [(hf b z).1] at e;cases e
 refine I.step (g':=s.gens) (d':=s.drawn) (ch:=fp) (fun b hb=>⟨(hf b hb).2.2.2.1,(hf b hb).2.1,(hf b hb).2.2.2.2.1,(hf b hb).2.2.2.2.2⟩) (fun b o _ _ hc e _=>k b o hc e) (fun b o _ _ hc e _=>⟨o.slots,k b o hc e⟩) (fun _ _ _ _ n=>n)
  (fun b o hc e=>⟨o,k b o hc e⟩) (fun _ _ e=>e) (fun _ _ _ e=>e) (fun b ps e=>⟨#[],by rw [e];simp⟩) (fun m hm=>?_) (fun b u e=>?_) I.bare
 ·obtain ⟨o,es,ep,ho,r⟩:=hm;exact ⟨o,es,ep,k _ o (fun z=>(hf _ z).2.1 rfl) ho,r⟩
 ·refine (I.hok b u e).stay (fun c v hc q=>k c v ?_ q) (fun _ q=>q) fun _ _ q=>q
  rcases hc with z | z
  ·rw [z];exact nf b u e
  ·exact nf c _ z
theorem inv_turns_new {t':Nat}{a:Addr}{o:HO}(I:Inv X pins σ H s) (k:∀ b o,b ∉ fp→s.heap.get? b=some o→h'.get? b=some o) (hf:∀ b∈fp,FpOk X pins H b) (hp:s.heap.objs.size≤a) (new:ObjOk X.prog X.w (upd H a o) h' a o) :
  Inv X pins σ (upd H a o) { s with heap:=h',toks:=t' }:=by
 have hn:H a=none:=I.hok.fresh hp;have nb:∀ b u,H b=some u→upd H a o b=some u:=fun b u e=>by rw [upd_ne (ne_of_none e hn)];exact e
 have nf:∀ b u,H b=some u→b ∉ fp:=fun b u e z=>by rw [(hf b z).1] at e;cases e
 refine I.step (g':=s.gens) (d':=s.drawn) (ch:=fp) (fun b hb=>⟨(hf b hb).2.2.2.1,(hf b hb).2.1,(hf b hb).2.2.2.2.1,(hf b hb).2.2.2.2.2⟩) (fun b o _ _ hc e _=>k b o hc e) (fun b o _ _ hc e _=>⟨o.slots,k b o hc e⟩) (fun b o' hc e n=>?_)
  (fun b o hc e=>⟨o,k b o hc e⟩) (fun b xs e=>nb _ _ e) (fun b o u e=>nb _ _ e) (fun b ps e=>⟨#[],by rw [nb _ _ e];simp⟩) (fun m hm=>?_) (fun b u e=>?_) I.bare
 ·rw [upd_ne (Nat.ne_of_lt (Nat.lt_of_lt_of_le (Heap.lt_size e) hp))];exact n
 ·obtain ⟨o,es,ep,ho,r⟩:=hm;exact ⟨o,es,ep,k _ o (fun z=>(hf _ z).2.1 rfl) ho,r⟩
 ·by_cases hb:b=a
  ·subst hb;rw [upd_same] at e;cases e;exact new
  ·rw [upd_ne hb] at e;refine (I.hok b u e).stay (fun c v hc q=>k c v ?_ q) (fun c q=>nb _ _ q) fun c xs q=>nb _ _ q
   rcases hc with z | z
   ·rw [z];exact nf b u e
   ·exact nf c _ z
end
section
variable {prog:Program}{w:World}{A:Around}{E:Value→Shared→Prop}{s:Shared}
theorem tup_next {it l:Addr}{i:Nat}{items:Array Value}{x:Value}{Q:Value→Shared→Prop}(hit:s.heap.IsTupleIter it l i) (hl:s.heap.IsTuple l items) (hx:items[i]?=some x)
  (hQ:∀ h',h'.IsTupleIter it l (i+1)→Heap.SameBut it s.heap h'→Q x { s with heap:=h' }):wpAny (model prog w) A (Builtin.SmallTypes.nextOf (.ref it)) Q E s:=by
 obtain ⟨o,ho,hc,hd⟩:=id hit;obtain ⟨ol,hol,_,nl,hdl⟩:=hl;unfold Builtin.SmallTypes.nextOf
 refine wpAny_bind (wpAny_callSpecial?_slot (name:=Str.ofString "__next__") hit.typeIs F.slot_tuple_iterator_next (wpAny_call_entry F.slot_tuple_iterator_next hit.typeIs F.entry_tuple_iterator_next ?_ (F.args_tuple_iterator_next_1 _)));show wpAny _ _ (field (.ref it) 0 >>= _) _ _ s;refine wpAny_bind (wpAny_field ho hd (x:=.ref l) rfl ?_);show wpAny _ _ (if (Value.ref l==Value.none)=true then _ else _) _ _ s;rw [if_neg (show ¬ ((Value.ref l==Value.none)=true) from Bool.false_ne_true)];show wpAny _ _ (field (.ref it) 1 >>= _) _ _ s;refine wpAny_bind (wpAny_field ho hd (x:=.int i 0) rfl ?_);show wpAny _ _ (seqItems? (.ref l) >>= _) _ _ s;refine wpAny_bind (wpAny_seqItems hol hdl ?_);simp only [Int.toNat_natCast,hx];refine wpAny_bind (wpAny_setField ho hd (by simp) (wpAny_pure ⟨x,rfl,wpAny_pure (hQ _ ⟨_,Heap.get?_update_self _ ho (Obj.isFreed_of_fields (Obj.data_mapFields hd _)),(Obj.cls_mapFields ..).trans hc,?_⟩ (Heap.SameBut.update ..))⟩));rw [Obj.data_mapFields hd];simp [rawInt]
theorem tup_stop {it l:Addr}{i:Nat}{items:Array Value}{Q:Value→Shared→Prop}(hh:A.handled=none) (hit:s.heap.IsTupleIter it l i) (hl:s.heap.IsTuple l items) (hx:items[i]?=none)
  (hE:∀ h' e,Heap.ExtBut it s.heap h'→(∃ o,h'.get? e=some o∧o.cls=.type "StopIteration")→E (.ref e) { s with heap:=h' }):wpAny (model prog w) A (Builtin.SmallTypes.nextOf (.ref it)) Q E s:=by
 obtain ⟨o,ho,hc,hd⟩:=id hit;obtain ⟨ol,hol,_,nl,hdl⟩:=hl;unfold Builtin.SmallTypes.nextOf
 refine wpAny_bind (wpAny_callSpecial?_slot (name:=Str.ofString "__next__") hit.typeIs F.slot_tuple_iterator_next (wpAny_call_entry F.slot_tuple_iterator_next hit.typeIs F.entry_tuple_iterator_next ?_ (F.args_tuple_iterator_next_1 _)));show wpAny _ _ (field (.ref it) 0 >>= _) _ _ s;refine wpAny_bind (wpAny_field ho hd (x:=.ref l) rfl ?_);show wpAny _ _ (if (Value.ref l==Value.none)=true then _ else _) _ _ s;rw [if_neg (show ¬ ((Value.ref l==Value.none)=true) from Bool.false_ne_true)];show wpAny _ _ (field (.ref it) 1 >>= _) _ _ s;refine wpAny_bind (wpAny_field ho hd (x:=.int i 0) rfl ?_);show wpAny _ _ (seqItems? (.ref l) >>= _) _ _ s;refine wpAny_bind (wpAny_seqItems hol hdl ?_);simp only [Int.toNat_natCast,hx]
 refine wpAny_bind (wpAny_rule (wpAny_bind (wpAny_setField ho hd (by simp) ?_)));show wpAny _ _ (newExc (.type "StopIteration") [] >>= _) _ _ _;refine wpAny_bind ?_;simp only [newExc,newTuple];refine wpAny_bind (wpAny_newObj_type ?_ (by size_fits));refine wpAny_bind (m:=firstArgMember _ _) (wpAny_of_eq (a:=Value.none) (by first | rfl | (simp only [firstArgMember];rfl)) ?_);refine wpAny_newObj_type ?_ (by size_fits);simp only [raiseNew];refine wpAny_bind (wpAny_handled ?_);first | rw [show A.in1.handled=none from hh] | rw [hh]
 refine wpAny_bind (wpAny_pure (wpAny_throw (hE _ _ (((Heap.SameBut.update ..).extBut.push _).push _) ⟨_,Heap.get?_push_size _ rfl,rfl⟩)))
theorem tup_draws (hh:A.handled=none) (it l:Addr) (hne:l≠it) (items:Array Value):Draws prog w A it [it,l] items.size (fun i v=>items[i]?=some v) (fun i h=>h.IsTupleIter it l i∧h.IsTuple l items) where
 live:=fun _ _ st=>let ⟨o,ho,_⟩:=st.1;⟨o,ho⟩
 frame:=fun _ _ _ st hk=>⟨let ⟨o,ho,r⟩:=st.1;⟨o,hk it (by simp) o ho,r⟩,let ⟨o,ho,r⟩:=st.2;⟨o,hk l (by simp) o ho,r⟩⟩
 item:=fun i s Q E hi st hQ=>tup_next st.1 st.2 (x:=items[i]) (by simp [hi]) fun h' hit' hs'=>hQ _ h' s.toks (by simp [hi]) ⟨hit',st.2.extBut hs'.extBut hne⟩ hs'
 done:=fun s Q E st hE=>tup_stop hh st.1 st.2 (by simp) hE
end
theorem k_ne {X:Cx}{pins:List (Addr×Obj)}{σ:L2.St}{H:Hp}{s:Shared}{a b:Addr}{o:Obj}(I:Inv X pins σ H s) (e:X.K.lookup a=some o) (f:FpOk X pins H b):a≠b:=fun z=>by
 have hb:=I.ok.mod.kin a o e;rcases f.2.2.2.1 with q | q
 ·exact I.ok.noex a o hb (z ▸ q)
 ·have h1:a < X.base.objs.size:=Heap.lt_size hb;have h2:=I.ok.bsz;have h3:X.s₀.heap.objs.size≤a:=z ▸ q;exact absurd (Nat.lt_of_lt_of_le h1 h2) (Nat.not_lt.mpr h3)
theorem rd_ne {H:Hp}{a b:Addr}{u:HO}(h:Rd H a u) (f:H b=none):a≠b:=fun z=>by
 rcases h with h | ⟨o,h⟩ <;> (rw [z,f] at h;cases h)
structure SeqK where
 sq:PySem.W.Frag→Hp→Addr→List V→Prop
 isIt:Heap→Addr→Addr→Nat→Prop
 isSeq:Heap→Addr→Array Value→Prop
 cls:String
 get:∀ {X:Cx} {pins:List (Addr×Obj)} {σ:L2.St} {H:Hp} {s:Shared} {a:Addr} {xs:List V},Inv X pins σ H s→sq X.K H a xs→∃ its:List Value,Vals xs its∧isSeq s.heap a its.toArray∧xs.length≤sizeLine
 inj:∀ {X:Cx} {pins:List (Addr×Obj)} {σ:L2.St} {H:Hp} {s:Shared} {a:Addr} {xs ys:List V},Inv X pins σ H s→sq X.K H a xs→sq X.K H a ys→xs=ys
 itO:∀ {h:Heap} {it l:Addr} {i:Nat},isIt h it l i→∃ o,h.get? it=some o∧o.cls=.type cls∧∃ vs,o.data=.fields vs
 itK:∀ {h h':Heap} {it l:Addr} {i:Nat},isIt h it l i→(∀ o,h.get? it=some o→h'.get? it=some o)→isIt h' it l i
 seqO:∀ {h:Heap} {l:Addr} {items:Array Value},isSeq h l items→∃ o,h.get? l=some o∧∃ n,o.data=.seq items n
 seqK:∀ {h h':Heap} {l:Addr} {items:Array Value},isSeq h l items→(∀ o,h.get? l=some o→h'.get? l=some o)→isSeq h' l items
 draws:∀ {prog:Program} {w:World} {A:Around},A.handled=none→∀ (it l:Addr),l≠it→∀ (items:Array Value),Draws prog w A it [it,l] items.size (fun i v=>items[i]?=some v) (fun i h=>isIt h it l i∧isSeq h l items)
 iter:∀ {prog:Program} {w:World} {A:Around} {E:Value→Shared→Prop} {s:Shared} {l:Addr} {items:Array Value} {Q:Value→Shared→Prop},isSeq s.heap l items →
  Q (.ref s.heap.objs.size) { s with heap:=s.heap.push { cls:=.type cls,data:=.fields #[.ref l,.int 0 0] } }→wpAny (model prog w) A (pyIter (.ref l)) Q E s
 stop:∀ {prog:Program} {w:World} {A:Around} {E:Value→Shared→Prop} {s:Shared} {it l:Addr} {i:Nat} {items:Array Value} {Q:Value→Shared→Prop},A.handled=none→isIt s.heap it l i→isSeq s.heap l items→items[i]?=none →
  (∀ h' e,Heap.ExtBut it s.heap h'→(∃ o,h'.get? e=some o∧o.cls=.type "StopIteration")→E (.ref e) { s with heap:=h' })→wpAny (model prog w) A (Builtin.SmallTypes.nextOf (.ref it)) Q E s
 next:∀ {prog:Program} {w:World} {A:Around} {E:Value→Shared→Prop} {s:Shared} {it l:Addr} {i:Nat} {items:Array Value} {x:Value} {Q:Value→Shared→Prop},isIt s.heap it l i→isSeq s.heap l items→items[i]?=some x →
  (∀ h',isIt h' it l (i+1)→Heap.SameBut it s.heap h'→Q x { s with heap:=h' })→wpAny (model prog w) A (Builtin.SmallTypes.nextOf (.ref it)) Q E s
 ne:∀ {X:Cx} {pins:List (Addr×Obj)} {σ:L2.St} {H:Hp} {s:Shared} {a b:Addr} {xs:List V},Inv X pins σ H s→sq X.K H a xs→FpOk X pins H b→a≠b
 new:∀ (h:Heap) (l:Addr),isIt (h.push { cls:=.type cls,data:=.fields #[.ref l,.int 0 0] }) h.objs.size l 0
noncomputable def seqL:SeqK where
 sq:=SqL
 isIt:=fun h it l i=>h.IsListIter it l i
 isSeq:=fun h l its=>h.IsList l its
 cls := "list_iterator"
 get:=fun I h=>let ⟨its,r,p,z⟩:=I.list h;⟨its,r,p.isList,z⟩
 inj:=fun I h h'=>I.list_inj h h'
 itO:=fun ⟨o,e,c,d⟩=>⟨o,e,c,_,d⟩
 itK:=fun st k=>st.at k
 seqO:=fun ⟨o,e,_,n,d⟩=>⟨o,e,n,d⟩
 seqK:=fun ⟨o,e,r⟩ k=>⟨o,k o e,r⟩
 draws:=fun hh it l hne items=>Draws.list hh it l hne items
 iter:=fun hs q=>wpAny_pyIter_list hs q
 stop:=fun hh a b c d=>wpAny_nextOf_list_end hh a b c d
 next:=fun a b c d=>wpAny_nextOf_list_item a b c d
 ne:=fun I h f=>by
  rcases h with h | ⟨o,its,n,hk,_⟩
  ·exact rd_ne h f.1
  ·exact k_ne I hk f
 new:=fun h l=>⟨_,Heap.get?_push_size _ rfl,rfl,rfl⟩
noncomputable def seqT:SeqK where
 sq:=SqT
 isIt:=fun h it l i=>h.IsTupleIter it l i
 isSeq:=fun h l its=>h.IsTuple l its
 cls := "tuple_iterator"
 get:=fun I h=>let ⟨its,r,p,z⟩:=I.tuple h;⟨its,r,p,z⟩
 inj:=fun I h h'=>I.tuple_inj h h'
 itO:=fun ⟨o,e,c,d⟩=>⟨o,e,c,_,d⟩
 itK:=fun ⟨o,e,r⟩ k=>⟨o,k o e,r⟩
 seqO:=fun ⟨o,e,_,n,d⟩=>⟨o,e,n,d⟩
 seqK:=fun ⟨o,e,r⟩ k=>⟨o,k o e,r⟩
 draws:=fun hh it l hne items=>tup_draws hh it l hne items
 iter:=fun hs q=>wpAny_pyIter_tuple hs q
 stop:=fun hh a b c d=>tup_stop hh a b c d
 next:=fun a b c d=>tup_next a b c d
 ne:=fun I h f=>by
  rcases h with h | ⟨o,its,n,hk,_⟩
  ·exact rd_ne h f.1
  ·exact k_ne I hk f
 new:=fun h l=>⟨_,Heap.get?_push_size _ rfl,rfl,rfl⟩
noncomputable def Ite (k:SeqK) (K:PySem.W.Frag) (a:Addr):It :=
 ⟨fun i H=>∃ xs x,k.sq K H a xs∧xs[i]?=some x,fun i H y H'=>∃ T x,H T=none∧y=.ref T∧(∀ xs,k.sq K H a xs→xs[i]?=some x)∧H'=upd H T (.tup [.int i,x]),fun i H=>∃ xs,k.sq K H a xs∧xs.length≤i⟩
section
variable {prog:Program}{w:World}{A:Around}{E:Value→Shared→Prop}{s:Shared}
end
structure SR (k:SeqK) (K:PySem.W.Frag) (H0:Hp) (ρ0:List Addr) (src:Src) (a:Addr):Prop where
 rd:∀ H ρ mh,Ev K H0 ρ0 H ρ→RS K H ρ mh→src.ok mh=true→∃ xs,k.sq K H a xs∧RDs K H ρ (src.items mh) xs
 ok:∀ (mh:MH) (i:Nat) (d:D),(src.items mh)[i]?=some d→src.ok mh=true
theorem SR.tup {K:PySem.W.Frag}{H0:Hp}{ρ0:List Addr}{ds:List D}{a:Addr}{xs:List V}(s:SqT K H0 a xs) (r:RDs K H0 ρ0 ds xs):SR seqT K H0 ρ0 (.seq ds) a :=
 ⟨fun H ρ mh e rs _=>⟨xs,e.tup _ _ s,r.mono e⟩,fun _ _ _ _=>rfl⟩
theorem SR.rol {K:PySem.W.Frag}{H0:Hp}{ρ0:List Addr}{ds:List D}{a:Addr}{xs:List V}(s:PermL K H0 a xs) (r:RDs K H0 ρ0 ds xs):SR seqL K H0 ρ0 (.seq ds) a :=
 ⟨fun H ρ mh e rs _=>⟨xs,(e.perm _ _ s).sq,r.mono e⟩,fun _ _ _ _=>rfl⟩
theorem SR.lst {K:PySem.W.Frag}{H0:Hp}{ρ0:List Addr}{n:Nat}{a:Addr}(h:ρ0[n]?=some a):SR seqL K H0 ρ0 (.lref n) a:=by
 refine ⟨fun H ρ mh e rs ok=>?_,fun mh i d q=>?_⟩
 ·have ok:(match mh[n]? with | some (.lst _)=>true | _=>false)=true:=ok;obtain ⟨o,eo⟩:∃ o,mh[n]?=some (.lst o):=by
   split at ok
   ·exact ⟨_,‹_›⟩
   ·cases ok
  obtain ⟨a',ha,ro⟩:=rs.at eo;rw [e.at h] at ha;cases ha;obtain ⟨xs,sq,r⟩:=ro.read;refine ⟨xs,sq,?_⟩;show RDs K H ρ (match mh[n]? with | some (.lst o)=>o | _=>[]) xs;rw [eo];exact r
 ·have q:(match mh[n]? with | some (.lst o)=>o | _=>[])[i]?=some d:=q;show (match mh[n]? with | some (.lst _)=>true | _=>false)=true;split at q
  ·rfl
  ·simp at q
theorem enumL_get:∀ (l:List D) (j i:Nat),(enumL j l)[i]?=(l[i]?).map fun d=>D.tup [.int ((j+i:Nat):Int),d]
 | [],_,_=>by simp [enumL]
 | d::r,j,0=>by simp [enumL]
 | d::r,j,i+1=>by
  show (enumL (j+1) r)[i]?=_;rw [enumL_get r (j+1) i,List.getElem?_cons_succ];have e:j+1+i=j+(i+1):=by omega
  rw [e]
theorem enumL_len:∀ (l:List D) (j:Nat),(enumL j l).length=l.length
 | [],_=>rfl
 | _::r,j=>by show (enumL (j+1) r).length+1=r.length+1;rw [enumL_len r]
theorem JR.enum {k:SeqK}{K:PySem.W.Frag}{H0:Hp}{ρ0:List Addr}{src:Src}{a:Addr}(S:SR k K H0 ρ0 src a):JR K H0 ρ0 (.enum src) (Ite k K a) where
 go:=fun H ρ mh i d e rs q=>by
  have q:(enumL 0 (src.items mh))[i]?=some d:=q;rw [enumL_get] at q;cases e1:(src.items mh)[i]? with
  | none=>rw [e1] at q;cases q
  | some d' =>
   rw [e1] at q;cases q;obtain ⟨xs,sq,r⟩:=S.rd H ρ mh e rs (S.ok mh i d' e1);obtain ⟨v,ev,rv⟩:=r.get e1;refine ⟨⟨xs,v,sq,ev⟩,?_⟩;rintro x H' ⟨T,x',hT,h1,h2,h3⟩;subst h1;subst h3;have:=h2 xs sq;rw [ev] at this;cases this;refine ⟨Ev.new hT,rs.new hT,.tup (.inl (.inl upd_same)) (.cons ?_ (.cons (rv.mono (Ev.new hT)) .nil))⟩;rw [Nat.zero_add];exact .int _
 stop:=fun H ρ mh i e rs q=>by
  have q:(src.ok mh&&decide ((enumL 0 (src.items mh)).length≤i))=true:=q;rw [Bool.and_eq_true,enumL_len] at q;obtain ⟨xs,sq,r⟩:=S.rd H ρ mh e rs q.1;exact ⟨xs,sq,by rw [← r.length];exact of_decide_eq_true q.2⟩
noncomputable def enumM (ma:DM D):DM Src:=ma.bnd fun x=>fun _ mh=>match srcOf x mh with | some s=>some (.enum s,mh) | none=>none
section
variable {X:Cx}
end
section
variable {X:Cx}
noncomputable def listRngD (x:D) (mh:MH):Option (D×MH):=match x with
 | .int j=>if -(2 ^ 62)≤j∧j≤1000000 then some (.ref mh.length,mh++[.lst (rangeL 0 j.toNat)]) else none
 | _=>none
noncomputable def tupRngD (x:D) (mh:MH):Option (D×MH):=match x with
 | .int j=>if -(2 ^ 62)≤j∧j≤1000000 then some (.tup (rangeL 0 j.toNat),mh) else none
 | _=>none
variable {a:Expr}{ma:DM D}{p p2 pos pos2:Pos}
end
end DL
namespace DL
open PySem PySem.Spec PyProof.Rows L2 PySem.W
noncomputable def sortI (ns:List Int):List Int:=ns.mergeSort fun a b=>decide (a≤b)
theorem sortI_perm (ns:List Int):(sortI ns).Perm ns:=List.mergeSort_perm _ _
theorem sortI_le (ns:List Int):(sortI ns).Pairwise (·≤·):=by
 have h:=List.pairwise_mergeSort (le:=fun a b:Int=>decide (a≤b)) (fun a b c h1 h2=>by simp at *;omega) (fun a b=>by simp;omega) ns;exact h.imp fun h=>by simpa using h
theorem sortI_of {ns l:List Int}(p:l.Perm ns) (h:l.Pairwise (·≤·)):l=sortI ns:=sort_one (p.trans (sortI_perm ns).symm) h (sortI_le ns)
noncomputable def lexB:List Int→List Int→Bool
 | [],[]=>false
 | [],_::_=>true
 | _::_,[]=>false
 | x::xs,y::ys=>if (x==y)=true then lexB xs ys else decide (x < y)
theorem minRun_le:∀ (fuel n r:Nat),minRun' fuel n r≤n+r
 | 0,n,r=>Nat.le_refl _
 | f+1,n,r=>by
  rw [minRun'_succ];split
  ·exact Nat.le_refl _
  ·have:=minRun_le f (n / 2) (max r (n % 2));omega
section
variable {prog:Program}{w:World}{A:Around}{E:Value→Shared→Prop}{κ:SortKind}{it:Array Keyed}{s:Shared}
theorem asc_rise {p:Array Nat}{G:Nat→Shared→Prop}{N:Nat}(hc:∀ k,1≤k→k < N→∀ C:Bool→Shared→Prop,C false s→kas_cmp prog w A κ it (p.getD k 0) (p.getD (k - 1) 0) C s) (hG:G N s):∀ (f k:Nat),1≤k→k+f=N →
  (kas_asc p f k).kasWp (kas_cmp prog w A κ it) G s
 | 0,k,_,e=>by
  have:k=N:=e;subst this;exact hG
 | f+1,k,h1,e=>by
  refine hc k h1 (by omega) _ ?_;show (if false=true then KasT.ret k else kas_asc p f (k+1)).kasWp (kas_cmp prog w A κ it) G s;rw [if_neg (by simp)];exact asc_rise hc hG f (k+1) (by omega) (by omega)
theorem rise_runs {n:Nat}{Q:Unit→SortSt→Shared→Prop}(h2:2≤n)
  (hG:∀ st',arrOf st'=(List.toArray (List.range n)).map (kas_item it)→failedOf st'=none→Q () st' s) (hc:∀ k,1≤k→k < n→∀ C:Bool→Shared→Prop,C false s→kas_cmp prog w A κ it k (k - 1) C s) :
  kasC (model prog w) A E sortRuns' Q (kas_st κ it (List.toArray (List.range n))) s:=by
 obtain ⟨r,rfl⟩:∃ r,n=r+2:=⟨n - 2,by omega⟩;have hrs:(List.toArray (List.range (r+2))).size=r+2:=by simp
 rw [sortRuns'_eq];refine kasC_bind (kasC_get ?_);dsimp only;have hsz:(arrOf (kas_st κ it (List.toArray (List.range (r+2))))).size=r+2:=by
  show ((List.toArray (List.range (r+2))).map (kas_item it)).size=_;rw [Array.size_map,hrs]
 have hmr:minRun' (r+2) (r+2) 0≤r+2:=minRun_le _ _ _;simp only [hsz];generalize minRun' (r+2) (r+2) 0=mr at hmr;refine kasC_bind (kasC_range ?_);show kasC _ _ _ (forIn (0::1::List.range' 2 r) _ _) _ _ _;refine kasC_cons ?_;dsimp only;rw [if_neg (by omega)];simp only [Nat.sub_zero,Nat.zero_add];have gd:∀ k,k < r+2→(List.toArray (List.range (r+2))).getD k 0=k:=fun k hk=>by simp [Array.getD,hk]
 refine kasC_bind (kas_count_ (G:=fun m s'=>m=(r+2,List.toArray (List.range (r+2)))∧s'=s) (by omega) (by rw [hrs];exact Nat.le_refl _) (fun m p' s' hm1 hm2 hp hg=>?_) ?_)
 ·obtain ⟨e1,rfl⟩:=hg;obtain ⟨rfl,rfl⟩:=Prod.mk.inj e1;dsimp only;rw [if_neg (by omega)];refine kasC_bind (kasC_get ?_);rw [show (pendingOf (kas_st κ it (List.toArray (List.range (r+2))))).back?=none from rfl];dsimp only;refine kasC_bind (kasC_modify (kasC_pure ?_));show kasC _ _ _ (forIn (1::List.range' 2 r) _ _) _ _ _;refine kasC_cons ?_;dsimp only;rw [if_pos (Nat.le_refl _)];refine kasC_pure ?_;dsimp only;refine kasC_bind (kasC_range ?_);show kasC _ _ _ (forIn (0::1::List.range' 2 r) _ _) _ _ _;refine kasC_cons ?_;refine kasC_bind (kasC_get ?_);rw [if_pos (show (pendingOf (setPending (kas_st κ it (List.toArray (List.range (r+2)))) ((pendingOf (kas_st κ it (List.toArray (List.range (r+2))))).push (0,r+2,0)))).size≤1 from Nat.le_refl 1)];refine kasC_pure ?_;dsimp only;exact kasC_pure (hG _ rfl rfl)
 ·unfold kas_count;rw [KasT.kasWp_bind];refine asc_rise (N:=r+2) (fun k h1 hk C hC=>?_) ?_ _ _ (Nat.le_refl 1) (by omega)
  ·rw [gd k hk,gd (k - 1) (by omega)];exact hc k h1 hk C hC
  ·rw [if_pos (by simp)];exact ⟨rfl,rfl⟩
theorem list_sort_rise {a:Addr}{vs:List Value}{n:Nat}{P:PySem.Fin→Shared→Prop}(ho:s.heap.get? a=some (seqObj "list" vs.toArray n)) (hz:vs.length≤sizeLine)
  (hk:2≤vs.length→∀ Q:SortKind→Shared→Prop,Q κ { s with heap:=((s.heap.update a (Obj.mapSeq fun _=>(#[]:Array Value))).push (seqObj "tuple" vs.toArray 0)).push (seqObj "list" #[] 0) }→wpAny (model prog w) A (keyKind' vs.toArray) Q E { s with heap:=((s.heap.update a (Obj.mapSeq fun _=>(#[]:Array Value))).push (seqObj "tuple" vs.toArray 0)).push (seqObj "list" #[] 0) })
  (hc:∀ k,1≤k→k < vs.length→∀ C:Bool→Shared→Prop,C false { s with heap:=((s.heap.update a (Obj.mapSeq fun _=>(#[]:Array Value))).push (seqObj "tuple" vs.toArray 0)).push (seqObj "list" #[] 0) }→kas_ask prog w A κ vs k (k - 1) C { s with heap:=((s.heap.update a (Obj.mapSeq fun _=>(#[]:Array Value))).push (seqObj "tuple" vs.toArray 0)).push (seqObj "list" #[] 0) })
  (h:P (.done (.ret .none)) { s with heap:=sortedHeap s.heap a vs vs.toArray }) :
  wpAny (model prog w) A (Builtin.«list.sort» ⟨[.ref a],[]⟩) P E s:=by
 rw [list_sort_plain];have ha:a < s.heap.objs.size:=Heap.lt_size ho;refine wpAny_bind (listItems_at ho rfl ?_);refine wpAny_bind (listUpdate_at ho rfl ?_ (by rw [List.size_toArray];exact hz) (Nat.zero_le _))
 obtain ⟨e1,ho1⟩:∃ e1,(s.heap.update a (Obj.mapSeq fun _=>#[])).get? a=some (seqObj "list" #[] e1):=⟨_,get?_update_seq ho (fun _=>#[])⟩;refine wpAny_bind (seqEpoch_at ho1 rfl ?_);refine wpAny_bind (wpAny_newTuple ?_ (by show vs.length≤_;exact hz));refine wpAny_bind (wpAny_newList ?_ (Nat.zero_le _));refine wpAny_holding ?_
 have ho6:(((s.heap.update a (Obj.mapSeq fun _=>#[])).push (seqObj "tuple" vs.toArray 0)).push (seqObj "list" #[] 0)).get? a=some (seqObj "list" #[] e1):=by
  rw [Heap.get?_push_ne _ _ _ (by rw [size_push',Heap.size_update];exact Nat.ne_of_lt (Nat.lt_succ_of_lt ha)),Heap.get?_push_ne _ _ _ (by rw [Heap.size_update];exact Nat.ne_of_lt ha)];exact ho1
 show wpAny (model prog w) A _ P E { s with heap:=((s.heap.update a (Obj.mapSeq fun _=>#[])).push (seqObj "tuple" vs.toArray 0)).push (seqObj "list" #[] 0) };dsimp only;have hsz:vs.toArray.size=vs.length:=by simp
 have hout:(pairsOf vs).map (·.2)=vs.toArray:=by
  apply Array.toList_inj.mp;rw [Array.toList_map,pairsOf_toList];simp only [List.map_snd_zip (Nat.le_refl _)]
 by_cases h2:vs.toArray.size < 2
 ·rw [if_pos h2,if_pos h2];refine wpAny_bind (wpAny_pure ?_);rw [StateT.run_pure];refine wpAny_bind (wpAny_pure ?_);dsimp only;refine wpAny_bind (seqEpoch_at ho6 rfl ?_);refine wpAny_bind (listUpdate_at ho6 rfl ?_ (Nat.zero_le _) (hsz2:=by rw [Array.size_map];show (pairsOf vs).size≤_;rw [pairsOf_size];omega));simp only [bne_self_eq_false,Bool.false_eq_true,if_false];refine wpAny_pure ?_;show P (.done (.ret .none)) { s with heap:=sortedHeap s.heap a vs ((pairsOf vs).map (·.2)) };rw [hout];exact h
 ·rw [if_neg h2,if_neg h2];refine wpAny_bind (hk (by omega) _ ?_);have est:SortSt.mk' κ (vs.toArray.zip vs.toArray) #[] 7 none=kas_st κ (pairsOf vs) (List.toArray (List.range vs.length)):=by
   have e:=kas_range (pairsOf vs);rw [pairsOf_size] at e;show SortSt.mk' κ (pairsOf vs) #[] 7 none=SortSt.mk' κ ((List.toArray (List.range vs.length)).map (kas_item (pairsOf vs))) #[] 7 none;rw [e]
  have run:=rise_runs (E:=E) (s:={ s with heap:=((s.heap.update a (Obj.mapSeq fun _=>(#[]:Array Value))).push (seqObj "tuple" vs.toArray 0)).push (seqObj "list" #[] 0) }) (κ:=κ) (it:=pairsOf vs) (prog:=prog) (w:=w) (A:=A) (n:=vs.length)
   (Q:=fun _ st' s'=>s'={ s with heap:=((s.heap.update a (Obj.mapSeq fun _=>(#[]:Array Value))).push (seqObj "tuple" vs.toArray 0)).push (seqObj "list" #[] 0) }∧arrOf st'=pairsOf vs∧failedOf st'=none)
   (by omega) (fun st' a1 a2=>⟨rfl,by rw [a1];have e:=kas_range (pairsOf vs);rw [pairsOf_size] at e;exact e,a2⟩) (fun k h1 hk C hC=>by
    have:=hc k h1 hk C hC;rw [kas_ask_eq] at this
    exact this)
  rw [← est] at run;refine wpAny_bind (wpAny_mono run ?_ fun _ _ e=>e);rintro ⟨⟨⟩,st'⟩ s' ⟨rfl,har,hf⟩;dsimp only;rw [har,hout];refine wpAny_bind (seqEpoch_at ho6 rfl ?_);refine wpAny_bind (listUpdate_at ho6 rfl ?_ (Nat.zero_le _) (hsz2:=by rw [List.size_toArray];omega));rw [hf];simp only [bne_self_eq_false,Bool.false_eq_true,if_false];exact wpAny_pure h
end
theorem ints_vals:∀ {ns:List Int}{us:List Value},Vals (ns.map V.int) us→IntsAre us ns
 | [],_,.nil=>.nil
 | _::_,_,.cons ⟨t,e⟩ h=>by subst e;exact .cons _ _ (ints_vals h)
noncomputable def TI (h:Heap) (v:Value) (ns:List Int):Prop:=∃ (a:Addr) (o:Obj) (its:List Value) (n:Nat),v=.ref a∧h.get? a=some o∧o.cls=.type "tuple"∧o.data=.seq its.toArray n∧IntsAre its ns
inductive TIs (h:Heap):List Value→List (List Int)→Prop
 | nil:TIs h [] []
 | cons {v:Value} {n:Int} {ns:List Int} {vs:List Value} {ts:List (List Int)}:TI h v (n::ns)→TIs h vs ts→TIs h (v::vs) ((n::ns)::ts)
theorem TIs.grow {h h':Heap}(k:∀ b o,h.get? b=some o→h'.get? b=some o):∀ {vs:List Value}{ts:List (List Int)},TIs h vs ts→TIs h' vs ts
 | _,_,.nil=>.nil
 | _,_,.cons ⟨a,o,its,n,e1,e2,e3⟩ t=>.cons ⟨a,o,its,n,e1,k _ _ e2,e3⟩ (t.grow k)
theorem TIs.tups {h:Heap}:∀ {vs:List Value}{ts:List (List Int)},TIs h vs ts→∃ fs,KatTups h vs fs∧fs.length=vs.length∧∀ v∈fs,∃ n t,v=Value.int n t
 | _,_,.nil=>⟨[],KatTups.nil,rfl,fun v hv=>by cases hv⟩
 | _,_,.cons ⟨a,o,its,n,e1,e2,e3,e4,e5⟩ t=>by
  obtain ⟨fs,k,l,f⟩:=t.tups;subst e1;cases e5 with
  | cons _ t0 r=>exact ⟨_::fs,KatTups.cons e2 e3 e4 rfl k,by simp [l],fun v hv=>by
    rcases List.mem_cons.mp hv with rfl | hv
    ·exact ⟨_,_,rfl⟩
    ·exact f v hv⟩
theorem TIs.at {h:Heap}:∀ {vs:List Value}{ts:List (List Int)}(k:Nat),TIs h vs ts→k < vs.length→∃ ns,ts[k]?=some ns∧TI h (vs.getD k Value.none) ns
 | _,_,_,.nil,hk=>by simp at hk
 | _,_,0,.cons e t,_=>⟨_,rfl,e⟩
 | _,_,k+1,.cons e t,hk=>by
  obtain ⟨ns,a1,a2⟩:=TIs.at k t (by simpa using hk);exact ⟨ns,by simpa using a1,by simpa using a2⟩
noncomputable def riseB:List (List Int)→Bool
 | a::b::r=>!lexB b a&&riseB (b::r)
 | _=>true
theorem riseB_at:∀ {ts:List (List Int)}{k:Nat}{a b:List Int},riseB ts=true→ts[k]?=some a→ts[k+1]?=some b→lexB b a=false
 | [],_,_,_,_,h,_=>by simp at h
 | [_],_,_,_,_,_,h=>by simp at h
 | x::y::r,0,a,b,hr,h1,h2=>by
  simp at h1 h2;subst h1 h2;have hr:(!lexB y x&&riseB (y::r))=true:=hr;rw [Bool.and_eq_true,Bool.not_eq_true'] at hr;exact hr.1
 | x::y::r,k+1,a,b,hr,h1,h2=>by
  have hr:(!lexB y x&&riseB (y::r))=true:=hr;rw [Bool.and_eq_true] at hr;exact riseB_at (ts:=y::r) (k:=k) hr.2 (by simpa using h1) (by simpa using h2)
section
variable {prog:Program}{w:World}{A:Around}{E:Value→Shared→Prop}{s:Shared}
theorem lex_ints {fin:Bool}{Q:Bool→Shared→Prop}:∀ {xs ys:List Value}{ns ms:List Int},IntsAre xs ns→IntsAre ys ms→∀ i,fin=decide (xs.length < ys.length)→Q (lexB ns ms) s→KatLex prog w A true fin Q (xs.zip ys) i s
 | _,_,_,_,.nil,.nil,i,e,h=>by subst e;exact h
 | _,_,_,_,.nil,.cons m u r,i,e,h=>by subst e;exact kat_nil (by simpa [lexB] using h)
 | _,_,_,_,.cons n t r,.nil,i,e,h=>by subst e;exact kat_nil (by simpa [lexB] using h)
 | _,_,_,_,.cons (vs:=vs) n t r,.cons (vs:=us) m u q,i,e,h=>by
  have h:Q (if (n==m)=true then lexB _ _ else decide (n < m)) s:=h;refine kat_cons (wpAny_eqBool_int (kat_go (fun e1=>kat_yes ?_) fun e1=>kat_no ?_))
  ·rw [if_pos e1] at h;exact lex_ints r q (i+1) (by rw [e];simp) h
  ·rw [if_neg (by rw [e1];simp)] at h;cases hb:(true&&i==0) with
   | true=>exact oneLt_int h
   | false=>exact kat_one _ _ (lt_int h)
theorem ti_lt {v u:Value}{ns ms:List Int}{Q:Bool→Shared→Prop}(h1:TI s.heap v ns) (h2:TI s.heap u ms) (h:Q (lexB ns ms) s):wpAny (model prog w) A (keyLt' (tuples' true) v u) Q E s:=by
 obtain ⟨a,o,its,n,rfl,e1,_,e3,e4⟩:=h1;obtain ⟨a',o',its',n',rfl,e1',_,e3',e4'⟩:=h2;exact kat_lt e1 e3 e1' e3' (by simpa using lex_ints e4 e4' 0 rfl h)
theorem sorted_rise {l:Addr}{vs:List Value}{ts:List (List Int)}{Q:Value→Shared→Prop}(hl:s.heap.IsList l vs.toArray) (hz:vs.length≤sizeLine) (t:TIs s.heap vs ts) (hr:riseB ts=true)
  (h:∀ h' c,(∀ b o,s.heap.get? b=some o→h'.get? b=some o)→h'.get? (s.heap.objs.size+1)=some (seqObj "list" vs.toArray c)→Q (.ref (s.heap.objs.size+1)) { s with heap:=h' }) :
  wpAny (model prog w) A (call (.builtin "sorted") [.ref l]) Q E s:=by
 refine Calls.call_function_entry kind_sorted plain_sorted entry_sorted (args_sorted1 _) ?_;unfold Builtin.«sorted»
 refine wpAny_bind (m:=checkCount "sorted" 1 1 _) (wpAny_pure ?_);refine wpAny_bind (collect_list hl ?_ hz);refine wpAny_bind (wpAny_newList ?_ hz)
 have hsz:((s.heap.push (seqObj "list" #[] 0)).update s.heap.objs.size (Obj.mapSeq (·++vs.toArray))).objs.size=s.heap.objs.size+1:=by
  rw [Heap.size_update,size_push']
 have hoL:(((s.heap.push (seqObj "list" #[] 0)).update s.heap.objs.size (Obj.mapSeq (·++vs.toArray))).push (seqObj "list" vs.toArray 0)).get? (s.heap.objs.size+1)=some (seqObj "list" vs.toArray 0):=by
  rw [← hsz];exact Heap.get?_push_size _ rfl
 have keep:∀ b o,s.heap.get? b=some o→(((s.heap.push (seqObj "list" #[] 0)).update s.heap.objs.size (Obj.mapSeq (·++vs.toArray))).push (seqObj "list" vs.toArray 0)).get? b=some o:=fun b o q=>by
  have hlt:b < s.heap.objs.size:=Heap.lt_size q;rw [Heap.get?_push_ne _ _ _ (by rw [hsz];exact Nat.ne_of_lt (Nat.lt_succ_of_lt hlt)),Heap.get?_update_ne _ _ _ _ (Nat.ne_of_lt hlt),Heap.get?_push_ne _ _ _ (Nat.ne_of_lt hlt)];exact q
 show wpAny _ _ _ _ _ { s with heap:=((s.heap.push (seqObj "list" #[] 0)).update s.heap.objs.size (Obj.mapSeq (·++vs.toArray))).push (seqObj "list" vs.toArray 0) };rw [hsz]
 generalize hh2:((s.heap.push (seqObj "list" #[] 0)).update s.heap.objs.size (Obj.mapSeq (·++vs.toArray))).push (seqObj "list" vs.toArray 0)=h2 at hoL keep
 have keep3:∀ b o,s.heap.get? b=some o→(((h2.update (s.heap.objs.size+1) (Obj.mapSeq fun _=>(#[]:Array Value))).push (seqObj "tuple" vs.toArray 0)).push (seqObj "list" #[] 0)).get? b=some o:=fun b o q=>by
  have hlt:b < s.heap.objs.size:=Heap.lt_size q;refine Heap.get?_push_of_some _ (Heap.get?_push_of_some _ ?_);rw [Heap.get?_update_ne _ _ _ _ (Nat.ne_of_lt (Nat.lt_succ_of_lt hlt))];exact keep b o q
 have t3:=t.grow keep3;refine wpAny_bind (wpAny_holding (wpAny_call_entry slot_list_sort ⟨_,hoL,rfl⟩ entry_list_sort (list_sort_rise (s:={ s with heap:=h2 }) (κ:=tuples' true) hoL hz (fun h2l Q hQ=>?_) (fun k h1 hk C hC=>?_) ?_) (args_list_sort _)))
 ·obtain ⟨fs,kt,lf,hf⟩:=t3.tups
  refine kat_kind (T:=.type "int") kt (by omega) (fun v hv=>?_) (by decide +kernel) (by rw [show (Value.type "int" != Value.type "tuple")=true by decide +kernel];exact hQ);obtain ⟨n,tk,rfl⟩:=hf v hv;exact Looks.now
 ·obtain ⟨b,eb,tb⟩:=TIs.at k t3 hk;obtain ⟨a,ea,ta⟩:=TIs.at (k - 1) t3 (by omega);have:=riseB_at hr ea (by rw [show k - 1+1=k by omega];exact eb);exact ti_lt tb ta (by rw [this];exact hC)
 ·refine ⟨_,rfl,wpAny_pure ⟨_,rfl,?_⟩⟩;obtain ⟨c,at'⟩:=sortedHeap_at (h:=h2) (a:=s.heap.objs.size+1) (vs:=vs) (n:=0) (out:=vs.toArray) hoL;refine h _ c (fun b o q=>?_) at';have hlt:b < s.heap.objs.size:=Heap.lt_size q;rw [sortedHeap_old (Nat.ne_of_lt (Nat.lt_succ_of_lt hlt)) (Heap.lt_size (keep b o q))];exact keep b o q
end
noncomputable def tupsOf:List D→Option (List (List Int))
 | []=>some []
 | .tup ds::r=>match intsOf ds with
  | some (n::ns)=>match tupsOf r with
   | some ts=>some ((n::ns)::ts)
   | none=>none
  | _=>none
 | _=>none
noncomputable def sortedD:List D→MH→Option (D×MH)
 | [.ref n],mh=>match mh[n]? with
  | some (.lst ds)=>match intsOf ds with
   | some ns=>if ns.length < 64 then some (.ref mh.length,mh++[.lst ((sortI ns).map .int)]) else none
   | none=>match tupsOf ds with
    | some ts=>if riseB ts then some (.ref mh.length,mh++[.lst ds]) else none
    | none=>none
  | _=>none
 | _,_=>none
theorem sortedD_some {ds:List D}{mh mh':MH}{d:D}(q:sortedD ds mh=some (d,mh')):∃ n,ds=[.ref n]:=by
 unfold sortedD at q;split at q
 ·exact ⟨_,rfl⟩
 ·cases q
theorem sortedAll_ok (h:Heap) (vs:List Value) (out:Array Value):∃ c,(∀ b o,h.get? b=some o→(sortedAll h vs out).get? b=some o)∧(sortedAll h vs out).get? (h.objs.size+1)=some (seqObj "list" out c):=by
 have hsz:((h.push (seqObj "list" #[] 0)).update h.objs.size (Obj.mapSeq (·++vs.toArray))).objs.size=h.objs.size+1:=by
  rw [Heap.size_update,size_push']
 have hoL:(((h.push (seqObj "list" #[] 0)).update h.objs.size (Obj.mapSeq (·++vs.toArray))).push (seqObj "list" vs.toArray 0)).get? (h.objs.size+1)=some (seqObj "list" vs.toArray 0):=by
  rw [← hsz];exact Heap.get?_push_size _ rfl
 have keep:∀ b o,h.get? b=some o→(((h.push (seqObj "list" #[] 0)).update h.objs.size (Obj.mapSeq (·++vs.toArray))).push (seqObj "list" vs.toArray 0)).get? b=some o:=fun b o q=>by
  have hlt:b < h.objs.size:=Heap.lt_size q;rw [Heap.get?_push_ne _ _ _ (by rw [hsz];exact Nat.ne_of_lt (Nat.lt_succ_of_lt hlt)),Heap.get?_update_ne _ _ _ _ (Nat.ne_of_lt hlt),Heap.get?_push_ne _ _ _ (Nat.ne_of_lt hlt)];exact q
 obtain ⟨c,at'⟩:=sortedHeap_at (a:=h.objs.size+1) (vs:=vs) (n:=0) (out:=out) hoL;refine ⟨c,fun b o q=>?_,at'⟩;unfold sortedAll;rw [sortedHeap_old (Nat.ne_of_lt (Nat.lt_succ_of_lt (Heap.lt_size q))) (Heap.lt_size (keep b o q))];exact keep b o q
theorem rds_intsOf {K:PySem.W.Frag}{H:Hp}{ρ:List Addr}:∀ (ns:List Int),RDs K H ρ (ns.map D.int) (ns.map V.int)
 | []=>.nil
 | _::r=>.cons (.int _) (rds_intsOf r)
section
variable {X:Cx}
theorem tups_ok {pins:List (Addr×Obj)}{σ:L2.St}{H:Hp}{s:Shared}{ρ:List Addr}(I:Inv X pins σ H s):∀ {ds:List D}{ys:List V}{its:List Value}{ts:List (List Int)},tupsOf ds=some ts→RDs X.K H ρ ds ys→Vals ys its→TIs s.heap its ts
 | [],_,_,_,h,.nil,.nil=>by cases h;exact .nil
 | d::r,_,_,ts,h,.cons r1 r2,.cons v1 v2=>by
  cases d with
  | tup ds =>
   have h:(match intsOf ds with | some (n::ns)=>(match tupsOf r with | some ts=>some ((n::ns)::ts) | none=>none) | _=>none)=some ts:=h;split at h
   ·rename_i n ns e1;split at h
    ·rename_i ts' e2;cases h;cases r1 with
     | tup sq rd =>
      rw [intsOf_some e1] at rd;rw [rds_ints rd] at sq;obtain ⟨it,rv,⟨o,e,c,k,d⟩,_⟩:=I.tuple sq;cases v1;exact .cons ⟨_,o,it,k,rfl,e,c,d,ints_vals rv⟩ (tups_ok I e2 r2 v2)
    ·cases h
   ·cases h
  | _=>cases h
theorem call_sortedD:CallR X (.builtin "sorted") (rDs X.K sortedD):=by
 rintro pins s σ H xs us Q I r ⟨ρ,mh,ds,d,mh',q,rs,rd,co⟩;obtain ⟨n,rfl⟩:=sortedD_some q
 ·obtain ⟨v,rfl,rx⟩:=rds1 rd;obtain ⟨u,rfl,ru⟩:=vals1 r
  have q:(match mh[n]? with
   | some (.lst ds)=>(match intsOf ds with
    | some ns=>if ns.length < 64 then some (D.ref mh.length,mh++[.lst ((sortI ns).map .int)]) else none
    | none=>match tupsOf ds with
     | some ts=>if riseB ts then some (.ref mh.length,mh++[.lst ds]) else none
     | none=>none)
   | _=>none)=some (d,mh'):=q
  split at q
  ·rename_i es en;obtain ⟨p,ys,rfl,hq,ry⟩:∃ p ys,v=.ref p∧SqL X.K H p ys∧RDs X.K H ρ es ys:=by
    cases rx with
    | ref h =>
     obtain ⟨a',ha,ro⟩:=rs.at en;rw [h] at ha;cases ha;obtain ⟨xs,q,r⟩:=ro.read;exact ⟨_,xs,rfl,q,r⟩
   cases ru;obtain ⟨its,rv,pl,hz⟩:=I.list hq;split at q
   ·rename_i ns ei;split at q
    ·rename_i h64;cases q;rw [intsOf_some ei] at ry;rw [rds_ints ry] at hq rv;have hlen:=rv.length;refine sorted_ints pl.isList (ints_vals rv) (by simp at hlen;omega) fun out ns' a1 a2 a3=>?_
     have es':ns'=sortI ns:=sortI_of a2 a3;subst es';obtain ⟨c,kp,at'⟩:=sortedAll_ok s.heap its out;refine ⟨.ref (s.heap.objs.size+1),_,I.laid (t':=s.toks) (a:=s.heap.objs.size+1) (o:=.lst ((sortI ns).map V.int)) kp (Nat.le_succ _) ⟨?_,out.toList,c,vals_ints a1,?_⟩,rfl,Co.newL rs (rds_intsOf (sortI ns)) co _ (I.hok.fresh (Nat.le_succ _))⟩
     ·rw [List.length_map,(sortI_perm ns).length_eq,sizeLine_eq];omega
     ·rw [at']
    ·cases q
   ·split at q
    ·rename_i ts et;split at q
     ·rename_i hr;cases q;have hlen:=rv.length;refine sorted_rise pl.isList (by omega) (tups_ok I et ry rv) hr fun h' c kp at'=>?_
      exact ⟨.ref (s.heap.objs.size+1),_,I.laid (t':=s.toks) (a:=s.heap.objs.size+1) (o:=.lst ys) kp (Nat.le_succ _) ⟨hz,its,c,rv,at'⟩,rfl,Co.newL rs ry co _ (I.hok.fresh (Nat.le_succ _))⟩
     ·cases q
    ·cases q
  ·cases q
end
end DL
namespace DL
open PySem PySem.Spec PyProof.Rows L2
structure ZNe (z TI TO i1 i2:Addr):Prop where
 TIz:TI≠z
 TOz:TO≠z
 i1z:i1≠z
 i2z:i2≠z
 TITO:TI≠TO
 TIi1:TI≠i1
 TIi2:TI≠i2
 TOi1:TO≠i1
 TOi2:TO≠i2
 i12:i1≠i2
section
variable {prog:Program}{w:World}{A:Around}{E:Value→Shared→Prop}{s:Shared}
theorem zip_itemK (k1 k2:SeqK) {z TI TO i1 i2 l1 l2:Addr}{i:Nat}{xs ys:Array Value}{x y a b:Value}{Q:Value→Shared→Prop}(D:ZNe z TI TO i1 i2) (l1z:l1≠z) (l1TO:l1≠TO) (l1i1:l1≠i1) (l2z:l2≠z) (l2TO:l2≠TO) (l2i1:l2≠i1)
  (hz:IsZip s.heap z TI TO .none) (hTI:IsPair s.heap TI (.ref i1) (.ref i2)) (hTO:IsPair s.heap TO a b) (h1:k1.isIt s.heap i1 l1 i) (h2:k2.isIt s.heap i2 l2 i) (hl1:k1.isSeq s.heap l1 xs) (hl2:k2.isSeq s.heap l2 ys) (hx:xs[i]?=some x) (hy:ys[i]?=some y)
  (hQ:∀ h',IsZip h' z TI TO (rawInt s.heap.objs.size)→IsPair h' TO x y→k1.isIt h' i1 l1 (i+1)→k2.isIt h' i2 l2 (i+1)→IsPair h' s.heap.objs.size x y→h'.objs.size=s.heap.objs.size+1 →
   (∀ c o,c≠z→c≠TO→c≠i1→c≠i2→s.heap.get? c=some o→h'.get? c=some o)→Q (.ref s.heap.objs.size) { s with heap:=h' }) :
  wpAny (model prog w) A (Builtin.«zip.__next__» ⟨[.ref z],[]⟩) (fun fin s'=>∃ v,fin=.done (.ret v)∧Q v s') E s:=by
 show wpAny _ _ (field (.ref z) 2 >>= _) _ _ _;refine wpAny_bind (wpAny_field hz rfl (x:=.bool false) rfl ?_);show wpAny _ _ (field (.ref z) 3 >>= _) _ _ _;refine wpAny_bind (wpAny_field hz rfl (x:=.ref TI) rfl ?_);refine wpAny_bind (wpAny_seqItems hTI rfl ?_);show wpAny _ _ (Builtin.SmallTypes.ownedTupleIsFree (.ref z) >>= _) _ _ _;refine wpAny_bind ?_;unfold Builtin.SmallTypes.ownedTupleIsFree;refine wpAny_bind (wpAny_field hz rfl (x:=.none) rfl (wpAny_pure ?_));simp only [if_true];refine wpAny_bind (wpAny_rule ?_);refine wpAny_bind (wpAny_field hz rfl (x:=.ref TO) rfl ?_);refine wpAny_bind (wpAny_setField_rec hz (by simp) fun h₁ hz₁ hs₁=>?_);replace hz₁:IsZip h₁ z TI TO .ellipsis:=hz₁;refine wpAny_bind ?_;simp only [List.zipIdx_cons,List.zipIdx_nil,List.forIn_cons,List.forIn_nil];refine wpAny_bind (wpAny_bind (wpAny_onRaise ?_));show wpAny _ _ (Builtin.SmallTypes.nextOf (.ref i1) >>= _) _ _ _;refine wpAny_bind (k1.next (k1.itK h1 fun o e=>hs₁.extBut _ _ D.i1z e) (k1.seqK hl1 fun o e=>hs₁.extBut _ _ l1z e) hx fun h₂ h1₂ hs₂=>wpAny_pure ?_);have hTO₂:IsPair h₂ TO a b:=hs₂.extBut _ _ D.TOi1 (hs₁.extBut _ _ D.TOz hTO);refine wpAny_bind (wpAny_seqItems hTO₂ rfl ?_);refine wpAny_bind (wpAny_updateSeq_pair hTO₂ fun h₃ hTO₃ hs₃=>?_)
 replace hTO₃:IsPair h₃ TO x b:=hTO₃
 refine wpAny_bind (wpAny_letGo (wpAny_pure ?_));refine wpAny_bind (wpAny_bind (wpAny_onRaise ?_));show wpAny _ _ (Builtin.SmallTypes.nextOf (.ref i2) >>= _) _ _ _;refine wpAny_bind (k2.next (k2.itK h2 fun o e=>hs₃.extBut _ _ D.TOi2.symm (hs₂.extBut _ _ D.i12.symm (hs₁.extBut _ _ D.i2z e))) (k2.seqK hl2 fun o e=>hs₃.extBut _ _ l2TO (hs₂.extBut _ _ l2i1 (hs₁.extBut _ _ l2z e))) hy fun h₄ h2₄ hs₄=>wpAny_pure ?_);have hTO₄:IsPair h₄ TO x b:=hs₄.extBut _ _ D.TOi2 hTO₃;refine wpAny_bind (wpAny_seqItems hTO₄ rfl ?_);refine wpAny_bind (wpAny_updateSeq_pair hTO₄ fun h₅ hTO₅ hs₅=>?_)
 replace hTO₅:IsPair h₅ TO x y:=hTO₅
 refine wpAny_bind (wpAny_letGo (wpAny_pure (wpAny_pure ?_)));refine wpAny_bind (wpAny_seqItems hTO₅ rfl ?_);refine wpAny_bind (wpAny_newTuple ?_);have hsz:h₅.objs.size=s.heap.objs.size:=by rw [hs₅.1,hs₄.1,hs₃.1,hs₂.1,hs₁.1]
 have hz₅:IsZip h₅ z TI TO .ellipsis:=hs₅.extBut _ _ D.TOz.symm (hs₄.extBut _ _ D.i2z.symm (hs₃.extBut _ _ D.TOz.symm (hs₂.extBut _ _ D.i1z.symm hz₁)));have hk₅:∀ c o,c≠z→c≠TO→c≠i1→c≠i2→s.heap.get? c=some o→h₅.get? c=some o:=fun c o c1 c2 c3 c4 e=>hs₅.extBut _ _ c2 (hs₄.extBut _ _ c4 (hs₃.extBut _ _ c2 (hs₂.extBut _ _ c3 (hs₁.extBut _ _ c1 e))))
 have h1₅:k1.isIt h₅ i1 l1 (i+1):=k1.itK h1₂ fun o e=>hs₅.extBut _ _ D.TOi1.symm (hs₄.extBut _ _ D.i12 (hs₃.extBut _ _ D.TOi1.symm e))
 have h2₅:k2.isIt h₅ i2 l2 (i+1):=k2.itK h2₄ fun o e=>hs₅.extBut _ _ D.TOi2.symm e
 have hzlt:z < h₅.objs.size:=Heap.lt_size hz₅;show wpAny _ _ (Builtin.SmallTypes.ownedTupleHandOut (.ref z) (.ref h₅.objs.size) >>= _) _ _ _;refine wpAny_bind ?_;unfold Builtin.SmallTypes.ownedTupleHandOut
 have hz₆:IsZip (h₅.push { cls:=.type "tuple",data:=.seq #[x,y] }) z TI TO .ellipsis:=Heap.get?_push_of_some _ hz₅;refine wpAny_bind (wpAny_setField_rec hz₆ (by simp) fun h₇ hz₇ hs₇=>?_);replace hz₇:IsZip h₇ z TI TO (rawInt h₅.objs.size):=hz₇;refine wpAny_setField_rec hz₇ (by simp) fun h₈ hz₈ hs₈=>?_;replace hz₈:IsZip h₈ z TI TO (rawInt h₅.objs.size):=hz₈
 have up:∀ c o,c≠z→h₅.get? c=some o→h₈.get? c=some o:=fun c o c1 e=>hs₈.extBut _ _ c1 (hs₇.extBut _ _ c1 (Heap.get?_push_of_some _ e))
 have hT₈:IsPair h₈ h₅.objs.size x y:=hs₈.extBut _ _ (Nat.ne_of_gt hzlt) (hs₇.extBut _ _ (Nat.ne_of_gt hzlt) (Heap.get?_push_size _ rfl));have hz8:h₈.objs.size=h₅.objs.size+1:=by rw [hs₈.1,hs₇.1,Heap.size_push]
 rw [hsz] at hz₈ hT₈ hz8;refine wpAny_pure ⟨_,rfl,?_⟩;show Q (.ref h₅.objs.size) _;rw [hsz];exact hQ h₈ hz₈ (up _ _ D.TOz hTO₅) (k1.itK h1₅ fun o e=>up _ o D.i1z e) (k2.itK h2₅ fun o e=>up _ o D.i2z e) hT₈ hz8 fun c o c1 c2 c3 c4 e=>up c o c1 (hk₅ c o c1 c2 c3 c4 e)
theorem zip_stopK (k1 k2:SeqK) {z TI TO i1 i2 l1 l2:Addr}{i:Nat}{xs ys:Array Value}{a b:Value}{Q:Fin→Shared→Prop}(hh:A.handled=none) (D:ZNe z TI TO i1 i2) (l1z:l1≠z) (l2z:l2≠z) (l2TO:l2≠TO) (l2i1:l2≠i1)
  (hz:IsZip s.heap z TI TO .none) (hTI:IsPair s.heap TI (.ref i1) (.ref i2)) (hTO:IsPair s.heap TO a b) (h1:k1.isIt s.heap i1 l1 i) (h2:k2.isIt s.heap i2 l2 i) (hl1:k1.isSeq s.heap l1 xs) (hl2:k2.isSeq s.heap l2 ys) (hend:xs[i]?=none∨ys[i]?=none)
  (hE:∀ h' e,(∀ c o,c≠z→c≠TO→c≠i1→c≠i2→s.heap.get? c=some o→h'.get? c=some o)→(∃ o,h'.get? e=some o∧o.cls=.type "StopIteration")→E (.ref e) { s with heap:=h' }) :
  wpAny (model prog w) A (Builtin.«zip.__next__» ⟨[.ref z],[]⟩) Q E s:=by
 show wpAny _ _ (field (.ref z) 2 >>= _) _ _ _;refine wpAny_bind (wpAny_field hz rfl (x:=.bool false) rfl ?_);show wpAny _ _ (field (.ref z) 3 >>= _) _ _ _;refine wpAny_bind (wpAny_field hz rfl (x:=.ref TI) rfl ?_);refine wpAny_bind (wpAny_seqItems hTI rfl ?_);show wpAny _ _ (Builtin.SmallTypes.ownedTupleIsFree (.ref z) >>= _) _ _ _;refine wpAny_bind ?_;unfold Builtin.SmallTypes.ownedTupleIsFree;refine wpAny_bind (wpAny_field hz rfl (x:=.none) rfl (wpAny_pure ?_));simp only [if_true];refine wpAny_bind (wpAny_rule ?_);refine wpAny_bind (wpAny_field hz rfl (x:=.ref TO) rfl ?_);refine wpAny_bind (wpAny_setField_rec hz (by simp) fun h₁ hz₁ hs₁=>?_);replace hz₁:IsZip h₁ z TI TO .ellipsis:=hz₁;refine wpAny_bind ?_;simp only [List.zipIdx_cons,List.zipIdx_nil,List.forIn_cons,List.forIn_nil];refine wpAny_bind (wpAny_bind (wpAny_onRaise ?_));show wpAny _ _ (Builtin.SmallTypes.nextOf (.ref i1) >>= _) _ _ _;cases hx:xs[i]? with
 | none =>
  refine wpAny_bind (k1.stop hh (k1.itK h1 fun o e=>hs₁.extBut _ _ D.i1z e) (k1.seqK hl1 fun o e=>hs₁.extBut _ _ l1z e) hx fun h₂ e hs₂ he=>?_);obtain ⟨oe,hoe,hce⟩:=he;have hz₂:IsZip h₂ z TI TO .ellipsis:=hs₂ _ _ D.i1z.symm hz₁;have hez:e≠z:=fun x=>by subst x;rw [hz₂] at hoe;cases hoe;simp at hce
  exact wpAny_setField_rec hz₂ (by simp) fun h₃ _ hs₃=>hE h₃ e (fun c o c1 _ c3 _ x=>hs₃.extBut _ _ c1 (hs₂ _ _ c3 (hs₁.extBut _ _ c1 x))) ⟨oe,hs₃.extBut _ _ hez hoe,hce⟩
 | some x =>
  have hy:ys[i]?=none:=by rcases hend with h | h;rw [hx] at h;cases h;exact h
  refine wpAny_bind (k1.next (k1.itK h1 fun o e=>hs₁.extBut _ _ D.i1z e) (k1.seqK hl1 fun o e=>hs₁.extBut _ _ l1z e) hx fun h₂ h1₂ hs₂=>wpAny_pure ?_);have hTO₂:IsPair h₂ TO a b:=hs₂.extBut _ _ D.TOi1 (hs₁.extBut _ _ D.TOz hTO);refine wpAny_bind (wpAny_seqItems hTO₂ rfl ?_);refine wpAny_bind (wpAny_updateSeq_pair hTO₂ fun h₃ hTO₃ hs₃=>?_);refine wpAny_bind (wpAny_letGo (wpAny_pure ?_));refine wpAny_bind (wpAny_bind (wpAny_onRaise ?_));show wpAny _ _ (Builtin.SmallTypes.nextOf (.ref i2) >>= _) _ _ _;refine wpAny_bind (k2.stop hh (k2.itK h2 fun o e=>hs₃.extBut _ _ D.TOi2.symm (hs₂.extBut _ _ D.i12.symm (hs₁.extBut _ _ D.i2z e))) (k2.seqK hl2 fun o e=>hs₃.extBut _ _ l2TO (hs₂.extBut _ _ l2i1 (hs₁.extBut _ _ l2z e))) hy fun h₄ e hs₄ he=>?_);obtain ⟨oe,hoe,hce⟩:=he;have hz₄:IsZip h₄ z TI TO .ellipsis:=hs₄ _ _ D.i2z.symm (hs₃.extBut _ _ D.TOz.symm (hs₂.extBut _ _ D.i1z.symm hz₁));have hez:e≠z:=fun x=>by subst x;rw [hz₄] at hoe;cases hoe;simp at hce
  exact wpAny_setField_rec hz₄ (by simp) fun h₅ _ hs₅=>hE h₅ e (fun c o c1 c2 c3 c4 x=>hs₅.extBut _ _ c1 (hs₄ _ _ c4 (hs₃.extBut _ _ c2 (hs₂.extBut _ _ c3 (hs₁.extBut _ _ c1 x))))) ⟨oe,hs₅.extBut _ _ hez hoe,hce⟩
end
noncomputable def Itz (k1 k2:SeqK) (K:PySem.W.Frag) (l1 l2:Addr):It :=
  ⟨fun i H=>∃ xs ys x y,k1.sq K H l1 xs∧k2.sq K H l2 ys∧xs[i]?=some x∧ys[i]?=some y,
   fun i H v H'=>∃ T x y,H T=none∧v=.ref T∧(∀ xs,k1.sq K H l1 xs→xs[i]?=some x)∧(∀ ys,k2.sq K H l2 ys→ys[i]?=some y)∧H'=upd H T (.tup [x,y]),
   fun i H=>∃ xs ys,k1.sq K H l1 xs∧k2.sq K H l2 ys∧(xs.length≤i∨ys.length≤i)⟩
theorem turn_zip {P:Program}{w:World}{K:PySem.W.Frag}(k1 k2:SeqK) {elts:List Expr}{kk:Nat}{tp:Pos}(l1 l2 z TI TO i1 i2:Addr) (D:ZNe z TI TO i1 i2) :
  Turn P w K (.Tuple elts kk tp) (Itz k1 k2 K l1 l2) [z,TI,TO,i1,i2] z (fun i h=>IsZip h z TI TO .none∧IsPair h TI (.ref i1) (.ref i2)∧(∃ a b,IsPair h TO a b)∧k1.isIt h i1 l1 i∧k2.isIt h i2 l2 i) where
 mem:=by simp
 obj:=fun i h st b hb=>by
  obtain ⟨hz,hTI,⟨a,c,hTO⟩,h1,h2⟩:=st;have hb:b=z∨b=TI∨b=TO∨b=i1∨b=i2:=by simpa using hb
  rcases hb with rfl | rfl | rfl | rfl | rfl
  ·exact ⟨_,hz,fun v q=>by have q':Data.fields _=Data.cell v:=q;cases q'⟩
  ·exact ⟨_,hTI,fun v q=>by have q':Data.seq _ _=Data.cell v:=q;cases q'⟩
  ·exact ⟨_,hTO,fun v q=>by have q':Data.seq _ _=Data.cell v:=q;cases q'⟩
  ·obtain ⟨o,q,c,vs,d⟩:=k1.itO h1;exact ⟨o,q,fun v z=>by rw [d] at z;cases z⟩
  ·obtain ⟨o,q,c,vs,d⟩:=k2.itO h2;exact ⟨o,q,fun v z=>by rw [d] at z;cases z⟩
 keep:=fun i h h' st kp=>by
  obtain ⟨hz,hTI,⟨a,c,hTO⟩,h1,h2⟩:=st;exact ⟨kp z (by simp) _ hz,kp TI (by simp) _ hTI,⟨a,c,kp TO (by simp) _ hTO⟩,k1.itK h1 fun o q=>kp i1 (by simp) o q,k2.itK h2 fun o q=>kp i2 (by simp) o q⟩
 item:=by
  intro X hP hw hK hc i pins s σ H E I hf st hg;subst hP hw hK;obtain ⟨xs,ys,x,y,hq1,hq2,hx,hy⟩:=hg;obtain ⟨its1,rv1,p1,hz1⟩:=k1.get I hq1;obtain ⟨its2,rv2,p2,hz2⟩:=k2.get I hq2;obtain ⟨u1,hu1,ru1⟩:=rv1.get hx;obtain ⟨u2,hu2,ru2⟩:=rv2.get hy;obtain ⟨hz,hTI,⟨a,c,hTO⟩,h1,h2⟩:=st;have fz:=hf z (by simp);have fTO:=hf TO (by simp);have f1:=hf i1 (by simp)
  have hT:s.TypeIs (.ref z) "zip":=⟨_,hz,rfl⟩
  unfold pyNext
  refine wpAny_bind (wpAny_attempt (wpAny_callSpecial?_slot (name:=Str.ofString "__next__") hT F.slot_zip_next (wpAny_call_entry F.slot_zip_next hT F.entry_zip_next
   (zip_itemK k1 k2 (i:=i) D (k1.ne I hq1 fz) (k1.ne I hq1 fTO) (k1.ne I hq1 f1) (k2.ne I hq2 fz) (k2.ne I hq2 fTO) (k2.ne I hq2 f1) hz hTI hTO h1 h2 p1 p2 (x:=u1) (y:=u2) (by simpa using hu1) (by simpa using hu2) fun h' a1 a2 a3 a4 a5 a6 hk=>wpAny_pure ?_) (F.args_zip_next_1 _))))
  refine ⟨_,rfl,wpAny_letOwnedTupleGo_zip a1 fun h2' hz' hs'=>?_⟩;have zlt:z < s.heap.objs.size:=Heap.lt_size hz;have hT2:TupP h2' s.heap.objs.size #[u1,u2]:=⟨_,hs'.extBut _ _ (Nat.ne_of_gt zlt) a5,rfl,rfl,_,rfl⟩;have nb:∀ b,b ∉ [z,TI,TO,i1,i2]→b≠z∧b≠TO∧b≠i1∧b≠i2:=fun b hb=>by simp at hb;exact ⟨hb.1,hb.2.2.1,hb.2.2.2.1,hb.2.2.2.2⟩
  have I2:Inv X pins σ (upd H s.heap.objs.size (.tup [x,y])) { s with heap:=h2' }:=inv_turns_new (t':=s.toks) (fp:=[z,TI,TO,i1,i2]) I (fun b o hb q=>hs'.extBut b o (nb b hb).1 (hk b o (nb b hb).1 (nb b hb).2.1 (nb b hb).2.2.1 (nb b hb).2.2.2 q)) hf (Nat.le_refl _) ⟨by simp [sizeLine_eq],[u1,u2],.cons ru1 (.cons ru2 .nil),hT2⟩;refine ⟨.ref s.heap.objs.size,_,I2,rfl,⟨s.heap.objs.size,x,y,I.hok.fresh (Nat.le_refl _),rfl,fun zs q=>by rw [k1.inj I q hq1];exact hx,fun zs q=>by rw [k2.inj I q hq2];exact hy,rfl⟩,⟨hz',hs'.extBut _ _ D.TIz (hk _ _ D.TIz D.TITO D.TIi1 D.TIi2 hTI),⟨_,_,hs'.extBut _ _ D.TOz a2⟩,k1.itK a3 fun o q=>hs'.extBut _ _ D.i1z q,k2.itK a4 fun o q=>hs'.extBut _ _ D.i2z q⟩,fun b hb=>?_⟩;rw [upd_ne ?_]
  ·exact (hf b hb).1
  ·intro q;have hb:b=z∨b=TI∨b=TO∨b=i1∨b=i2:=by simpa using hb
   have lt:b < s.heap.objs.size:=by
    rcases hb with e | e | e | e | e
    ·rw [e];exact zlt
    ·rw [e];exact Heap.lt_size hTI
    ·rw [e];exact Heap.lt_size hTO
    ·obtain ⟨o,q,_⟩:=k1.itO h1;rw [e];exact Heap.lt_size q
    ·obtain ⟨o,q,_⟩:=k2.itO h2;rw [e];exact Heap.lt_size q
   exact absurd q (Nat.ne_of_lt lt)
 done:=by
  intro X hP hw hK hc i pins s σ H E I hf st hg;subst hP hw hK;obtain ⟨xs,ys,hq1,hq2,hx⟩:=hg;obtain ⟨its1,rv1,p1,hz1⟩:=k1.get I hq1;obtain ⟨its2,rv2,p2,hz2⟩:=k2.get I hq2;obtain ⟨hz,hTI,⟨a,c,hTO⟩,h1,h2⟩:=st;have fz:=hf z (by simp);have fTO:=hf TO (by simp);have f1:=hf i1 (by simp)
  have hT:s.TypeIs (.ref z) "zip":=⟨_,hz,rfl⟩
  have e1:=rv1.length;have e2:=rv2.length;unfold pyNext
  refine wpAny_bind (wpAny_attempt (wpAny_callSpecial?_slot (name:=Str.ofString "__next__") hT F.slot_zip_next (wpAny_call_entry F.slot_zip_next hT F.entry_zip_next
   (zip_stopK k1 k2 (i:=i) (A:=X.A.in1) (I.ok.hd hc) D (k1.ne I hq1 fz) (k2.ne I hq2 fz) (k2.ne I hq2 fTO) (k2.ne I hq2 f1) hz hTI hTO h1 h2 p1 p2 ?_ fun h' e hk he=>?_) (F.args_zip_next_1 _))))
  ·rcases hx with q | q
   ·exact .inl (by simp;omega)
   ·exact .inr (by simp;omega)
  ·obtain ⟨o,ho,hcl⟩:=he
   refine wpAny_bind (wpAny_isInstance (T := "StopIteration") (b:=true) ⟨o,ho,hcl⟩ isSubtype_stop (wpAny_pure ⟨rfl,?_⟩))
   exact inv_turns (t':=s.toks) (fp:=[z,TI,TO,i1,i2]) I (fun b o hb q=>by
    simp at hb
    exact hk b o hb.1 hb.2.2.1 hb.2.2.2.1 hb.2.2.2.2 q) hf
 self:=fun _ i s Q E st h=>wpAny_pyIter_zip st.1 h
noncomputable abbrev zK1 (k1:SeqK) (h:Heap) (l1:Addr):Heap:=h.push { cls:=.type k1.cls,data:=.fields #[.ref l1,.int 0 0] }
noncomputable abbrev zK2 (k1 k2:SeqK) (h:Heap) (l1 l2:Addr):Heap:=(zK1 k1 h l1).push { cls:=.type k2.cls,data:=.fields #[.ref l2,.int 0 0] }
noncomputable abbrev zK3 (k1 k2:SeqK) (h:Heap) (l1 l2:Addr):Heap:=(zK2 k1 k2 h l1 l2).push { cls:=.type "tuple",data:=.seq #[.ref h.objs.size,.ref (zK1 k1 h l1).objs.size] }
noncomputable abbrev zK4 (k1 k2:SeqK) (h:Heap) (l1 l2:Addr):Heap:=(zK3 k1 k2 h l1 l2).push { cls:=.type "tuple",data:=.seq #[.none,.none] }
noncomputable abbrev zK5 (k1 k2:SeqK) (h:Heap) (l1 l2:Addr):Heap:=(zK4 k1 k2 h l1 l2).push { cls:=.type "zip",data:=.fields #[.none,.bool false,.bool false,.ref (zK2 k1 k2 h l1 l2).objs.size,.ref (zK3 k1 k2 h l1 l2).objs.size] }
theorem meets_zipK (k1 k2:SeqK) (l1 l2:Addr) (xs ys:Array Value) :
  Meets (Builtin.«zip.__new__» ⟨[.type "zip",.ref l1,.ref l2],[]⟩) (fun _ R s=>k1.isSeq s.heap l1 xs∧k2.isSeq s.heap l2 ys ∧
   R (.ok (.ret (.ref (zK4 k1 k2 s.heap l1 l2).objs.size))) { s with heap:=zK5 k1 k2 s.heap l1 l2 }) :=
 .of_wp fun prog w A R s h=>by
  obtain ⟨hp,g,d,tk,os⟩:=s;obtain ⟨hl1,hl2,h⟩:=h;have hsub:=sub_zip;have hL1:k1.isSeq (Shared.heap ⟨hp,g,d,tk,os⟩) l1 xs:=hl1;have hL2:k2.isSeq (Shared.heap ⟨hp.push { cls:=.type k1.cls,data:=.fields #[.ref l1,.int 0 0] },g,d,tk,os⟩) l2 ys:=k2.seqK hl2 fun o e=>Heap.get?_push_of_some _ e
  wp_walk using k1.iter hL1,k2.iter hL2
  exact ⟨_,rfl,h⟩
section
variable {prog:Program}{w:World}{A:Around}{E:Value→Shared→Prop}{s:Shared}
theorem call_zipK (k1 k2:SeqK) {l1 l2:Addr}{xs ys:Array Value}{Q:Value→Shared→Prop}(hl1:k1.isSeq s.heap l1 xs) (hl2:k2.isSeq s.heap l2 ys)
  (h:∀ h',IsZip h' (s.heap.objs.size+4) (s.heap.objs.size+2) (s.heap.objs.size+3) .none→IsPair h' (s.heap.objs.size+2) (.ref s.heap.objs.size) (.ref (s.heap.objs.size+1)) →
   IsPair h' (s.heap.objs.size+3) .none .none→k1.isIt h' s.heap.objs.size l1 0→k2.isIt h' (s.heap.objs.size+1) l2 0→h'.objs.size=s.heap.objs.size+5 →
   (∀ c o,s.heap.get? c=some o→h'.get? c=some o)→Q (.ref (s.heap.objs.size+4)) { s with heap:=h' }) :
  wpAny (model prog w) A (call (.type "zip") [.ref l1,.ref l2]) Q E s:=by
 refine callType_new F.called_zip (by decide) (F.typeCall_zip_2 _ _) (F.newCall_zip_2 _ _) (fun obj=>F.args_object_init_3 obj _ _) F.entry_zip_new
  (meets_zipK k1 k2 l1 l2 xs ys) ⟨hl1,hl2,?_⟩
 have z1:(zK1 k1 s.heap l1).objs.size=s.heap.objs.size+1:=Heap.size_push ..;have z2:(zK2 k1 k2 s.heap l1 l2).objs.size=s.heap.objs.size+2:=by rw [Heap.size_push,z1]
 have z3:(zK3 k1 k2 s.heap l1 l2).objs.size=s.heap.objs.size+3:=by rw [Heap.size_push,z2]
 have z4:(zK4 k1 k2 s.heap l1 l2).objs.size=s.heap.objs.size+4:=by rw [Heap.size_push,z3]
 have z5:(zK5 k1 k2 s.heap l1 l2).objs.size=s.heap.objs.size+5:=by rw [Heap.size_push,z4]
 have g5:(zK5 k1 k2 s.heap l1 l2).get? (zK4 k1 k2 s.heap l1 l2).objs.size=some _:=Heap.get?_push_size _ rfl;have g4:(zK5 k1 k2 s.heap l1 l2).get? (zK3 k1 k2 s.heap l1 l2).objs.size=some _:=Heap.get?_push_of_some _ (Heap.get?_push_size _ rfl);have g3:(zK5 k1 k2 s.heap l1 l2).get? (zK2 k1 k2 s.heap l1 l2).objs.size=some _:=Heap.get?_push_of_some _ (Heap.get?_push_of_some _ (Heap.get?_push_size _ rfl));have g2:(zK5 k1 k2 s.heap l1 l2).get? (zK1 k1 s.heap l1).objs.size=some _:=Heap.get?_push_of_some _ (Heap.get?_push_of_some _ (Heap.get?_push_of_some _ (Heap.get?_push_size _ rfl)));have g1:(zK5 k1 k2 s.heap l1 l2).get? s.heap.objs.size=some _:=Heap.get?_push_of_some _ (Heap.get?_push_of_some _ (Heap.get?_push_of_some _ (Heap.get?_push_of_some _ (Heap.get?_push_size _ rfl))));show _∧_;rw [z2,z3,z4] at g5;rw [z1,z2] at g3;rw [z3] at g4;rw [z1] at g2;rw [z4]
 exact ⟨⟨_,g5,rfl⟩,h _ g5 g3 g4 (k1.itK (k1.new s.heap l1) fun o e=>Heap.get?_push_of_some _ (Heap.get?_push_of_some _ (Heap.get?_push_of_some _ (Heap.get?_push_of_some _ e)))) (by
  have:=k2.itK (h':=zK5 k1 k2 s.heap l1 l2) (k2.new (zK1 k1 s.heap l1) l2) fun o e=>Heap.get?_push_of_some _ (Heap.get?_push_of_some _ (Heap.get?_push_of_some _ e))
  rw [z1] at this
  exact this) z5 fun c o x =>
  Heap.get?_push_of_some _ (Heap.get?_push_of_some _ (Heap.get?_push_of_some _ (Heap.get?_push_of_some _ (Heap.get?_push_of_some _ x))))⟩
end
noncomputable def zipS:List D→MH→Option (Src×MH)
 | [x,y],mh=>match srcOf x mh,srcOf y mh with
  | some s,some t=>some (.zip s t,mh)
  | _,_=>none
 | _,_=>none
noncomputable def zipM (mr:DM (List D)):DM Src:=mr.bnd fun ds=>fun _ mh=>zipS ds mh
theorem src_sr {K:PySem.W.Frag}{H:Hp}{ρ:List Addr}{mh:MH}{x:D}{v:V}{s:Src}(rs:RS K H ρ mh) (r:RD K H ρ x v) (e:srcOf x mh=some s):∃ (k:SeqK) (a:Addr) (xs:List V),v=.ref a∧SR k K H ρ s a∧k.sq K H a xs:=by
 cases x with
 | tup ds =>
  cases e;cases r with
  | tup sq r=>exact ⟨seqT,_,_,rfl,SR.tup sq r,sq⟩
 | ref n =>
  cases eo:mh[n]? with
  | none=>simp only [srcOf,eo] at e;cases e
  | some ob =>
   cases ob with
   | dct kvs=>simp only [srcOf,eo] at e;cases e
   | lst o =>
   simp only [srcOf,eo] at e;cases e;cases r with
   | @ref _ a' h =>
    obtain ⟨a2,ha2,ro⟩:=rs.at eo;rw [h] at ha2;cases ha2;obtain ⟨xs,sq,r⟩:=ro.read;exact ⟨seqL,_,xs,rfl,SR.lst h,sq⟩
 | rol ds =>
  cases e;cases r with
  | rol sq r=>exact ⟨seqL,_,_,rfl,SR.rol sq r,sq.sq⟩
 | non=>cases e
 | bl b=>cases e
 | int i=>cases e
 | str z=>cases e
 | obj c ks ds=>cases e
theorem JR.zip {k1 k2:SeqK}{K:PySem.W.Frag}{H0:Hp}{ρ0:List Addr}{s1 s2:Src}{a1 a2:Addr}(S1:SR k1 K H0 ρ0 s1 a1) (S2:SR k2 K H0 ρ0 s2 a2):JR K H0 ρ0 (.zip s1 s2) (Itz k1 k2 K a1 a2) where
 go:=fun H ρ mh i d e rs q=>by
  have q:(List.zipWith (fun a b=>D.tup [a,b]) (s1.items mh) (s2.items mh))[i]?=some d:=q;rw [List.getElem?_zipWith] at q;cases e1:(s1.items mh)[i]? with
  | none=>rw [e1] at q;simp at q
  | some d1 =>
   cases e2:(s2.items mh)[i]? with
   | none=>rw [e1,e2] at q;simp at q
   | some d2 =>
    rw [e1,e2] at q;cases q;obtain ⟨xs,sq,r⟩:=S1.rd H ρ mh e rs (S1.ok mh i d1 e1);obtain ⟨ys,sq2,r2⟩:=S2.rd H ρ mh e rs (S2.ok mh i d2 e2);obtain ⟨v,ev,rv⟩:=r.get e1;obtain ⟨u,eu,ru⟩:=r2.get e2;refine ⟨⟨xs,ys,v,u,sq,sq2,ev,eu⟩,?_⟩;rintro x H' ⟨T,x',y',hT,h1,h2,h3,h4⟩;subst h1;subst h4;have t1:=h2 xs sq;rw [ev] at t1;cases t1;have t2:=h3 ys sq2;rw [eu] at t2;cases t2;exact ⟨Ev.new hT,rs.new hT,.tup (.inl (.inl upd_same)) (.cons (rv.mono (Ev.new hT)) (.cons (ru.mono (Ev.new hT)) .nil))⟩
 stop:=fun H ρ mh i e rs q=>by
  have q:((s1.ok mh&&s2.ok mh)&&decide ((List.zipWith (fun a b=>D.tup [a,b]) (s1.items mh) (s2.items mh)).length≤i))=true:=q;rw [Bool.and_eq_true,Bool.and_eq_true,List.length_zipWith] at q;obtain ⟨xs,sq,r⟩:=S1.rd H ρ mh e rs q.1.1;obtain ⟨ys,sq2,r2⟩:=S2.rd H ρ mh e rs q.1.2;have:=of_decide_eq_true q.2;refine ⟨xs,ys,sq,sq2,?_⟩;rw [← r.length,← r2.length];omega
section
variable {X:Cx}
theorem boot_zip:bootBuiltins "zip"=some (.type "zip"):=by decide +kernel
theorem zip_pie (k1 k2:SeqK) {pins:List (Addr×Obj)}{σ:L2.St}{H:Hp}{s:Shared}{R:It→Hp→Prop}{E:Value→Shared→Prop}{elts:List Expr}{kk:Nat}{tp:Pos}{a b:Addr}{xs ys:List V}(I:Inv X pins σ H s) (hq:k1.sq X.K H a xs) (hq2:k2.sq X.K H b ys) (hR:R (Itz k1 k2 X.K a b) H) :
  wpAny (model X.prog X.w) X.A (call (.type "zip") [.ref a,.ref b]) (fun v s1=>wpAny (model X.prog X.w) X.A (pyIter v) (PIE X pins σ (.Tuple elts kk tp) R) E s1) E s:=by
 obtain ⟨its,rv,p,hz⟩:=k1.get I hq;obtain ⟨its2,rv2,p2,hz2⟩:=k2.get I hq2;refine call_zipK k1 k2 p p2 fun h' g1 g2 g3 g4 g5 hsz hk=>wpAny_pyIter_zip g1 ?_
 have I1:Inv X pins σ H { s with heap:=h' }:=I.kept (t':=s.toks) hk;refine ⟨s.heap.objs.size+4,[s.heap.objs.size+4,s.heap.objs.size+2,s.heap.objs.size+3,s.heap.objs.size,s.heap.objs.size+1],_,Itz k1 k2 X.K a b,H,rfl,I1,turn_zip k1 k2 a b _ _ _ _ _ ?_,⟨g1,g2,⟨_,_,g3⟩,g4,g5⟩,fun c hc=>?_,hR⟩
 ·generalize s.heap.objs.size=N;exact ⟨Nat.ne_of_lt (Nat.lt_succ_of_lt (Nat.lt_succ_self _)),Nat.ne_of_lt (Nat.lt_succ_self _),Nat.ne_of_lt (Nat.lt_add_of_pos_right (by decide)),Nat.ne_of_lt (Nat.add_lt_add_left (by decide) N),Nat.ne_of_lt (Nat.lt_succ_self _),Nat.ne_of_gt (Nat.lt_add_of_pos_right (by decide)),Nat.ne_of_gt (Nat.lt_succ_self _),Nat.ne_of_gt (Nat.lt_add_of_pos_right (by decide)),Nat.ne_of_gt (Nat.add_lt_add_left (by decide) N),Nat.ne_of_lt (Nat.lt_succ_self _)⟩
 ·have hc:c=s.heap.objs.size+4∨c=s.heap.objs.size+2∨c=s.heap.objs.size+3∨c=s.heap.objs.size∨c=s.heap.objs.size+1:=by simpa using hc
  have:s.heap.objs.size≤c:=by
   rcases hc with e | e | e | e | e <;> rw [e]
   ·exact Nat.le_add_right _ _
   ·exact Nat.le_add_right _ _
   ·exact Nat.le_add_right _ _
   ·exact Nat.le_refl _
   ·exact Nat.le_add_right _ _
  exact I.fpOk this (I.hok.fresh this)
theorem di_zip {a b:Expr}{mr:DM (List D)}{elts:List Expr}{kk:Nat}{tp p pos:Pos}(hg:Gl X "zip") (hm:X.mg "zip"=none) (ha:DA X [a,b] mr) (hs:starEach [a,b] X.env=(false,eval a X.env)::starEach [b] X.env) (hpl:(backTo pos (starEach [b] X.env)).any (·.1)=false) :
  DI X (.Tuple elts kk tp) (.Call (.Name "zip" p) [a,b] [] pos) (zipM mr):=fun loc mh=>by
 cases ea:mr loc mh with
 | none =>
  have:zipM mr loc mh=none:=by unfold zipM DM.bnd;rw [ea]
  rw [this];exact PI_none
 | some pr =>
  obtain ⟨ds,m1⟩:=pr;have eq:zipM mr loc mh=zipS ds m1:=by unfold zipM DM.bnd;rw [ea]
  rw [eq];rintro pins s σ H R I ⟨ρ,src,mh',q,rl,rs,co⟩;refine Call_ (ld_blt I hg hm boot_zip (PyProof.Rows.callWith_type1 (thn (ha loc mh pos pins s σ H (fun vs H1=>∃ ρ1,Ev X.K H ρ H1 ρ1∧RS X.K H1 ρ1 m1∧RDs X.K H1 ρ1 ds vs) I ⟨ρ,ds,m1,ea,rl,rs,fun H1 ρ1 v e1 rs1 r1=>⟨ρ1,e1,rs1,r1⟩⟩) ?_) hs hpl));rintro us s1 ⟨vs,H1,I1,r1,q1⟩;obtain ⟨ρ1,e1,rs1,rx⟩:=q1;unfold zipS at q;split at q
  ·rename_i x y;cases rx with
   | cons rx ry =>
    cases ry with
    | cons ry rz =>
     cases rz;split at q
     ·rename_i s1' t1' es et;cases q;obtain ⟨k1,a1,xs,rfl,S1,sq1⟩:=src_sr rs1 rx es;obtain ⟨k2,a2,ys,rfl,S2,sq2⟩:=src_sr rs1 ry et;cases r1 with
      | cons u1 r1 =>
       cases r1 with
       | cons u2 r1 =>
        cases r1;cases u1;cases u2;exact zip_pie k1 k2 I1 sq1 sq2 (co H1 ρ1 _ e1 rs1 (JR.zip S1 S2))
     ·cases q
  ·cases q
end
section
variable {X:Cx}
end
noncomputable def methE (T1:String) (f1:D→List D→MH→Option (D×MH)) (T2:String) (f2:D→List D→MH→Option (D×MH)) (mo:DM D) (mr:DM (List D)):DM D:=fun loc mh=>match mo loc mh with
 | some (x,m1)=>if tyOk T1 x m1 then methM T1 f1 mo mr loc mh else methM T2 f2 mo mr loc mh
 | none=>none
theorem de_methE {X:Cx}{e:Expr}{T1 T2:String}{f1 f2:D→List D→MH→Option (D×MH)}{mo:DM D}{mr:DM (List D)}(h1:DE X e (methM T1 f1 mo mr)) (h2:DE X e (methM T2 f2 mo mr)):DE X e (methE T1 f1 T2 f2 mo mr):=fun loc mh=>by
 unfold methE;split
 ·split
  ·exact h1 loc mh
  ·exact h2 loc mh
 ·exact PE_none
section
variable {prog:Program}{w:World}{A:Around}{E:Value→Shared→Prop}{s:Shared}
theorem collect_tup {l:Addr}{vs:List Value}{Q:List Value→Shared→Prop}(hl:s.heap.IsTuple l vs.toArray)
  (h:Q vs { s with heap:=(s.heap.push (seqObj "list" #[] 0)).update s.heap.objs.size (Obj.mapSeq (·++vs.toArray)) }) (hsz:vs.length≤sizeLine) :
  wpAny (model prog w) A (collect (.ref l)) Q E s:=by
 obtain ⟨o,ho,hc,n,hd⟩:=id hl;unfold collect;refine wpAny_bind (wpAny_runValue (codeAny_builtin entry_proto_collect' ?_))
 show wpAny _ _ (do again (.builtin "list.__iadd__" ⟨[← newList [],.ref l],[]⟩)) _ _ s;refine wpAny_bind (wpAny_newList (wpAny_pure ⟨Code.quiet_builtin _ (by decide +kernel),codeAny_builtin entry_list_iadd' ?_⟩))
 show wpAny _ _ (Builtin.List.listExtendWith (.ref s.heap.objs.size) (.ref l) (.ref s.heap.objs.size)) _ _ { s with heap:=s.heap.push (seqObj "list" #[] 0) };unfold Builtin.List.listExtendWith
 have ho':(s.heap.push (seqObj "list" #[] 0)).get? l=some o:=Heap.get?_push_of_some _ ho
 refine wpAny_bind (wpAny_typeOf (T := "tuple") ⟨o,ho',hc⟩ ?_)
 have ht:(Value.type "tuple"==Value.type "tuple")=true:=by rfl
 rw [if_pos (by rw [ht];simp)];refine wpAny_bind (listItems_at ho' hd ?_);refine wpAny_bind (listItems_at (xs:=#[]) (n:=0) (Heap.get?_push_size _ rfl) rfl ?_);rw [if_neg (by simp)];refine wpAny_bind (listUpdate_at (xs:=#[]) (n:=0) (Heap.get?_push_size _ rfl) rfl ?_ (Nat.zero_le _) (by show (#[]++vs.toArray).size≤sizeLine+1;simp only [Array.size_append,List.size_toArray,List.length_nil];omega));refine wpAny_pure ?_
 show wpAny (model prog w) A (do
   let o ← load s.heap.objs.size
   match o.data with
   | .seq xs _=>pure xs.toList
   | _=>unsupported "internal:collect") Q E { s with heap:=(s.heap.push (seqObj "list" #[] 0)).update s.heap.objs.size (Obj.mapSeq (·++vs.toArray)) }
 refine wpAny_bind (wpAny_load (get?_update_seq (Heap.get?_push_size _ rfl) _) ?_);show wpAny _ _ (pure ((#[]:Array Value)++vs.toArray).toList) Q E _;rw [show ((#[]:Array Value)++vs.toArray).toList=vs by simp];exact wpAny_pure h
theorem sorted_intsT {l:Addr}{vs:List Value}{ns:List Int}{Q:Value→Shared→Prop}(hl:s.heap.IsTuple l vs.toArray) (hI:IntsAre vs ns) (h64:vs.length < 64)
  (h:∀ (out:Array Value) (ns':List Int),IntsAre out.toList ns'→ns'.Perm ns→ns'.Pairwise (·≤·)→Q (.ref (s.heap.objs.size+1)) { s with heap:=sortedAll s.heap vs out }) :
  wpAny (model prog w) A (call (.builtin "sorted") [.ref l]) Q E s:=by
 refine Calls.call_function_entry kind_sorted plain_sorted entry_sorted (args_sorted1 _) ?_;unfold Builtin.«sorted»
 refine wpAny_bind (m:=checkCount "sorted" 1 1 _) (wpAny_pure ?_);refine wpAny_bind (collect_tup hl ?_ (by rw [sizeLine_eq];omega));refine wpAny_bind (wpAny_newList ?_ (by rw [sizeLine_eq];omega))
 have hsz:((s.heap.push (seqObj "list" #[] 0)).update s.heap.objs.size (Obj.mapSeq (·++vs.toArray))).objs.size=s.heap.objs.size+1:=by
  rw [Heap.size_update,size_push']
 have hoL:(((s.heap.push (seqObj "list" #[] 0)).update s.heap.objs.size (Obj.mapSeq (·++vs.toArray))).push (seqObj "list" vs.toArray 0)).get? (s.heap.objs.size+1)=some (seqObj "list" vs.toArray 0):=by
  rw [← hsz];exact Heap.get?_push_size _ rfl
 show wpAny _ _ _ _ _ { s with heap:=((s.heap.push (seqObj "list" #[] 0)).update s.heap.objs.size (Obj.mapSeq (·++vs.toArray))).push (seqObj "list" vs.toArray 0) };rw [hsz];refine wpAny_bind (wpAny_holding (wpAny_call_entry slot_list_sort ⟨_,hoL,rfl⟩ entry_list_sort (list_sort_tree hoL hI h64 fun out ns' a1 a2 a3=>⟨_,rfl,?_⟩) (args_list_sort _)));exact wpAny_pure ⟨_,rfl,h out ns' a1 a2 a3⟩
end
noncomputable def sortedA:List D→MH→Option (D×MH)
 | [.tup ds],mh=>match intsOf ds with
  | some ns=>if ns.length < 64 then some (.ref mh.length,mh++[.lst ((sortI ns).map .int)]) else none
  | none=>none
 | ds,mh=>sortedD ds mh
theorem call_sortedA {X:Cx}:CallR X (.builtin "sorted") (rDs X.K sortedA):=by
 rintro pins s σ H xs us Q I r ⟨ρ,mh,ds,d,mh',q,rs,rd,co⟩;unfold sortedA at q;split at q
 ·rename_i es;split at q
  ·rename_i ns ei;split at q
   ·rename_i h64;cases q;obtain ⟨v,rfl,rx⟩:=rds1 rd;obtain ⟨u,rfl,ru⟩:=vals1 r;cases rx with
    | tup sq ry =>
     cases ru;rw [intsOf_some ei] at ry;rw [rds_ints ry] at sq;obtain ⟨its,rv,pl,hz⟩:=I.tuple sq;have hlen:=rv.length;refine sorted_intsT pl (ints_vals rv) (by simp at hlen;omega) fun out ns' a1 a2 a3=>?_
     have es':ns'=sortI ns:=sortI_of a2 a3;subst es';obtain ⟨c,kp,at'⟩:=sortedAll_ok s.heap its out;refine ⟨.ref (s.heap.objs.size+1),_,I.laid (t':=s.toks) (a:=s.heap.objs.size+1) (o:=.lst ((sortI ns).map V.int)) kp (Nat.le_succ _) ⟨?_,out.toList,c,vals_ints a1,?_⟩,rfl,Co.newL rs (rds_intsOf (sortI ns)) co _ (I.hok.fresh (Nat.le_succ _))⟩
     ·rw [List.length_map,(sortI_perm ns).length_eq,sizeLine_eq];omega
     ·rw [at']
   ·cases q
  ·cases q
 ·exact call_sortedD pins s σ H xs us Q I r ⟨ρ,mh,_,d,mh',q,rs,rd,co⟩
inductive DEnts (w:World) (K:PySem.W.Frag):List DictEntry→List (Str×D)→Prop
 | nil:DEnts w K [] []
 | cons {k:Str} {t:Tok} {u:Value} {v:V} {d:D} {es:List DictEntry} {kvs:List (Str×D)}:RelV v u→(∀ H ρ,RD K H ρ d v)→DEnts w K es kvs→DEnts w K ({ hash:=hashStr w k,key:=.str k t,val:=u }::es) ((k,d)::kvs)
structure DicOk (w:World) (K:PySem.W.Frag) (a:Addr) (kvs:List (Str×D)):Prop where
 ns:(a==sysModules)=false
 ob:∃ o es ep,K.lookup a=some o∧o.ExactDict∧o.data=.dict es ep∧DEnts w K es.toList kvs
noncomputable def foundAt (es:List DictEntry) (k:Str):Option Value:=match es with
 | []=>none
 | e::r=>if Value.isStrOf k e.key then some e.val else foundAt r k
theorem findBy_list (es:Array DictEntry) (k:Str):findBy Value.isStrOf es k=foundAt es.toList k:=by
 obtain ⟨l⟩:=es;simp only [findBy,List.find?_toArray]
 induction l with
 | nil=>rfl
 | cons e r ih =>
  rw [List.find?_cons];show _=(if Value.isStrOf k e.key=true then some e.val else foundAt r k);cases h:Value.isStrOf k e.key with
  | true=>rfl
  | false=>exact ih
theorem dents_find {w:World}{K:PySem.W.Frag}:∀ {es:List DictEntry}{kvs:List (Str×D)},DEnts w K es kvs→∀ k:Str,(∃ d u v,kvs.lookup k=some d∧foundAt es k=some u∧RelV v u∧∀ H ρ,RD K H ρ d v)∨(kvs.lookup k=none∧foundAt es k=none)
 | _,_,.nil,k=>.inr ⟨rfl,rfl⟩
 | _,_,@DEnts.cons _ _ k0 t u v d es kvs rv rd h,k=>by
  by_cases e:k=k0
  ·subst e;left;refine ⟨d,u,v,by simp [List.lookup],?_,rv,rd⟩;simp [foundAt,Value.isStrOf]
  ·have e1:(k==k0)=false:=by simpa using e
   have e2:Value.isStrOf k (.str k0 t)=false:=by
    simp [Value.isStrOf];exact fun z=>e z.symm
   rcases dents_find h k with ⟨d',u',v',h1,h2,h3,h4⟩ | ⟨h1,h2⟩
   ·left;refine ⟨d',u',v',by rw [List.lookup_cons,e1];exact h1,?_,h3,h4⟩;show (if Value.isStrOf k (.str k0 t)=true then some u else foundAt es k)=some u';rw [e2];exact h2
   ·right;refine ⟨by rw [List.lookup_cons,e1];exact h1,?_⟩;show (if Value.isStrOf k (.str k0 t)=true then some u else foundAt es k)=none;rw [e2];exact h2
theorem dents_keys {P:Program}{w:World}{K:PySem.W.Frag}{es:List DictEntry}{kvs:List (Str×D)}(h:DEnts w K es kvs):∀ e∈es,∃ k,(PySem.strKind P w).is k e.key=true∧e.hash=(PySem.strKind P w).hash k:=by
 induction h with
 | nil=>intro e he;cases he
 | cons rv rd h ih =>
  intro e he;rcases List.mem_cons.mp he with rfl | he
  ·exact ⟨_,by simp [PySem.strKind,Value.isStrOf],rfl⟩
  ·exact ih e he
section
variable {X:Cx}{a:Addr}{kvs:List (Str×D)}
theorem DicOk.map {pins:List (Addr×Obj)}{σ:L2.St}{H:Hp}{s:Shared}(D:DicOk X.w X.K a kvs) (I:Inv X pins σ H s):∃ f,s.heap.MapOf (PySem.strKind X.prog X.w) a f∧∀ k,(∃ d u v,kvs.lookup k=some d∧f k=some u∧RelV v u∧∀ H ρ,RD X.K H ρ d v)∨(kvs.lookup k=none∧f k=none):=by
 obtain ⟨o,es,ep,h1,h2,h3,h4⟩:=D.ob;refine ⟨foundAt es.toList,⟨o,es,ep,I.kIn a o h1,h2,h3,fun e he=>dents_keys h4 e (by simpa using he),fun k=>findBy_list es k⟩,dents_find h4⟩
theorem op_inDic (D:DicOk X.w X.K a kvs):OpR X (compareOp .In) (fun y x H Q=>∃ k,y=.str k∧x=.ref a∧Q (.bl (kvs.lookup k).isSome) H):=by
 rintro pins s σ H x y v u Q I rx ry ⟨k,ex,ey,q⟩;subst ex;subst ey;obtain ⟨t,rfl⟩:=rx;cases ry;obtain ⟨f,m,hf⟩:=D.map I;refine wpAny_in_of (knd:=PySem.strKind X.prog X.w) (strKind_is _ _ k t) D.ns m ?_;have e:(f k).isSome=(kvs.lookup k).isSome:=by
  rcases hf k with ⟨d,u,v,h1,h2,_⟩ | ⟨h1,h2⟩
  ·rw [h1,h2];rfl
  ·rw [h1,h2];rfl
 rw [e];exact ⟨.bl _,H,I.tok _,rfl,q⟩
theorem op_notInDic (D:DicOk X.w X.K a kvs):OpR X (compareOp .NotIn) (fun y x H Q=>∃ k,y=.str k∧x=.ref a∧Q (.bl (!(kvs.lookup k).isSome)) H):=by
 rintro pins s σ H x y v u Q I rx ry ⟨k,ex,ey,q⟩;subst ex;subst ey;obtain ⟨t,rfl⟩:=rx;cases ry;obtain ⟨f,m,hf⟩:=D.map I;refine wpAny_notIn_of (knd:=PySem.strKind X.prog X.w) (strKind_is _ _ k t) D.ns m ?_;have e:(f k).isSome=(kvs.lookup k).isSome:=by
  rcases hf k with ⟨d,u,v,h1,h2,_⟩ | ⟨h1,h2⟩
  ·rw [h1,h2];rfl
  ·rw [h1,h2];rfl
 rw [e];exact ⟨.bl _,H,I.tok _,rfl,q⟩
theorem ix_dic (D:DicOk X.w X.K a kvs):IxR X (fun x y H Q=>∃ k d,x=.ref a∧y=.str k∧kvs.lookup k=some d∧∀ v,(∀ H ρ,RD X.K H ρ d v)→Q v H):=by
 rintro value slice pins s σ H x y v u Q I rx ry ⟨k,d,ex,ey,hl,q⟩ hs;subst ex;subst ey;cases rx;obtain ⟨t,rfl⟩:=ry;obtain ⟨f,m,hf⟩:=D.map I;rcases hf k with ⟨d',u',v',h1,h2,h3,h4⟩ | ⟨h1,h2⟩
 ·rw [hl] at h1;cases h1;exact subscriptTail_builtinR (x:=u') m.typeIs PySem.F.slot_dict_getitem.lookup (wpAny_getItem_of (knd:=PySem.strKind X.prog X.w) (strKind_is _ _ k t) m h2 ⟨rfl,⟨v',H,I.tok _,h3,q v' h4⟩⟩) hs
 ·rw [hl] at h1;cases h1
variable {e:Expr}{me:DM D}{x:Str}{p pos:Pos}
noncomputable def dicIn (neg:Bool) (kvs:List (Str×D)) (m:DM D):DM D:=m.bnd fun y=>match y with
 | .str k=>DM.ret (.bl (if neg then !(kvs.lookup k).isSome else (kvs.lookup k).isSome))
 | _=>DM.bad
noncomputable def dicIx (kvs:List (Str×D)) (m:DM D):DM D:=m.bnd fun y=>match y with
 | .str k=>(match kvs.lookup k with | some d=>DM.ret d | none=>DM.bad)
 | _=>DM.bad
theorem de_dicIn (D:DicOk X.w X.K a kvs) (hg:Gl X x) (hm:X.mg x=some (.ref a)) (hd:(x==("__debug__":Str))=false) (he:DE X e me):DE X (.Compare e [.In] [.Name x p] pos) (dicIn false kvs me):=fun loc mh =>
 PE_imp (pe_cmpR (op_inDic D) (he loc mh) (pe_glob (v:=.ref a) hg hm rfl hd) rfl) fun σ H Q ⟨ρ,d,mh',q,rl,rs,co⟩=>by
  obtain ⟨y,m1,ea,q⟩:=bnd_some q;cases y with
  | str k=>cases q;exact ⟨ρ,_,_,ea,rl,rs,fun H1 ρ1 v e1 rs1 r1=>by cases r1;exact ⟨k,rfl,rfl,co H1 ρ1 _ e1 rs1 (.bl _)⟩⟩
  | _=>cases q
theorem de_dicNotIn (D:DicOk X.w X.K a kvs) (hg:Gl X x) (hm:X.mg x=some (.ref a)) (hd:(x==("__debug__":Str))=false) (he:DE X e me):DE X (.Compare e [.NotIn] [.Name x p] pos) (dicIn true kvs me):=fun loc mh =>
 PE_imp (pe_cmpR (op_notInDic D) (he loc mh) (pe_glob (v:=.ref a) hg hm rfl hd) rfl) fun σ H Q ⟨ρ,d,mh',q,rl,rs,co⟩=>by
  obtain ⟨y,m1,ea,q⟩:=bnd_some q;cases y with
  | str k=>cases q;exact ⟨ρ,_,_,ea,rl,rs,fun H1 ρ1 v e1 rs1 r1=>by cases r1;exact ⟨k,rfl,rfl,co H1 ρ1 _ e1 rs1 (.bl _)⟩⟩
  | _=>cases q
theorem dt_dicIn (D:DicOk X.w X.K a kvs) (hg:Gl X x) (hm:X.mg x=some (.ref a)) (hd:(x==("__debug__":Str))=false) (he:DE X e me):DT X (.Compare e [.In] [.Name x p] pos) (boolD (dicIn false kvs me)):=fun loc mh =>
 PT_imp (pt_cmpR (op_inDic D) (he loc mh) (pe_glob (v:=.ref a) hg hm rfl hd) rfl) fun σ H Q ⟨ρ,b,mh',q,rl,rs,co⟩=>by
  have q:=boolD_some q;obtain ⟨y,m1,ea,q⟩:=bnd_some q;cases y with
  | str k=>cases q;exact ⟨ρ,_,_,ea,rl,rs,fun H1 ρ1 v e1 rs1 r1=>by cases r1;exact ⟨k,rfl,rfl,_,rfl,co H1 ρ1 e1 rs1⟩⟩
  | _=>cases q
theorem dt_dicNotIn (D:DicOk X.w X.K a kvs) (hg:Gl X x) (hm:X.mg x=some (.ref a)) (hd:(x==("__debug__":Str))=false) (he:DE X e me):DT X (.Compare e [.NotIn] [.Name x p] pos) (boolD (dicIn true kvs me)):=fun loc mh =>
 PT_imp (pt_cmpR (op_notInDic D) (he loc mh) (pe_glob (v:=.ref a) hg hm rfl hd) rfl) fun σ H Q ⟨ρ,b,mh',q,rl,rs,co⟩=>by
  have q:=boolD_some q;obtain ⟨y,m1,ea,q⟩:=bnd_some q;cases y with
  | str k=>cases q;exact ⟨ρ,_,_,ea,rl,rs,fun H1 ρ1 v e1 rs1 r1=>by cases r1;exact ⟨k,rfl,rfl,_,rfl,co H1 ρ1 e1 rs1⟩⟩
  | _=>cases q
theorem de_dicIx (D:DicOk X.w X.K a kvs) (hg:Gl X x) (hm:X.mg x=some (.ref a)) (hd:(x==("__debug__":Str))=false) (he:DE X e me) (hs:PlainIx e):DE X (.Subscript (.Name x p) e pos) (dicIx kvs me):=fun loc mh =>
 PE_imp (pe_ix (ix_dic D) (pe_glob (v:=.ref a) hg hm rfl hd) (he loc mh) hs) fun σ H Q ⟨ρ,d,mh',q,rl,rs,co⟩=>by
  obtain ⟨y,m1,ea,q⟩:=bnd_some q;cases y with
  | str k =>
   cases hl:kvs.lookup k with
   | some d' =>
    simp only [hl] at q;cases q;exact ⟨ρ,_,_,ea,rl,rs,fun H1 ρ1 v e1 rs1 r1=>by cases r1;exact ⟨k,d,rfl,rfl,hl,fun v' hv=>co H1 ρ1 _ e1 rs1 (hv H1 ρ1)⟩⟩
   | none =>
    simp only [hl] at q;cases q
  | _=>cases q
end
mutual
noncomputable def rdV (K:PySem.W.Frag):Nat→Value→Option D
 | _,.none=>some .non
 | _,.bool b=>some (.bl b)
 | _,.int i _=>some (.int i)
 | _,.str x _=>some (.str x)
 | n+1,.ref a=>match K.lookup a with
  | some ⟨.type c,none,.seq its _,_⟩=>if c == "tuple"&&decide (its.size≤1000) then (match rdVs K n its.toList with | some ds=>some (.tup ds) | none=>none) else none
  | _=>none
 | _,_=>none
noncomputable def rdVs (K:PySem.W.Frag):Nat→List Value→Option (List D)
 | _,[]=>some []
 | 0,_::_=>none
 | n+1,u::r=>match rdV K n u with
  | some d=>(match rdVs K n r with | some ds=>some (d::ds) | none=>none)
  | none=>none
end
mutual
theorem rdV_ok {K:PySem.W.Frag}:∀ (n:Nat) {u:Value}{d:D},rdV K n u=some d→∃ v,RelV v u∧∀ H ρ,RD K H ρ d v
 | n,.none,d,h=>by cases n <;> (simp only [rdV] at h;cases h;exact ⟨.non,rfl,fun _ _=>.non⟩)
 | n,.bool b,d,h=>by cases n <;> (simp only [rdV] at h;cases h;exact ⟨.bl b,rfl,fun _ _=>.bl b⟩)
 | n,.int i t,d,h=>by cases n <;> (simp only [rdV] at h;cases h;exact ⟨.int i,⟨t,rfl⟩,fun _ _=>.int i⟩)
 | n,.str x t,d,h=>by cases n <;> (simp only [rdV] at h;cases h;exact ⟨.str x,⟨t,rfl⟩,fun _ _=>.str x⟩)
 | 0,.ref a,d,h=>by simp only [rdV] at h;cases h
 | n+1,.ref a,d,h=>by
  simp only [rdV] at h;split at h
  ·rename_i c its ep sl hk;split at h
   ·rename_i hc;rw [Bool.and_eq_true,decide_eq_true_iff] at hc;split at h
    ·rename_i ds hd;cases h;obtain ⟨vs,h1,h2⟩:=rdVs_ok n hd;refine ⟨.ref a,rfl,fun H ρ=>.tup (.inr ⟨_,its,ep,hk,by rw [eq_of_beq hc.1],rfl,rfl,?_,h1⟩) (h2 H ρ)⟩;rw [sizeLine_eq];omega
    ·cases h
   ·cases h
  ·cases h
 | n,.float _ _,d,h=>by cases n <;> (simp only [rdV] at h;cases h)
 | n,.bytes _ _,d,h=>by cases n <;> (simp only [rdV] at h;cases h)
 | n,.ellipsis,d,h=>by cases n <;> (simp only [rdV] at h;cases h)
 | n,.notImplemented,d,h=>by cases n <;> (simp only [rdV] at h;cases h)
 | n,.type _,d,h=>by cases n <;> (simp only [rdV] at h;cases h)
 | n,.builtin _,d,h=>by cases n <;> (simp only [rdV] at h;cases h)
theorem rdVs_ok {K:PySem.W.Frag}:∀ (n:Nat) {us:List Value}{ds:List D},rdVs K n us=some ds→∃ vs,Vals vs us∧∀ H ρ,RDs K H ρ ds vs
 | n,[],ds,h=>by cases n <;> (simp only [rdVs] at h;cases h;exact ⟨[],.nil,fun _ _=>.nil⟩)
 | 0,_::_,ds,h=>by simp only [rdVs] at h;cases h
 | n+1,u::r,ds,h=>by
  simp only [rdVs] at h;split at h
  ·rename_i d hd;split at h
   ·rename_i ds' hr;cases h;obtain ⟨v,a1,a2⟩:=rdV_ok n hd;obtain ⟨vs,b1,b2⟩:=rdVs_ok n hr;exact ⟨v::vs,.cons a1 b1,fun H ρ=>.cons (a2 H ρ) (b2 H ρ)⟩
   ·cases h
  ·cases h
end
noncomputable def rdE (K:PySem.W.Frag) (n:Nat):List DictEntry→Option (List (Str×D))
 | []=>some []
 | e::r=>match e.key with
  | .str k _=>(match rdV K n e.val with
   | some d=>(match rdE K n r with | some l=>some ((k,d)::l) | none=>none)
   | none=>none)
  | _=>none
noncomputable def rehash (w:World) (e:DictEntry):DictEntry:=match e.key with
 | .str k t=>{ hash:=hashStr w k,key:=.str k t,val:=e.val }
 | _=>e
theorem rdE_ok {w:World}{K:PySem.W.Frag}{n:Nat}:∀ {es:List DictEntry}{kvs:List (Str×D)},rdE K n es=some kvs→DEnts w K (es.map (rehash w)) kvs
 | [],_,h=>by cases h;exact .nil
 | e::r,kvs,h=>by
  obtain ⟨hs,key,val⟩:=e;cases key with
  | str k t =>
   simp only [rdE] at h;split at h
   ·rename_i d hd;split at h
    ·rename_i l hl;cases h;obtain ⟨v,a1,a2⟩:=rdV_ok n hd;exact .cons a1 a2 (rdE_ok hl)
    ·cases h
   ·cases h
  | _=>simp only [rdE] at h;cases h
theorem dic_ok {w:World}{K:PySem.W.Frag}{a:Addr}{es:Array DictEntry}{ep n:Nat}{kvs:List (Str×D)}(hn:(a==sysModules)=false) (hl:K.lookup a=some ⟨.type "dict",none,.dict es ep,#[]⟩) (hh:es.toList.map (rehash w)=es.toList) (hd:rdE K n es.toList=some kvs):DicOk w K a kvs :=
 ⟨hn,_,es,ep,hl,⟨rfl,rfl,rfl⟩,rfl,by rw [← hh];exact rdE_ok hd⟩
noncomputable def fldD (c f:Str) (x:D) (mh:MH):Option (D×MH):=match x with
 | .obj c' ks ds=>if c'==c then (match (ks.zip ds).lookup f with | some d=>some (d,mh) | none=>none) else none
 | _=>none
section
variable {X:Cx}{o:Expr}{mo:DM D}{c f:Str}{C:Addr}{pos apos:Pos}
variable {CX:CXT}{k:Nat}{fa:Addr}{fd:FuncData}{ps:List Str}{m:Str}{g:List D→MH→Option (D×MH)}{e:Expr}{es:List Expr}{mr:DM (List D)}{E:XK}
noncomputable def spI (C:Addr) (f:Str):Sp:=fun vs H Q _=>∃ x dx v,vs=[.ref x,v]∧H x=some (.ins C dx [])∧Q .non (upd H x (.ins C dx [(f,v)]))
end
noncomputable abbrev Fn:=List D→MH→Option (D×MH)
noncomputable def attrM (ok:Str→Str→Bool) (f:Str) (mo:DM D):DM D:=mo.bnd fun x=>match x with
 | .obj c ks ds=>if ok c f then DM.lift (fldD c f (.obj c ks ds)) else DM.bad
 | _=>DM.bad
noncomputable def objM (met:Str→Str→Option (List Str×Fn)) (m:Str) (mo:DM D) (mr:DM (List D)):DM D:=mo.bnd fun x=>match x with
 | .obj c ks ds=>(match met c m with
  | some (_,g)=>if ks.contains m then DM.bad else mr.bnd fun as=>DM.lift (g (.obj c ks ds::as))
  | none=>DM.bad)
 | _=>DM.bad
section
variable {X:Cx}{o:Expr}{mo:DM D}{f m:Str}{pos apos:Pos}
end
section
variable {X:Cx}
noncomputable def twoI:List D→Option (Int×Int)
 | [.int i,.int j]=>some (i,j)
 | _=>none
theorem twoI_some {ds:List D}{z:Int×Int}(h:twoI ds=some z):ds=[.int z.1,.int z.2]:=by
 match ds,h with
 | [d,e],h =>
  cases d with
  | int i =>
   cases e with
   | int j=>cases h;rfl
   | _=>cases h
  | _=>cases h
 | [],h=>cases h
 | [d],h=>cases d <;> cases h
 | d::e::_::_,h=>cases d <;> first | cases h | (cases e <;> cases h)
noncomputable def best2 (f:Int→List Int→Int) (g:Fn):Fn:=fun ds mh=>match twoI ds with
 | some z=>some (.int (f z.1 [z.2]),mh)
 | none=>g ds mh
theorem best2_call {v:Value}{f:Int→List Int→Int}{g:Fn}(h2:CallR X v (fun xs H Q=>∃ i j,xs=[.int i,.int j]∧Q (.int (f i [j])) H)) (hg:CallR X v (rDs X.K g)):CallR X v (rDs X.K (best2 f g)):=by
 rintro pins s σ H xs us Q I r ⟨ρ,mh,ds,d,mh',q,rs,rd,co⟩;unfold best2 at q;cases e:twoI ds with
 | none=>rw [e] at q;exact hg pins s σ H xs us Q I r ⟨ρ,mh,ds,d,mh',q,rs,rd,co⟩
 | some z =>
  rw [e] at q;cases q;rw [twoI_some e] at rd;obtain ⟨v1,v2,rfl,r1,r2⟩:=rds2 rd;cases r1;cases r2;exact h2 pins s σ H _ us Q I r ⟨_,_,rfl,co H ρ _ Ev.refl rs (.int _)⟩
noncomputable def maxD2:Fn:=best2 maxI maxD
noncomputable def minD2:Fn:=best2 minI minD
theorem call_maxD2 (hc:X.calm=true):CallR X (.builtin "max") (rDs X.K maxD2):=best2_call (call_max2 hc) (call_maxD hc)
theorem call_minD2 (hc:X.calm=true):CallR X (.builtin "min") (rDs X.K minD2):=best2_call (call_min2 hc) (call_minD hc)
end
noncomputable def ItrS (lo c:Int) (n:Nat):It:=⟨fun i _=>i < n,fun i H x H'=>H'=H∧x=.int (lo+i * c),fun i _=>n≤i⟩
theorem turn_rangeS {P:Program}{w:World}{K:PySem.W.Frag}{tg:Expr}(it:Addr) (lo c:Int) (n:Nat):Turn P w K tg (ItrS lo c n) [it] it (fun i h=>IsRangeIter h it (lo+(i:Nat) * c) ((n:Int) - (i:Nat)) c) where
 mem:=by simp
 obj:=fun i h st b hb=>by
  have e:b=it:=by simpa using hb
  subst e
  exact ⟨_,st,fun v z=>by
   have z':Data.fields _=Data.cell v:=z
   cases z'⟩
 keep:=fun i h h' st k=>k it (by simp) _ st
 item:=by
  intro X hP hw hK hc i pins s σ H E I hf st hg;subst hP hw hK;obtain ⟨f0,f1,f2,f3,f4,f5⟩:=hf it (by simp);have W:=Walks.range (prog:=X.prog) (w:=X.w) (I.ok.hd hc) it lo c n;refine W.item i s _ _ hg st fun v h' tk hv st' kk=>?_
  obtain ⟨t,rfl⟩:=hv;have I1:Inv X pins σ H { s with heap:=h',toks:=tk }:=I.turned (fun b o hb e=>kk b o (by simpa using hb) e) f0 f1 f3 f4 f5
  exact ⟨_,rfl,go_of (s:={ s with heap:=h',toks:=tk }) (n := "range_iterator") st' rfl rfl (by decide) ⟨.int (lo+i * c),H,I1,⟨t,rfl⟩,⟨rfl,rfl⟩,st',fun b hb=>(hf b hb).1⟩⟩
 done:=by
  intro X hP hw hK hc i pins s σ H E I hf st hg;subst hP hw hK;obtain ⟨f0,f1,f2,f3,f4,f5⟩:=hf it (by simp);exact wpAny_pyNext_range_end (I.ok.hd hc) st (by have:n≤i:=hg;omega) fun h' eb=>⟨rfl,I.turned (t':=s.toks) (fun b o hb e=>eb b o hb e) f0 f1 f3 f4 f5⟩
 self:=fun _ _ _ _ _ st h=>wpAny_pyIter_rangeiter st h
noncomputable def rangeS (lo c:Int) (n:Nat):List D:=(List.range n).map fun (k:Nat)=>D.int (lo+(k:Int) * c)
theorem JR.rngS {K:PySem.W.Frag}{H0:Hp}{ρ0:List Addr}{lo c:Int}{n:Nat}:JR K H0 ρ0 (.seq (rangeS lo c n)) (ItrS lo c n) where
 go:=fun H ρ mh i d e rs q=>by
  have q:(rangeS lo c n)[i]?=some d:=q;unfold rangeS at q;rw [List.getElem?_map] at q
  by_cases hi:i < n
  ·rw [List.getElem?_range hi] at q;cases q;refine ⟨hi,?_⟩;rintro x H' ⟨h1,h2⟩;subst h1;subst h2;exact ⟨Ev.refl,rs,.int _⟩
  ·rw [List.getElem?_eq_none (by simp;omega)] at q;cases q
 stop:=fun H ρ mh i e rs q=>by
  show n≤i;have q:(true&&decide ((rangeS lo c n).length≤i))=true:=q;rw [Bool.true_and] at q;have:=of_decide_eq_true q;unfold rangeS at this
  simpa using this
noncomputable def rngN (a b c:Int):Nat:=(Builtin.Range.rangeSize a b c).toNat
theorem rngN_eq {a b c:Int}(hc:0 < c):((rngN a b c:Nat):Int)=Builtin.Range.rangeSize a b c:=by
 unfold rngN Builtin.Range.rangeSize;rw [if_pos hc];split
 ·have:0≤(b - a - 1) / c:=Int.ediv_nonneg (by omega) (by omega);omega
 ·rfl
theorem rng_small {a b c:Int}(h1:0 < c∧c < 1000) (ha:-1000000≤a∧a≤1000000) (hb:-1000000≤b∧b≤1000000):Builtin.Range.small a b c=true:=by
 have h2:Builtin.Range.rangeSize a b c≤2000001:=by
  unfold Builtin.Range.rangeSize;rw [if_pos h1.1];split
  ·have:(b - a - 1) / c≤b - a - 1:=Int.ediv_le_self _ (by omega);omega
  ·omega
 have h3:0≤Builtin.Range.rangeSize a b c:=by rw [← rngN_eq h1.1];omega
 unfold Builtin.Range.small;simp only [Builtin.Range.rangeFitsLong,Bool.and_eq_true,Bool.or_eq_true,decide_eq_true_eq,beq_iff_eq,if_pos (show c > 0 from h1.1)];omega
section
variable {X:Cx}{tg:Expr}
noncomputable def rng3 (ds:List D):Option Src:=match ds with
 | [.int i,.int j,.int c]=>if (0 < c∧c < 1000)∧(-1000000≤i∧i≤1000000)∧(-1000000≤j∧j≤1000000) then some (.seq (rangeS i c (rngN i j c))) else none
 | _=>none
theorem rng3_some {ds:List D}{s:Src}(h:rng3 ds=some s):∃ i j c,ds=[.int i,.int j,.int c]∧((0 < c∧c < 1000)∧(-1000000≤i∧i≤1000000)∧(-1000000≤j∧j≤1000000))∧s=.seq (rangeS i c (rngN i j c)):=by
 unfold rng3 at h;split at h
 ·rename_i i j c;split at h
  ·rename_i hj;cases h;exact ⟨i,j,c,rfl,hj,rfl⟩
  ·cases h
 ·cases h
theorem di_range3 {a b c:Expr}{mr:DM (List D)}{p pos:Pos}(hg:Gl X "range") (hm:X.mg "range"=none) (ha:DA X [a,b,c] mr) (he:starEach [a,b,c] X.env=(false,eval a X.env)::starEach [b,c] X.env) (hpl:(backTo pos (starEach [b,c] X.env)).any (·.1)=false) :
  DI X tg (.Call (.Name "range" p) [a,b,c] [] pos) (rngM rng3 mr):=fun loc mh=>by
 rintro pins s σ H R I ⟨ρ,src,mh',q,rl,rs,co⟩;obtain ⟨ds,ea,q⟩:=rngM_some q;obtain ⟨i,j,k,rfl,⟨hc,hi,hj⟩,e⟩:=rng3_some q;have e:src=.seq (rangeS i k (rngN i j k)):=e;subst e;refine Call_ (ld_blt I hg hm boot_range (PyProof.Rows.callWith_type1 (thn (ha loc mh pos pins s σ H (fun vs H1=>∃ ρ1,Ev X.K H ρ H1 ρ1∧RS X.K H1 ρ1 mh'∧RDs X.K H1 ρ1 [.int i,.int j,.int k] vs) I ⟨ρ,_,mh',ea,rl,rs,fun H1 ρ1 vs e1 rs1 r1=>⟨ρ1,e1,rs1,r1⟩⟩) ?_) he hpl));rintro us s1 ⟨vs,H1,I1,r,ρ1,e1,rs1,rd⟩;cases rd with
 | cons d1 rd =>
  obtain ⟨v2,v3,rfl,d2,d3⟩:=rds2 rd;cases d1;cases d2;cases d3;cases r with
  | cons r1 rr =>
   obtain ⟨u2,u3,rfl,⟨t2,rfl⟩,⟨t3,rfl⟩⟩:=vals2 rr;obtain ⟨t1,rfl⟩:=r1
   refine call_range_3 (by omega) ?_ (.inl (PyProof.noPylong_of_log2 (by
    have h0:k.natAbs≠0:=by omega
    have:k.natAbs.log2 < 10:=(Nat.log2_lt h0).mpr (by omega)
    omega)))
   refine wpAny_pyIter_range (IsRange.new ..) (rng_small hc hi hj) ?_
   have I2:Inv X pins σ H1 { s1 with heap:=s1.heap.push { cls:=.type "range",data:=.fields #[.int i t1,.int j t2,.int k t3] },toks:=s1.toks }:=I1.kept fun b o e=>Heap.get?_push_of_some _ e
   refine ⟨(s1.heap.push { cls:=.type "range",data:=.fields #[.int i t1,.int j t2,.int k t3] }).objs.size,[(s1.heap.push { cls:=.type "range",data:=.fields #[.int i t1,.int j t2,.int k t3] }).objs.size],_,_,H1,rfl,
    I2.kept (t':=s1.toks) fun b o e=>Heap.get?_push_of_some _ e,turn_rangeS _ i k (rngN i j k),?_,fun b hb=>?_,co H1 ρ1 _ e1 rs1 JR.rngS⟩
   ·have e3:i+((0:Nat):Int) * k=i:=by simp
    have e2:((rngN i j k:Nat):Int) - ((0:Nat):Int)=Builtin.Range.rangeSize i j k:=by rw [rngN_eq hc.1];simp
    show IsRangeIter _ _ (i+((0:Nat):Int) * k) (((rngN i j k:Nat):Int) - ((0:Nat):Int)) k;rw [e3,e2];exact Heap.get?_push_size _ rfl
   ·have e:b=(s1.heap.push { cls:=.type "range",data:=.fields #[.int i t1,.int j t2,.int k t3] }).objs.size:=by simpa using hb
    subst e;exact I2.fpOk (Nat.le_refl _) (I2.hok.fresh (Nat.le_refl _))
end
theorem noFill_tupM:fillsNumberSlot (.type "tuple") "mul"=pure false:=PySem.fillsNumberSlot_seq (id := "tuple.__mul__") (r:=some (.builtin "tuple.__rmul__")) PySem.F.slot_tuple_mul.lookup (by decide +kernel) PySem.F.slot_tuple_rmul.lookup (by decide +kernel)
theorem repeat_tupM:seqRepeat? (.type "tuple")=pure (some (.builtin "tuple.__mul__")):=by
 unfold seqRepeat?
 rw [PySem.seqSlot_of (T := "tuple") (name := "__mul__") (id := "tuple.__mul__") PySem.F.slot_tuple_mul.lookup (by decide +kernel),PySem.seqSlot_of (T := "tuple") (name := "__rmul__") (id := "tuple.__rmul__") PySem.F.slot_tuple_rmul.lookup (by decide +kernel)];rfl
theorem rmul_tupM (a:Int) (t:Tok) (l:Addr) (items:Array Value) (n:Nat) (dd:Option Addr) (sl:Array (Option Value)) :
  Meets (Builtin.«int.__rmul__» ⟨[.int a t,.ref l],[]⟩) (fun _ R s=>s.heap.get? l=some { cls:=.type "tuple",dict:=dd,data:=.seq items n,slots:=sl }∧R (.ok (.ret Value.notImplemented)) s) :=
 .of_wp fun prog w A R s h=>by obtain ⟨hp,g,d,tk,os⟩:=s;obtain ⟨hl,h⟩:=h;wp_walk;exact ⟨_,rfl,h⟩
theorem mul_tupM (l:Addr) (items:Array Value) (n:Nat) (dd:Option Addr) (sl:Array (Option Value)) (x:Int) (u:Tok) (hc0:¬(decide (x < -(2 ^ 63)) || decide (x ≥ 2 ^ 63))=true) (hc1:¬(items.isEmpty || x==1)=true) (hc2:¬(decide (x≤0) || items.isEmpty)=true) (hc3:¬((items.size:Int) * x > (2 ^ 63 - 1) / 8)) (hc5:¬(List.foldl (fun x1 x2=>x1++x2) #[] (List.replicate x.toNat items)).size > sizeLine) (hc4:¬PySem.Builtin.Tuple.tupleTooMany ((items.size:Int) * x)=true) :
  Meets (Builtin.«tuple.__mul__» ⟨[.ref l,.int x u],[]⟩) (fun _ R s=>s.heap.get? l=some { cls:=.type "tuple",dict:=dd,data:=.seq items n,slots:=sl }∧R (.ok (.ret (Value.ref s.heap.objs.size))) { s with heap:=s.heap.push { cls:=Value.type "tuple",data:=Data.seq (List.foldl (fun x1 x2=>x1++x2) #[] (List.replicate x.toNat items)) },toks:=s.toks }) :=
 .of_wp fun prog w A R s h=>by
  obtain ⟨hp,g,d,tk,os⟩:=s;obtain ⟨hl,h⟩:=h;have f1:=AutoSeq1.idx_int;wp_walk using wpAny_loadPart' hl
  simp only [hc0,Bool.false_eq_true,if_false];wp_walk using wpAny_loadPart' hl
  simp only [hc3,if_false];wp_walk using wpAny_loadPart' hl
  exact ⟨_,rfl,h⟩
theorem mul_tup1 (l:Addr) (items:Array Value) (n:Nat) (dd:Option Addr) (sl:Array (Option Value)) (u:Tok) :
  Meets (Builtin.«tuple.__mul__» ⟨[.ref l,.int 1 u],[]⟩) (fun _ R s=>s.heap.get? l=some { cls:=.type "tuple",dict:=dd,data:=.seq items n,slots:=sl }∧R (.ok (.ret (Value.ref l))) s) :=
 .of_wp fun prog w A R s h=>by
  obtain ⟨hp,g,d,tk,os⟩:=s;obtain ⟨hl,h⟩:=h;have f1:=AutoSeq1.idx_int;have c1:(items.isEmpty || (1:Int)==1)=true:=by rw [Bool.or_eq_true];exact .inr rfl
  wp_walk using wpAny_loadPart' hl
  exact ⟨_,rfl,h⟩
section
variable {X:Cx}
theorem RDs.rep {K:PySem.W.Frag}{H:Hp}{ρ:List Addr}{ds:List D}{vs:List V}(h:RDs K H ρ ds vs):∀ k:Nat,RDs K H ρ (List.replicate k ds).flatten (List.replicate k vs).flatten
 | 0=>.nil
 | k+1=>by
  rw [List.replicate_succ,List.replicate_succ,List.flatten_cons,List.flatten_cons];exact h.append (RDs.rep h k)
theorem op_timesT:OpR X (binaryOp .Mult) (fun x y H Q=>∃ a k xs,x=.ref a∧y=.int k∧SqT X.K H a xs∧xs≠[]∧1 < k∧k≤1000∧xs.length≤1000∧∀ p,H p=none→Q (.ref p) (upd H p (.tup (List.replicate k.toNat xs).flatten))):=by
 rintro pins s σ H x y v u Q I rx ry ⟨a,k,xs,e1,e2,ha,hne,h1,h2,h3,q⟩;subst e1;subst e2;cases rx;obtain ⟨t,rfl⟩:=ry;obtain ⟨its,r1,p1,_⟩:=I.tuple ha;obtain ⟨⟨cls,dd,data,sl⟩,ho,hc,n,hd⟩:=id p1;simp only at hc hd;subst hc hd;have hl:its.length≤1000:=by rw [← r1.length];exact h3
 have hn:its.toArray.isEmpty=false:=by
  cases its with
  | nil=>exact absurd (r1.nil_iff.mp rfl) hne
  | cons b r=>rfl
 have hm:((its.toArray.size:Nat):Int) * k≤1000 * 1000:=by
  rw [List.size_toArray];exact Int.mul_le_mul (by omega) (by omega) (by omega) (by omega)
 have hf:List.foldl (fun x1 x2=>x1++x2) #[] (List.replicate k.toNat its.toArray)=(List.replicate k.toNat its).flatten.toArray:=by
  have:=foldl_rep its k.toNat [];rw [List.nil_append] at this;exact this
 have c0:¬(decide (k < -(2 ^ 63)) || decide (k ≥ 2 ^ 63))=true:=by
  rw [Bool.or_eq_true,decide_eq_true_iff,decide_eq_true_iff];omega
 have c1:¬(its.toArray.isEmpty || k==1)=true:=by
  rw [hn,Bool.false_or,beq_iff_eq];omega
 have c2:¬(decide (k≤0) || its.toArray.isEmpty)=true:=by
  rw [hn,Bool.or_false,decide_eq_true_iff];omega
 have c3:¬(((its.toArray.size:Nat):Int) * k > (2 ^ 63 - 1) / 8):=by omega
 have c4:¬PySem.Builtin.Tuple.tupleTooMany (((its.toArray.size:Nat):Int) * k)=true:=by
  have:(sizeLine:Nat)=16777216:=sizeLine_eq;unfold PySem.Builtin.Tuple.tupleTooMany;rw [decide_eq_true_iff];omega
 have c5:¬(List.foldl (fun x1 x2=>x1++x2) #[] (List.replicate k.toNat its.toArray)).size > sizeLine:=by
  rw [hf,List.size_toArray,len_rep,sizeLine_eq];have:k.toNat * its.length≤1000 * 1000:=Nat.mul_le_mul (by omega) hl;omega
 refine wpAny_binaryOp_repeat_ref (T := "tuple") (U := "int") (by decide) ⟨_,ho,rfl⟩ (fun s'=>PySem.typeIs_int s' k t) noFill_tupM PySem.F.fills_int_mul PySem.F.slot_int_rmul repeat_tupM PySem.F.slot_int_index.lookup
  (call_meets PySem.F.slot_int_rmul (PySem.typeIs_int s k t) PySem.F.entry_int_rmul (PySem.F.args_int_rmul_2 _ _) (rmul_tupM k t a its.toArray n dd sl)
   ⟨ho,rfl,⟨_,ho,rfl⟩,call_meets PySem.F.slot_tuple_mul ⟨_,ho,rfl⟩ PySem.F.entry_tuple_mul (PySem.F.args_tuple_mul_2 _ _) (mul_tupM a its.toArray n dd sl k t c0 c1 c2 c3 c5 c4) ⟨ho,?_⟩⟩)
 rw [hf];refine ⟨.ref s.heap.objs.size,_,I.laid (t':=s.toks) (o:=.tup (List.replicate k.toNat xs).flatten) (fun b ob q=>Heap.get?_push_of_some _ q) (Nat.le_refl _) ?_,rfl,q _ (I.hok.fresh (Nat.le_refl _))⟩;refine ⟨?_,_,r1.rep k.toNat,TupP.new _ _⟩;rw [len_rep,sizeLine_eq];have:k.toNat * xs.length≤1000 * 1000:=Nat.mul_le_mul (by omega) h3;omega
theorem op_timesO:OpR X (binaryOp .Mult) (fun x y H Q=>∃ a xs,x=.ref a∧y=.int 1∧SqT X.K H a xs∧Q (.ref a) H):=by
 rintro pins s σ H x y v u Q I rx ry ⟨a,xs,e1,e2,ha,q⟩;subst e1;subst e2;cases rx;obtain ⟨t,rfl⟩:=ry;obtain ⟨its,r1,p1,_⟩:=I.tuple ha;obtain ⟨⟨cls,dd,data,sl⟩,ho,hc,n,hd⟩:=id p1;simp only at hc hd;subst hc hd
 exact wpAny_binaryOp_repeat_ref (T := "tuple") (U := "int") (by decide) ⟨_,ho,rfl⟩ (fun s'=>PySem.typeIs_int s' 1 t) noFill_tupM PySem.F.fills_int_mul PySem.F.slot_int_rmul repeat_tupM PySem.F.slot_int_index.lookup
  (call_meets PySem.F.slot_int_rmul (PySem.typeIs_int s 1 t) PySem.F.entry_int_rmul (PySem.F.args_int_rmul_2 _ _) (rmul_tupM 1 t a its.toArray n dd sl)
   ⟨ho,rfl,⟨_,ho,rfl⟩,call_meets PySem.F.slot_tuple_mul ⟨_,ho,rfl⟩ PySem.F.entry_tuple_mul (PySem.F.args_tuple_mul_2 _ _) (mul_tup1 a its.toArray n dd sl t) ⟨ho,⟨.ref a,H,I,rfl,q⟩⟩⟩)
noncomputable def tmul:D→D→Option (List D×Int)
 | .tup ds,.int k=>some (ds,k)
 | _,_=>none
theorem tmul_some {x y:D}{z:List D×Int}(h:tmul x y=some z):x=.tup z.1∧y=.int z.2:=by
 cases x with
 | tup ds =>
  cases y with
  | int k=>cases h;exact ⟨rfl,rfl⟩
  | _=>cases h
 | _=>cases h
noncomputable def mulD2 (g:D→D→MH→Option (D×MH)):D→D→MH→Option (D×MH):=fun x y mh=>match tmul x y with
 | some z=>if z.2=1 then some (.tup z.1,mh) else if (z.1.isEmpty=false∧z.1.length≤1000)∧(1 < z.2∧z.2≤1000) then some (.tup (List.replicate z.2.toNat z.1).flatten,mh) else none
 | none=>g x y mh
theorem op_mulD2 {g:D→D→MH→Option (D×MH)}(h:OpR X (binaryOp .Mult) (rD X.K g)):OpR X (binaryOp .Mult) (rD X.K (mulD2 g)):=by
 rintro pins s σ H x y v u Q I rx ry ⟨ρ,mh,dx,dy,d,mh',q,rs,r1,r2,co⟩;unfold mulD2 at q;cases e:tmul dx dy with
 | none=>rw [e] at q;exact h pins s σ H x y v u Q I rx ry ⟨ρ,mh,dx,dy,d,mh',q,rs,r1,r2,co⟩
 | some z =>
  rw [e] at q;obtain ⟨ds,k⟩:=z;obtain ⟨rfl,rfl⟩:=tmul_some e;have q:(if k=1 then some (D.tup ds,mh) else if (ds.isEmpty=false∧ds.length≤1000)∧(1 < k∧k≤1000) then some (D.tup (List.replicate k.toNat ds).flatten,mh) else none)=some (d,mh'):=q
  by_cases h1:k=1
  ·subst h1;rw [if_pos rfl] at q;cases q;cases r2;cases r1 with
   | tup s1 rr=>exact op_timesO pins s σ H _ _ v u Q I rx ry ⟨_,_,rfl,rfl,s1,co H ρ _ Ev.refl rs (.tup s1 rr)⟩
  rw [if_neg h1] at q
  by_cases hz:(ds.isEmpty=false∧ds.length≤1000)∧(1 < k∧k≤1000)
  ·have q:(if (ds.isEmpty=false∧ds.length≤1000)∧(1 < k∧k≤1000) then some (D.tup (List.replicate k.toNat ds).flatten,mh) else none)=some (d,mh'):=q;rw [if_pos hz] at q;cases q;cases r2;cases r1 with
   | tup s1 rr=>exact op_timesT pins s σ H _ _ v u Q I rx ry ⟨_,_,_,rfl,rfl,s1,fun z=>by
     subst z;cases rr
     exact absurd hz.1.1 (by simp),hz.2.1,hz.2.2,by rw [← rr.length];exact hz.1.2,Co.newT rs (rr.rep _) co⟩
  ·have q:(if (ds.isEmpty=false∧ds.length≤1000)∧(1 < k∧k≤1000) then some (D.tup (List.replicate k.toNat ds).flatten,mh) else none)=some (d,mh'):=q;rw [if_neg hz] at q;cases q
end
section
variable {X:Cx}
theorem rds_bls {K:PySem.W.Frag}{H:Hp}{ρ:List Addr}:∀ {bs:List Bool}{xs:List V},RDs K H ρ (bs.map D.bl) xs→xs=bs.map V.bl
 | [],_,.nil=>rfl
 | b::r,_,.cons h t=>by
  cases h;rw [rds_bls t];rfl
noncomputable def intD:Fn:=fun ds mh=>match ds with
 | [x]=>(match x with
  | .int i=>some (.int i,mh)
  | .bl b=>some (.int (if b then 1 else 0),mh)
  | _=>none)
 | _=>none
theorem call_intD:CallR X (.type "int") (rDs X.K intD):=by
 rintro pins s σ H xs us Q I r ⟨ρ,mh,ds,d,mh',q,rs,rd,co⟩
 match ds,q with
 | [x],q =>
  obtain ⟨v,rfl,rx⟩:=rds1 rd;cases x with
  | int i=>cases q;cases rx;exact call_int1 pins s σ H _ us Q I r (.inl ⟨i,rfl,co H ρ _ Ev.refl rs (.int _)⟩)
  | bl b=>cases q;cases rx;exact call_int1 pins s σ H _ us Q I r (.inr ⟨b,rfl,co H ρ _ Ev.refl rs (.int _)⟩)
  | _=>cases q
 | [],q=>cases q
 | _::_::_,q=>cases q
end
end DL
namespace DL
open PySem PySem.Spec PyProof.Rows L2
open MeetsSeq MeetsSeq2 MeetsSeq3 SeqRoads2
noncomputable def LtA (A:Around) (s:Shared) (y x:Value) (b:Bool):Prop :=
 ∀ (prog:Program) (w:World) (E:Value→Shared→Prop) (Q:Value→Shared→Prop),Q (.bool b) s→wpAny (model prog w) A (richCompare .Lt y x) Q E s
inductive LexA (A:Around) (s:Shared) (m n:Nat):List (Value×Value)→Bool→Prop
 | nil:LexA A s m n [] (decide (m < n))
 | eq {x y:Value} {r:List (Value×Value)} {b:Bool}:SeqAt.EqAt A s x y true→LexA A s m n r b→LexA A s m n ((x,y)::r) b
 | ne {x y:Value} {r:List (Value×Value)} {b:Bool}:SeqAt.EqAt A s x y false→LtA A s x y b→LexA A s m n ((x,y)::r) b
theorem tuple_ltA (l b:Addr) (xs ys:Array Value) (n n2:Nat) (dd dd2:Option Addr) (sl sl2:Array (Option Value)) (k:Bool) :
  Meets (Builtin.«tuple.__lt__» ⟨[.ref l,.ref b],[]⟩)
   (fun A R s=>s.heap.get? l=some { cls:=.type "tuple",dict:=dd,data:=.seq xs n,slots:=sl }∧s.heap.get? b=some { cls:=.type "tuple",dict:=dd2,data:=.seq ys n2,slots:=sl2 } ∧
    LexA A.in1 s xs.size ys.size (xs.toList.zip ys.toList) k∧R (.ok (.ret (.bool k))) s) :=
 .of_wp fun prog w A R s h=>by
  obtain ⟨hp,g,d,tk,os⟩:=s;obtain ⟨h1,h2,lx,h⟩:=h;have f2:=AutoSeq1.sub_tuple_tuple;wp_walk using AutoSeq1.wpAny_loadPart' h1,AutoSeq1.wpAny_loadPart' h2,wpAny_forIn_list _ (fun rest c s'=>c.1=none∧s'=⟨hp,g,d,tk,os⟩∧LexA A.in1 ⟨hp,g,d,tk,os⟩ xs.size ys.size rest k) _
  case turn =>
   rintro ⟨y,x⟩ rest c s' ⟨hc,rfl,hx⟩;cases hx with
   | eq e lx=>exact wpAny_bind (e prog w _ _ (wpAny_pure ⟨rfl,rfl,lx⟩))
   | ne e lt =>
    refine wpAny_bind (e prog w _ _ (wpAny_bind (wpAny_rule (wpAny_bind (lt prog w _ _ ?_)))));wp_walk;exact ⟨_,rfl,h⟩
  case fin =>
   rintro ⟨c1,c2⟩ s' ⟨hc,rfl,hx⟩;cases hc;cases hx;wp_walk;refine ⟨_,rfl,?_⟩
   simpa [Builtin.Tuple.tupleCompareSizes] using h
  case h=>exact ⟨rfl,rfl,lx⟩
section
variable {A:Around}{s:Shared}
theorem LtA.tuples {l b:Addr}{xs ys:Array Value}{k:Bool}(hl:s.heap.IsTuple l xs) (hb:s.heap.IsTuple b ys) (hu:A.units < cLine) (lx:LexA A.in1 s xs.size ys.size (xs.toList.zip ys.toList) k):LtA A s (.ref l) (.ref b) k:=by
 intro prog w E Q h;obtain ⟨⟨c1,d1,t1,z1⟩,g1,e1,n1,f1⟩:=id hl;obtain ⟨⟨c2,d2,t2,z2⟩,g2,e2,n2,f2⟩:=id hb;cases e1;cases f1;cases e2;cases f2;exact richCompare_meets_room (op:=.Lt) ⟨_,g1,rfl⟩ ⟨_,g2,rfl⟩ F.slot_tuple_lt F.entry_tuple_lt (F.args_tuple_lt_2 _ _) (tuple_ltA l b xs ys n1 n2 d1 d2 z1 z2 k)
  ⟨g1,g2,lx,show Value.bool k≠Value.notImplemented∧Q (.bool k) s from ⟨(fun x=>nomatch x),h⟩⟩ hu
mutual
noncomputable def ltP:PyData→PyData→Option Bool
 | .int i,.int j=>some (decide (i < j))
 | .bool p,.bool q=>some (decide (b2i p < b2i q))
 | .tuple xs,.tuple ys=>ltPs xs ys
 | _,_=>none
noncomputable def ltPs:List PyData→List PyData→Option Bool
 | [],[]=>some false
 | [],_::_=>some true
 | _::_,[]=>some false
 | x::xs,y::ys=>if PyData.eqv x y=true then ltPs xs ys else ltP x y
end
mutual
theorem ltA_reads:∀ (da db:PyData) (k:Bool) (A:Around) (s:Shared) (a b:Value) (as bs:List Addr),ltP da db=some k→Reads s.heap a da as→Reads s.heap b db bs→da.canLay0=true→db.canLay0=true→A.units+min da.depth db.depth < cLine→LtA A s a b k
 | .int i,db,k,A,s,a,b,as,bs,e,ra,rb,ha,hb,hu=>by
  cases db with
  | int j =>
   simp only [ltP] at e;cases e;cases ra;cases rb;exact fun prog w E Q h=>lt_int h
  | _=>simp only [ltP] at e;cases e
 | .bool p,db,k,A,s,a,b,as,bs,e,ra,rb,ha,hb,hu=>by
  cases db with
  | bool j =>
   simp only [ltP] at e;cases e;cases ra;cases rb;exact fun prog w E Q h=>lt_bool h
  | _=>simp only [ltP] at e;cases e
 | .tuple xs,db,k,A,s,a,b,as,bs,e,ra,rb,ha,hb,hu=>by
  cases db with
  | tuple ys =>
   simp only [ltP] at e;cases ra with
   | @tuple l o vs n _ as₁ h1 h2 h3 h4 =>
    cases rb with
    | @tuple l' o' us n' _ bs₁ k1 k2 k3 k4 =>
     refine LtA.tuples ⟨_,h1,h2,_,h3⟩ ⟨_,k1,k2,_,k3⟩ (SeqAt.room_here hu) ?_;exact lexA_reads xs ys k A.in1 s vs.size us.size vs.toList us.toList _ _ e h4 k4 ha hb (SeqAt.room_in hu) 0 (by simp) (by simp)
  | _=>simp only [ltP] at e;cases e
 | .none,db,k,A,s,a,b,as,bs,e,ra,rb,ha,hb,hu=>by simp only [ltP] at e;cases e
 | .str _,db,k,A,s,a,b,as,bs,e,ra,rb,ha,hb,hu=>by simp only [ltP] at e;cases e
 | .list _,db,k,A,s,a,b,as,bs,e,ra,rb,ha,hb,hu=>by simp only [ltP] at e;cases e
 | .dict _,db,k,A,s,a,b,as,bs,e,ra,rb,ha,hb,hu=>by cases ha
theorem lexA_reads:∀ (xs ys:List PyData) (k:Bool) (A:Around) (s:Shared) (m n:Nat) (vs ws:List Value) (as bs:List Addr),ltPs xs ys=some k→ReadsAll s.heap vs xs as→ReadsAll s.heap ws ys bs→PyData.canLayAll0 xs=true→PyData.canLayAll0 ys=true →
  A.units+min (PyData.depthAll xs) (PyData.depthAll ys) < cLine→∀ i:Nat,m=i+vs.length→n=i+ws.length→LexA A s m n (vs.zip ws) k
 | [],ys,k,A,s,m,n,vs,ws,as,bs,e,ra,rb,ha,hb,hu,i,e1,e2=>by
  cases ra;cases ys with
  | nil =>
   cases rb;simp only [ltPs] at e;cases e;have:decide (m < n)=false:=by simp at e1 e2 ⊢;omega
   rw [← this];exact .nil
  | cons y ys =>
   cases rb;simp only [ltPs] at e;cases e;have:decide (m < n)=true:=by simp at e1 e2 ⊢;omega
   rw [← this];exact .nil
 | x::xs,ys,k,A,s,m,n,vs,ws,as,bs,e,ra,rb,ha,hb,hu,i,e1,e2=>by
  cases ra with
  | cons r rs =>
   cases ys with
   | nil =>
    cases rb;simp only [ltPs] at e;cases e;have:decide (m < n)=false:=by simp at e1 e2 ⊢;omega
    rw [← this];exact .nil
   | cons y ys =>
    cases rb with
    | cons r' rs' =>
     have ha':x.canLay0=true∧PyData.canLayAll0 xs=true:=by simpa [PyData.canLayAll0] using ha
     have hb':y.canLay0=true∧PyData.canLayAll0 ys=true:=by simpa [PyData.canLayAll0] using hb
     have q:=SeqAt.eqAt_reads x y A s _ _ _ _ r r' ha'.1 hb'.1 (SeqAt.room_head hu);simp only [ltPs] at e;split at e
     ·rename_i z;rw [z] at q;exact .eq q (lexA_reads xs ys k A s m n _ _ _ _ e rs rs' ha'.2 hb'.2 (SeqAt.room_tail hu) (i+1) (by simp at e1;omega) (by simp at e2;omega))
     ·rename_i z;rw [Bool.not_eq_true] at z;rw [z] at q;exact .ne q (ltA_reads x y k A s _ _ _ _ e r r' ha'.1 hb'.1 (SeqAt.room_head hu))
end
end
end DL
namespace DL
open PySem PySem.Spec PyProof.Rows L2
theorem minH_run {prog:Program}{w:World}{A:Around}{R:Result→Shared→Prop}{I:Addr}{fp wr:List Addr}{n:Nat}{P:Nat→Value→Prop}{St:Nat→Heap→Prop}{bt:Nat→Nat→Bool}{S:Addr}{t0:Shared}(W:Walks prog w A.in1 I fp wr n P St) (nf:S ∉ fp)
  (cm:∀ i j vi vj h' tk (Q:Value→Shared→Prop) (E:Value→Shared→Prop),P i vi→P j vj→(∀ b o,b ∉ wr→b≠S→t0.heap.get? b=some o→h'.get? b=some o)→Q (.bool (bt i j)) { t0 with heap:=h',toks:=tk }→wpAny (model prog w) A.in1 (richCompare .Lt vi vj) Q E { t0 with heap:=h',toks:=tk }) :
  ∀ (k j:Nat) (h1:Heap) (k1:Nat) (vb:Value) (c:Nat),n - (j+1)=k→j+1≤n→St (j+1) h1→P (argBest bt j) vb→h1.get? S=some { cls:=.type "list",dict:=none,data:=.seq #[vb,vb] c,slots:=#[] } →
  (∀ b o,b ∉ wr→b≠S→t0.heap.get? b=some o→h1.get? b=some o) →
  (∀ v h' tk,P (argBest bt (n - 1)) v→(∀ b o,b ∉ wr→b≠S→t0.heap.get? b=some o→h'.get? b=some o)→R (.ok (.ret v)) { t0 with heap:=h',toks:=tk }) →
  codeAny (model prog w) A (.builtin "min.loop" ⟨[.ref I,.none,.ref S],[]⟩) R { t0 with heap:=h1,toks:=k1 }:=by
 have nw:S ∉ wr:=fun z=>nf (W.sub _ z)
 have nn:(toString "min"++toString ".loop":String) = "min.loop":=by decide
 intro k
 induction k with
 | zero =>
  intro j h1 k1 vb c hk hj st pb gS k0 fin;have jn:j+1=n:=by omega
  refine codeAny_builtin PySem.F.entry_min_loop ?_;rw [Around.under_plainId PySem.F.plain_min_loop];show wpAny _ A.in1 (seqItems? (.ref S) >>= _) _ _ _;refine wpAny_bind (wpAny_seqItems gS rfl ?_);show wpAny _ A.in1 (tryCatch (pyNext (.ref I)) _ >>= _) _ _ _;refine wpAny_bind (wpAny_tryCatch (W.done _ _ _ (jn ▸ st) fun h' tk ke=>?_));have gS':=ke S _ nw gS;show wpAny _ A.in1 (updateSeq S (fun _=>#[]) >>= _) _ _ _;refine wpAny_bind ?_;refine wpAny_updateSeq gS' rfl (wpAny_bind (wpAny_letGo (wpAny_pure (fin vb _ tk (by rw [← jn];exact pb) fun b o bw bS e=>?_))));exact (Heap.get?_update_other _ _ (Ne.symm bS)).trans (ke b o bw (k0 b o bw bS e))
 | succ k ih =>
  intro j h1 k1 vb c hk hj st pb gS k0 fin;have jn:j+1 < n:=by omega
  refine codeAny_builtin PySem.F.entry_min_loop ?_;rw [Around.under_plainId PySem.F.plain_min_loop];show wpAny _ A.in1 (seqItems? (.ref S) >>= _) _ _ _;refine wpAny_bind (wpAny_seqItems gS rfl ?_);show wpAny _ A.in1 (tryCatch (pyNext (.ref I)) _ >>= _) _ _ _;refine wpAny_bind (wpAny_tryCatch (W.item (j+1) _ _ _ jn st fun v h' tk pv st' ke=>?_));have gS':=ke S _ nw gS;show wpAny _ A.in1 (tryCatch (holding [v,v] (richCompare .Lt v vb >>= _)) _ >>= _) _ _ _;refine wpAny_bind (wpAny_tryCatch (wpAny_holding (wpAny_bind (cm (j+1) (argBest bt j) v vb _ _ _ _ pv pb (fun b o bw bS e=>ke b o bw (k0 b o bw bS e)) ?_))));refine wpAny_bind (wpAny_holding (wpAny_truthy_bool ?_));refine wpAny_bind (wpAny_letGo (wpAny_pure ?_));cases hb:bt (j+1) (argBest bt j) with
  | true =>
   rw [if_pos rfl];refine wpAny_bind ?_;refine wpAny_updateSeq gS' rfl (wpAny_bind (wpAny_letGo ?_));rw [nn];refine wpAny_pure ⟨plainId_quiet PySem.F.plain_min_loop _,ih (j+1) _ _ v _ (by omega) jn (W.frame _ _ _ st' fun b bf o e=>?_) (by simp only [argBest,hb,if_true];exact pv) (Heap.get?_update_self _ gS' rfl) (fun b o bw bS e=>?_) fin⟩
   ·exact (Heap.get?_update_other _ _ (fun z:S=b=>nf (by rw [z];exact bf))).trans e
   ·exact (Heap.get?_update_other _ _ (Ne.symm bS)).trans (ke b o bw (k0 b o bw bS e))
  | false =>
   rw [if_neg Bool.false_ne_true];refine wpAny_bind (wpAny_letGo ?_);rw [nn];exact wpAny_pure ⟨plainId_quiet PySem.F.plain_min_loop _,ih (j+1) _ _ vb c (by omega) jn st' (by simp only [argBest,hb,Bool.false_eq_true,if_false];exact pb) gS' (fun b o bw bS e=>ke b o bw (k0 b o bw bS e)) fin⟩
theorem min_walkH {prog:Program}{w:World}{A:Around}{E:Value→Shared→Prop}{s:Shared}{x:Value}{Q:Value→Shared→Prop}
  (h:wpAny (model prog w) A.in1 (pyIter x) (fun it t=>∃ I fp wr n P St bt,it=.ref I∧Walks prog w A.in1 I fp wr n P St∧St 0 t.heap∧(∀ b∈fp,b < t.heap.objs.size)∧0 < n ∧
   (∀ i j vi vj h' tk (Q:Value→Shared→Prop) (E:Value→Shared→Prop),P i vi→P j vj→(∀ b o,b ∉ wr→t.heap.get? b=some o→h'.get? b=some o)→Q (.bool (bt i j)) { t with heap:=h',toks:=tk }→wpAny (model prog w) A.in1 (richCompare .Lt vi vj) Q E { t with heap:=h',toks:=tk }) ∧
   ∀ v h' tk,P (argBest bt (n - 1)) v→(∀ b o,b ∉ wr→t.heap.get? b=some o→h'.get? b=some o)→Q v { t with heap:=h',toks:=tk }) E s) :
  wpAny (model prog w) A (call (.builtin "min") [x]) Q E s:=by
 have nn:(toString "min"++toString ".loop":String) = "min.loop":=by decide
 refine kmk_tree PySem.F.kind_min PySem.F.plain_min PySem.F.entry_min (PySem.F.args_min1 _) ?_
 show wpAny _ A.in1 (Builtin.Builtins.bindParams "min" ["key", "default"] 0 ⟨[],[]⟩ >>= _) _ _ s
 refine wpAny_bind (wpAny_of_eq (show Builtin.Builtins.bindParams "min" ["key", "default"] 0 ⟨[],[]⟩=pure [none,none] from rfl) (wpAny_bind (wpAny_pure ?_)));refine wpAny_bind (wpAny_mono h (fun it t hz=>?_) fun _ _ e=>e);obtain ⟨I,fp,wr,n,P,St,bt,rfl,W,st,lt,hn,cm,fin⟩:=hz;refine wpAny_bind (wpAny_newObj_type ?_);have nf:t.heap.objs.size ∉ fp:=fun hm=>Nat.lt_irrefl _ (lt _ hm)
 have nw:t.heap.objs.size ∉ wr:=fun z=>nf (W.sub _ z)
 rw [nn]
 have st0:=W.frame _ _ _ st fun b _ o e=>Heap.get?_push_of_some { cls:=.type "list",data:=.seq #[] } e
 have gS:(t.heap.push { cls:=.type "list",data:=.seq #[] }).get? t.heap.objs.size=some { cls:=.type "list",data:=.seq #[] }:=Heap.get?_push_size _ rfl;refine wpAny_pure ⟨plainId_quiet PySem.F.plain_min_loop _,?_⟩;refine codeAny_builtin PySem.F.entry_min_loop ?_;rw [Around.under_plainId PySem.F.plain_min_loop];show wpAny _ A.in1 (seqItems? (.ref t.heap.objs.size) >>= _) _ _ _;refine wpAny_bind (wpAny_seqItems gS rfl ?_);show wpAny _ A.in1 (tryCatch (pyNext (.ref I)) _ >>= _) _ _ _;refine wpAny_bind (wpAny_tryCatch (W.item 0 _ _ _ hn st0 fun v h' tk pv st' ke=>?_));have gS':=ke _ _ nw gS;show wpAny _ A.in1 (updateSeq t.heap.objs.size (fun _=>#[v,v]) >>= _) _ _ _;refine wpAny_bind (wpAny_updateSeq gS' rfl ?_);rw [nn];have out:∀ {h2:Heap},(∀ b o,b ∉ wr→b≠t.heap.objs.size→t.heap.get? b=some o→h2.get? b=some o)→∀ b o,b ∉ wr→t.heap.get? b=some o→h2.get? b=some o:=fun k b o bw e=>k b o bw (Nat.ne_of_lt (Heap.lt_size e)) e
 refine wpAny_pure ⟨plainId_quiet PySem.F.plain_min_loop _,minH_run (t0:=t) W nf (fun i j vi vj h2 tk2 Q2 E2 pi pj k2 hq=>cm i j vi vj h2 tk2 Q2 E2 pi pj (out k2) hq) _ 0 _ _ v _ rfl hn (W.frame _ _ _ st' fun b bf o e=>?_) pv (Heap.get?_update_self _ gS' rfl) (fun b o bw bS e=>?_) fun v' h2 tk2 pv' ke2=>fin v' h2 tk2 pv' (out ke2)⟩
 ·exact (Heap.get?_update_other _ _ (fun z:t.heap.objs.size=b=>nf (by rw [z];exact bf))).trans e
 ·exact (Heap.get?_update_other _ _ (Ne.symm bS)).trans (ke b o bw (Heap.get?_push_of_some _ e))
theorem mapO_at {α β:Type}{f:α→Option β}:∀ {xs:List α}{ys:List β}{i:Nat}{x:α},mapO f xs=some ys→xs[i]?=some x→∃ y,ys[i]?=some y∧f x=some y
 | [],_,_,_,_,h=>by simp at h
 | a::xs,ys,i,x,e,h=>by
  have e:(match f a with | some y=>(match mapO f xs with | some ys=>some (y::ys) | none=>none) | none=>none)=some ys:=e;cases e1:f a with
  | none=>rw [e1] at e;cases e
  | some b =>
   cases e2:mapO f xs with
   | none=>rw [e1,e2] at e;cases e
   | some bs =>
    rw [e1,e2] at e;cases e;cases i with
    | zero=>simp at h;subst h;exact ⟨b,rfl,e1⟩
    | succ i=>obtain ⟨y,h1,h2⟩:=mapO_at (i:=i) e2 (by simpa using h);exact ⟨y,by simpa using h1,h2⟩
theorem mapO_len {α β:Type}{f:α→Option β}:∀ {xs:List α}{ys:List β},mapO f xs=some ys→xs.length=ys.length
 | [],_,e=>by cases e;rfl
 | a::xs,ys,e=>by
  have e:(match f a with | some y=>(match mapO f xs with | some ys=>some (y::ys) | none=>none) | none=>none)=some ys:=e;cases e1:f a with
  | none=>rw [e1] at e;cases e
  | some b =>
   cases e2:mapO f xs with
   | none=>rw [e1,e2] at e;cases e
   | some bs=>rw [e1,e2] at e;cases e;simp [mapO_len e2]
noncomputable def ordP (ps:List PyData):Bool:=ps.all fun a=>ps.all fun b=>(ltP a b).isSome
noncomputable def btP (ps:List PyData) (i j:Nat):Bool:=match ps[i]?,ps[j]? with
 | some a,some b=>ltP a b==some true
 | _,_=>false
noncomputable def minP (ds:List D) (ps:List PyData) (mh:MH):Option (D×MH):=if ordP ps=true then (match ds[argBest (btP ps) (ps.length - 1)]? with | some d=>some (d,mh) | none=>none) else none
noncomputable def minN:Fn:=fun ds mh=>match ds with
 | [x]=>match seqD x mh with
  | some ds=>match mapO (py mh 60) ds with
   | some ps=>minP ds ps mh
   | none=>none
  | none=>none
 | _=>none
theorem minN_some {ds:List D}{mh mh':MH}{d:D}(h:minN ds mh=some (d,mh')):∃ x es ps,ds=[x]∧seqD x mh=some es∧mapO (py mh 60) es=some ps∧ordP ps=true∧es[argBest (btP ps) (ps.length - 1)]?=some d∧mh'=mh:=by
 match ds,h with
 | [x],h =>
  have h:(match seqD x mh with | some ds=>(match mapO (py mh 60) ds with | some ps=>minP ds ps mh | none=>none) | none=>none)=some (d,mh'):=h;cases e1:seqD x mh with
  | none=>rw [e1] at h;cases h
  | some es =>
   rw [e1] at h;dsimp only at h;cases e2:mapO (py mh 60) es with
   | none=>rw [e2] at h;cases h
   | some ps =>
    rw [e2] at h;dsimp only at h;unfold minP at h;split at h
    ·cases e3:es[argBest (btP ps) (ps.length - 1)]? with
     | none=>rw [e3] at h;cases h
     | some z=>rw [e3] at h;cases h;exact ⟨x,es,ps,rfl,e1,e2,by assumption,e3,rfl⟩
    ·cases h
 | [],h=>cases h
 | _::_::_,h=>cases h
section
variable {X:Cx}
theorem vals_get:∀ {xs:List V}{us:List Value}{i:Nat}{u:Value},Vals xs us→us[i]?=some u→∃ x,xs[i]?=some x∧RelV x u
 | _,_,_,_,.nil,h=>by simp at h
 | _,_,0,_,.cons r _,h=>by simp at h;subst h;exact ⟨_,rfl,r⟩
 | _,_,i+1,u,.cons _ t,h=>by
  obtain ⟨x,h1,h2⟩:=vals_get (i:=i) t (by simpa using h);exact ⟨x,by simpa using h1,h2⟩
theorem rds_get {K:PySem.W.Frag}{H:Hp}{ρ:List Addr}:∀ {ds:List D}{vs:List V}{i:Nat}{v:V},RDs K H ρ ds vs→vs[i]?=some v→∃ d,ds[i]?=some d∧RD K H ρ d v
 | _,_,_,_,.nil,h=>by simp at h
 | _,_,0,_,.cons r _,h=>by simp at h;subst h;exact ⟨_,rfl,r⟩
 | _,_,i+1,u,.cons _ t,h=>by
  obtain ⟨x,h1,h2⟩:=rds_get (i:=i) t (by simpa using h);exact ⟨x,by simpa using h1,h2⟩
theorem room61 {A:Around}{a b:PyData}(hu:A.units+64 < cLine) (h:a.depth≤60):A.in1.units+min a.depth b.depth < cLine:=by
 show A.units+1+_ < _;omega
theorem call_minN (hc:X.calm=true) (hu:X.A.units+64 < cLine):CallR X (.builtin "min") (rDs X.K minN):=by
 rintro pins s σ H xs us Q I r ⟨ρ,mh,ds,d,mh',q,rs,rd,co⟩;obtain ⟨x,es,ps,rfl,e1,e2,e3,e4,rfl⟩:=minN_some q;obtain ⟨v,rfl,rx⟩:=rds1 rd;obtain ⟨u,rfl,ru⟩:=vals1 r;obtain ⟨p,ys,rfl,hq,ry⟩:=seqD_ok rs rx e1;cases ru;refine min_walkH (walk_seq I (A:=X.A.in1) (I.ok.hd hc) hq fun its St h2 rv W st hfp hk=>?_);have l1:=mapO_len e2;have l2:=ry.length;have l3:=rv.length;have l4:0 < its.length:=by have:=(List.getElem?_eq_some_iff.mp e4).1;omega
 refine ⟨_,_,_,its.length,_,St,btP ps,rfl,W,st,hfp,l4,fun i j vi vj h' tk Q' E' hi hj hk' hQ=>?_,fun w h' tk hP hk'=>?_⟩
 ·have I2:=I.kept (t':=tk) (kept_new hk' hk);obtain ⟨x1,a1,b1⟩:=vals_get rv hi;obtain ⟨x2,a2,b2⟩:=vals_get rv hj;obtain ⟨d1,a3,b3⟩:=rds_get ry a1;obtain ⟨d2,a4,b4⟩:=rds_get ry a2;obtain ⟨p1,a5,b5⟩:=mapO_at e2 a3;obtain ⟨p2,a6,b6⟩:=mapO_at e2 a4;obtain ⟨⟨as,c1⟩,c2,c3⟩:=reads_of I2 rs 60 d1 x1 vi p1 b5 b3 b1;obtain ⟨⟨bs,c4⟩,c5,c6⟩:=reads_of I2 rs 60 d2 x2 vj p2 b6 b4 b2;have hs:(ltP p1 p2).isSome=true:=List.all_eq_true.mp (List.all_eq_true.mp e3 p1 (List.mem_of_getElem? a5)) p2 (List.mem_of_getElem? a6);obtain ⟨k,ek⟩:=Option.isSome_iff_exists.mp hs;have eb:btP ps i j=k:=by
   unfold btP;rw [a5,a6];dsimp only;rw [ek];cases k <;> rfl
  rw [eb] at hQ;exact ltA_reads p1 p2 k X.A.in1 _ vi vj as bs ek c1 c4 c2 c5 (room61 hu c3) X.prog X.w E' Q' hQ
 ·obtain ⟨x1,a1,b1⟩:=vals_get rv hP;obtain ⟨d1,a3,b3⟩:=rds_get ry a1;rw [show its.length=ps.length by omega] at a3;rw [e4] at a3;cases a3;exact ⟨x1,H,I.kept (t':=tk) (kept_new hk' hk),b1,co H ρ _ Ev.refl rs b3⟩
noncomputable def orFn (f g:Fn):Fn:=fun ds mh=>match f ds mh with
 | some z=>some z
 | none=>g ds mh
theorem call_or {v:Value}{f g:Fn}(hf:CallR X v (rDs X.K f)) (hg:CallR X v (rDs X.K g)):CallR X v (rDs X.K (orFn f g)):=by
 rintro pins s σ H xs us Q I r ⟨ρ,mh,ds,d,mh',q,rs,rd,co⟩;unfold orFn at q;cases e:f ds mh with
 | some z=>rw [e] at q;cases q;exact hf pins s σ H xs us Q I r ⟨ρ,mh,ds,d,mh',e,rs,rd,co⟩
 | none=>rw [e] at q;exact hg pins s σ H xs us Q I r ⟨ρ,mh,ds,d,mh',q,rs,rd,co⟩
noncomputable def minD3:Fn:=orFn minD2 minN
theorem call_minD3 (hc:X.calm=true) (hu:X.A.units+64 < cLine):CallR X (.builtin "min") (rDs X.K minD3):=call_or (call_minD2 hc) (call_minN hc hu)
end
noncomputable def keyD:D→Option Key
 | .int i=>some (.inl i)
 | .str x=>some (.inr x)
 | _=>none
noncomputable def keyB:Key→Key→Bool
 | .inl i,.inl j=>i==j
 | .inr x,.inr y=>x==y
 | _,_=>false
theorem keyB_eq (a b:Key):keyB a b=decide (a=b):=by
 cases a with
 | inl i =>
  cases b with
  | inl j=>show (i==j)=_;by_cases h:i=j <;> simp [h]
  | inr y=>rfl
 | inr x =>
  cases b with
  | inl j=>rfl
  | inr y =>
   show (x==y)=_
   by_cases h:x=y
   ·subst h;simp
   ·rw [decide_eq_false (fun z=>h (by cases z;rfl))];exact beq_eq_false_iff_ne.mpr h
noncomputable def valD:List (Key×D)→Key→Option D
 | [],_=>none
 | p::r,k=>if keyB p.1 k=true then some p.2 else valD r k
noncomputable def putD (kvs:List (Key×D)) (k:Key) (d:D):List (Key×D) :=
 if (kvs.any fun kv=>keyB kv.1 k)=true then kvs.map (fun kv=>if keyB kv.1 k=true then (kv.1,d) else kv) else kvs++[(k,d)]
noncomputable def mergeD (kvs more:List (Key×D)):List (Key×D):=more.foldl (fun acc kv=>putD acc kv.1 kv.2) kvs
section
variable {K:PySem.W.Frag}{H H':Hp}{ρ ρ':List Addr}
noncomputable def RK (K:PySem.W.Frag) (H:Hp) (ρ:List Addr) (kvs:List (Key×D)) (xs:List (Key×V)):Prop:=xs.map (·.1)=kvs.map (·.1)∧RDs K H ρ (kvs.map (·.2)) (xs.map (·.2))
theorem RK.nil:RK K H ρ [] []:=⟨rfl,.nil⟩
theorem RK.cons {k:Key}{d:D}{v:V}{kvs:List (Key×D)}{xs:List (Key×V)}(r:RD K H ρ d v) (h:RK K H ρ kvs xs):RK K H ρ ((k,d)::kvs) ((k,v)::xs) :=
 ⟨by rw [List.map_cons,List.map_cons,h.1],.cons r h.2⟩
theorem RK.inv {k:Key}{d:D}{kvs:List (Key×D)}{xs:List (Key×V)}(h:RK K H ρ ((k,d)::kvs) xs):∃ v r,xs=(k,v)::r∧RD K H ρ d v∧RK K H ρ kvs r:=by
 obtain ⟨h1,h2⟩:=h;cases xs with
 | nil=>cases h1
 | cons p r =>
  obtain ⟨k',v⟩:=p;rw [List.map_cons,List.map_cons] at h1;injection h1 with e1 e2
  have e1:k'=k:=e1;subst e1;cases h2 with
  | cons a b=>exact ⟨v,r,rfl,a,e2,b⟩
theorem RK.inv0 {xs:List (Key×V)}(h:RK K H ρ [] xs):xs=[]:=by
 cases xs with
 | nil=>rfl
 | cons p r=>cases h.1
theorem RK.val (k:Key):∀ {kvs:List (Key×D)}{xs:List (Key×V)},RK K H ρ kvs xs→(∃ d v,valD kvs k=some d∧valV xs k=some v∧RD K H ρ d v)∨(valD kvs k=none∧valV xs k=none)
 | [],xs,h=>by rw [h.inv0];exact .inr ⟨rfl,rfl⟩
 | (k',d)::kvs,xs,h=>by
  obtain ⟨v,r,rfl,a,b⟩:=h.inv
  by_cases e:k'=k
  ·exact .inl ⟨d,v,by unfold valD;rw [keyB_eq,decide_eq_true e,if_pos rfl],valV_pos e,a⟩
  ·have e1:valD ((k',d)::kvs) k=valD kvs k:=by
    show (if keyB k' k=true then _ else _)=_;rw [keyB_eq,decide_eq_false e,if_neg Bool.false_ne_true]
   rw [e1,valV_neg e];exact RK.val k b
theorem RK.some_eq (k:Key) {kvs:List (Key×D)}{xs:List (Key×V)}(h:RK K H ρ kvs xs):(valV xs k).isSome=(valD kvs k).isSome:=by
 rcases h.val k with ⟨d,v,e1,e2,_⟩ | ⟨e1,e2⟩ <;> rw [e1,e2] <;> rfl
theorem RK.any (k:Key):∀ {kvs:List (Key×D)}{xs:List (Key×V)},RK K H ρ kvs xs→(xs.any fun kv=>decide (kv.1=k))=(kvs.any fun kv=>keyB kv.1 k)
 | [],xs,h=>by rw [h.inv0];rfl
 | (k',d)::kvs,xs,h=>by
  obtain ⟨v,r,rfl,a,b⟩:=h.inv;rw [List.any_cons,List.any_cons,RK.any k b,keyB_eq]
theorem RK.repl {d:D}{v:V}(k:Key) (rv:RD K H ρ d v):∀ {kvs:List (Key×D)}{xs:List (Key×V)},RK K H ρ kvs xs→RK K H ρ (kvs.map fun kv=>if keyB kv.1 k=true then (kv.1,d) else kv) (xs.map fun kv=>if kv.1=k then (kv.1,v) else kv)
 | [],xs,h=>by rw [h.inv0];exact .nil
 | (k',d')::kvs,xs,h=>by
  obtain ⟨v',r,rfl,a,b⟩:=h.inv;rw [List.map_cons,List.map_cons];dsimp only;rw [keyB_eq]
  by_cases e:k'=k
  ·rw [decide_eq_true e,if_pos rfl,if_pos e];exact (RK.repl k rv b).cons rv
  ·rw [decide_eq_false e,if_neg Bool.false_ne_true,if_neg e];exact (RK.repl k rv b).cons a
theorem RK.put {d:D}{v:V}(k:Key) (rv:RD K H ρ d v) {kvs:List (Key×D)}{xs:List (Key×V)}(h:RK K H ρ kvs xs):RK K H ρ (putD kvs k d) (putK xs k v):=by
 unfold putD putK;rw [h.any k]
 by_cases e:(kvs.any fun kv=>keyB kv.1 k)=true
 ·rw [if_pos e,if_pos e];exact h.repl k rv
 ·rw [if_neg e,if_neg e];refine ⟨by rw [List.map_append,List.map_append,h.1];rfl,?_⟩;rw [List.map_append,List.map_append];exact h.2.append (.cons rv .nil)
theorem RK.merge:∀ {more:List (Key×D)}{ys:List (Key×V)}{kvs:List (Key×D)}{xs:List (Key×V)},RK K H ρ more ys→RK K H ρ kvs xs→RK K H ρ (mergeD kvs more) (mergeK xs ys)
 | [],ys,_,_,h,g=>by rw [h.inv0];exact g
 | (k,d)::more,ys,kvs,xs,h,g=>by
  obtain ⟨v,r,rfl,a,b⟩:=h.inv;exact (show RK K H ρ (mergeD (putD kvs k d) more) (mergeK (putK xs k v) r) from RK.merge b (g.put k a))
theorem RK.length {kvs:List (Key×D)}{xs:List (Key×V)}(h:RK K H ρ kvs xs):xs.length=kvs.length:=by
 have:=congrArg List.length h.1
 simpa using this
theorem Ev.dk {p:Addr}{ys zs:List (Key×V)}(hp:H p=some (.dK ys)):Ev K H ρ (upd H p (.dK zs)) ρ:=by
 refine ⟨fun a xs h=>?_,List.prefix_refl _,fun a xs h=>?_,fun a C dx fs h=>?_⟩
 ·rcases h with (h | ⟨ob,h⟩) | h
  ·exact .inl (.inl (by rw [upd_ne (ne_of h hp (by intro z;cases z))];exact h))
  ·exact .inl (.inr ⟨ob,by rw [upd_ne (ne_of h hp (by intro z;cases z))];exact h⟩)
  ·exact .inr h
 ·rcases h with ⟨ob,h⟩ | h
  ·exact .inl ⟨ob,by rw [upd_ne (ne_of h hp (by intro z;cases z))];exact h⟩
  ·exact .inr h
 ·rw [upd_ne (ne_of h hp (by intro z;cases z))];exact h
theorem RS.newD {mh:MH}{p:Addr}{xs:List (Key×V)}{kvs:List (Key×D)}(h:RS K H ρ mh) (hp:H p=none) (r:RK K H ρ kvs xs):RS K (upd H p (.dK xs)) (ρ++[p]) (mh++[.dct kvs]):=by
 have hnp:p ∉ ρ:=fun z=>by
  obtain ⟨o,q⟩:=h.tracked z;rw [hp] at q;cases q
 refine ⟨by rw [List.length_append,List.length_append,h.len];rfl,?_,fun n a ob e1 e2=>?_⟩
 ·rw [List.nodup_append]
  exact ⟨h.nd,List.pairwise_singleton _ _,fun a ha b hb z=>by
   rw [List.mem_singleton.mp hb] at z;rw [z] at ha;exact hnp ha⟩
 ·by_cases hn:n < ρ.length
  ·rw [List.getElem?_append_left hn] at e1;rw [List.getElem?_append_left (by rw [← h.len];exact hn)] at e2;refine (h.obj n a ob e1 e2).mono (Ev.newL hp) ?_;obtain ⟨oo,q⟩:=h.tracked (List.mem_of_getElem? e1);rw [upd_ne (ne_of_none q hp)]
  ·rw [List.getElem?_append_right (by omega)] at e1;rw [List.getElem?_append_right (by rw [← h.len];omega)] at e2;have n0:n - ρ.length=0:=by
    have:=(List.getElem?_eq_some_iff.mp e1).1;simp at this;omega
   rw [n0] at e1;rw [← h.len,n0] at e2;cases e1;cases e2;exact ⟨xs,upd_same,r.1,r.2.mono (Ev.newL hp)⟩
theorem RS.setD {mh:MH}{n:Nat}{p:Addr}{ys xs:List (Key×V)}{kvs:List (Key×D)}(h:RS K H ρ mh) (hn:ρ[n]?=some p) (hp:H p=some (.dK ys)) (r:RK K H ρ kvs xs):RS K (upd H p (.dK xs)) ρ (mh.set n (.dct kvs)):=by
 refine ⟨by rw [List.length_set];exact h.len,h.nd,fun m a ob e1 e2=>?_⟩
 by_cases hm:n=m
 ·subst hm;rw [hn] at e1;cases e1;rw [List.getElem?_set] at e2;simp only [if_true] at e2;split at e2
  ·cases e2;exact ⟨xs,upd_same,r.1,r.2.mono (Ev.dk hp)⟩
  ·cases e2
 ·rw [List.getElem?_set_ne hm] at e2;refine (h.obj m a ob e1 e2).mono (Ev.dk hp) ?_;rw [upd_ne];intro z;subst z;exact hm ((List.getElem?_inj (List.getElem?_eq_some_iff.mp hn).1 h.nd).mp (hn.trans e1.symm))
end
noncomputable def dctOf (x:D) (mh:MH):Option (List (Key×D)):=match x with
 | .ref n=>(match mh[n]? with | some (.dct kvs)=>some kvs | _=>none)
 | _=>none
theorem dctOf_some {x:D}{mh:MH}{kvs:List (Key×D)}(h:dctOf x mh=some kvs):∃ n,x=.ref n∧mh[n]?=some (.dct kvs):=by
 cases x with
 | ref n =>
  have h:(match mh[n]? with | some (.dct kvs)=>some kvs | _=>none)=some kvs:=h;split at h
  ·rename_i e;cases h;exact ⟨n,rfl,e⟩
  ·cases h
 | _=>cases h
theorem dctOf_lst {n:Nat}{mh:MH}{ds:List D}(h:mh[n]?=some (.lst ds)):dctOf (.ref n) mh=none:=by
 show (match mh[n]? with | some (.dct kvs)=>some kvs | _=>none)=none;rw [h]
theorem dctOf_dct {n:Nat}{mh:MH}{kvs:List (Key×D)}(h:mh[n]?=some (.dct kvs)):dctOf (.ref n) mh=some kvs:=by
 show (match mh[n]? with | some (.dct kvs)=>some kvs | _=>none)=some kvs;rw [h]
theorem dctOf_ok {K:PySem.W.Frag}{H:Hp}{ρ:List Addr}{mh:MH}{x:D}{v:V}{kvs:List (Key×D)}(rs:RS K H ρ mh) (r:RD K H ρ x v) (h:dctOf x mh=some kvs):∃ a xs,v=.ref a∧H a=some (.dK xs)∧RK K H ρ kvs xs:=by
 obtain ⟨n,rfl,e⟩:=dctOf_some h;cases r with
 | @ref _ a ha =>
  obtain ⟨a',ha',ro⟩:=rs.at e;rw [ha] at ha';cases ha';obtain ⟨xs,q,k,r⟩:=ro;exact ⟨a,xs,rfl,q,k,r⟩
theorem keyD_ok {K:PySem.W.Frag}{H:Hp}{ρ:List Addr}{x:D}{v:V}{k:Key}(r:RD K H ρ x v) (h:keyD x=some k):v=kV k:=by
 cases r with
 | int i=>cases h;rfl
 | str x=>cases h;rfl
 | _=>cases h
noncomputable def inD (neg:Bool) (x c:D) (mh:MH):Option (D×MH):=match dctOf c mh with
 | none=>inD0 neg x c mh
 | some kvs=>match keyD x with
  | some k=>some (.bl (if neg then !(valD kvs k).isSome else (valD kvs k).isSome),mh)
  | none=>none
noncomputable def ixD (x y:D) (mh:MH):Option (D×MH):=match dctOf x mh with
 | none=>ixD0 x y mh
 | some kvs=>match keyD y with
  | some k=>(match valD kvs k with | some d=>some (d,mh) | none=>none)
  | none=>none
section
variable {X:Cx}
theorem one_of64 (hu:X.A.units+64 < cLine):X.A.units+1 < cLine:=by omega
theorem op_inD (hu:X.A.units+64 < cLine):OpR X (compareOp .In) (rD X.K (inD false)):=by
 rintro pins s σ H x y v u Q I rx ry ⟨ρ,mh,dx,dy,d,mh',q,rs,r1,r2,co⟩;unfold inD at q;split at q
 ·exact op_inD0 hu pins s σ H x y v u Q I rx ry ⟨ρ,mh,dx,dy,d,mh',q,rs,r1,r2,co⟩
 ·rename_i kvs ek;obtain ⟨a,xs,rfl,hd,rk⟩:=dctOf_ok rs r2 ek;split at q
  ·rename_i k e;cases q;cases keyD_ok r1 e;cases ry;exact d_in (one_of64 hu) I (DGet.k hd) rx fun s' I'=>⟨.bl _,H,I',rfl,by rw [rk.some_eq];exact co H ρ _ Ev.refl rs (.bl _)⟩
  ·cases q
theorem op_notInD (hu:X.A.units+64 < cLine):OpR X (compareOp .NotIn) (rD X.K (inD true)):=by
 rintro pins s σ H x y v u Q I rx ry ⟨ρ,mh,dx,dy,d,mh',q,rs,r1,r2,co⟩;unfold inD at q;split at q
 ·exact op_notInD0 hu pins s σ H x y v u Q I rx ry ⟨ρ,mh,dx,dy,d,mh',q,rs,r1,r2,co⟩
 ·rename_i kvs ek;obtain ⟨a,xs,rfl,hd,rk⟩:=dctOf_ok rs r2 ek;split at q
  ·rename_i k e;cases q;cases keyD_ok r1 e;cases ry;exact d_notIn (one_of64 hu) I (DGet.k hd) rx fun s' I'=>⟨.bl _,H,I',rfl,by rw [rk.some_eq];exact co H ρ _ Ev.refl rs (.bl _)⟩
  ·cases q
theorem ix_D:IxR X (rD X.K ixD):=by
 rintro value slice pins s σ H x y v u Q I rx ry ⟨ρ,mh,dx,dy,d,mh',q,rs,r1,r2,co⟩ hs;unfold ixD at q;split at q
 ·exact ix_D0 value slice pins s σ H x y v u Q I rx ry ⟨ρ,mh,dx,dy,d,mh',q,rs,r1,r2,co⟩ hs
 ·rename_i kvs ek;obtain ⟨a,xs,rfl,hd,rk⟩:=dctOf_ok rs r1 ek;split at q
  ·rename_i k e;split at q
   ·rename_i d' e2;cases q;cases keyD_ok r2 e;cases rx;rcases rk.val k with ⟨d2,v2,g1,g2,g3⟩ | ⟨g1,g2⟩
    ·rw [e2] at g1;cases g1;obtain ⟨z,hn,vs,rel,dd⟩:=dk_of I.hok hd;obtain ⟨w',hw,rw'⟩:=RelO.some_of (v:=v2) (o:=valueAt vs k) (by rw [← g2];exact rel.val k);exact subscriptTail_builtinR (x:=w') dd.typeIs PySem.F.slot_dict_getitem.lookup (wpAny_getItem_of (kV_is ry) dd.mapOf hw ⟨rfl,⟨v2,H,I.tok _,rw',co H ρ _ Ev.refl rs g3⟩⟩) hs
    ·rw [e2] at g1;cases g1
   ·cases q
  ·cases q
noncomputable def pairsM (E:Expr→DM D):List (Option Expr)→List Expr→DM (List (Key×D))
 | [],[]=>DM.ret []
 | some (.Constant (.str x) _ _)::ks,v::vs=>(E v).bnd fun d=>(pairsM E ks vs).bnd fun r=>DM.ret ((.inr x,d)::r)
 | _,_=>DM.bad
noncomputable def keysB:List (Option Expr)→List Expr→Bool
 | [],[]=>true
 | some (.Constant (.str _) _ _)::ks,_::vs=>keysB ks vs
 | _,_=>false
noncomputable def dispM (ps:DM (List (Key×D))):DM D:=fun loc mh=>match ps loc (mh++[.dct []]) with
 | none=>none
 | some (kds,m2)=>match m2[mh.length]? with
  | some (.dct [])=>if kds.length≤15 then some (.ref mh.length,m2.set mh.length (.dct (mergeD [] kds))) else none
  | _=>none
noncomputable def tDP (K:PySem.W.Frag) (loc:Loc) (mh:MH) (r:Option (List (Key×D)×MH)) (σ:St) (H:Hp) (Q:List (V×V)→Hp→Prop):Prop:=∃ ρ kds mh',r=some (kds,mh')∧RL K H ρ loc σ∧RS K H ρ mh∧∀ H' ρ' xs,Ev K H ρ H' ρ'→RS K H' ρ' mh'→RK K H' ρ' kds xs→Q (xs.map fun kv=>(kV kv.1,kv.2)) H'
theorem keys_all:∀ {ks:List (Option Expr)}{vs:List Expr},keysB ks vs=true→ks.all (·.isSome)=true∧ks.length=vs.length
 | [],[],_=>⟨rfl,rfl⟩
 | some (.Constant (.str _) _ _)::ks,_::vs,h=>by
  obtain ⟨h1,h2⟩:=keys_all (ks:=ks) (vs:=vs) h;exact ⟨by rw [List.all_cons,h1];rfl,by rw [List.length_cons,List.length_cons,h2]⟩
theorem dp_pairs {E:Expr→DM D}{pos:Pos}:∀ (ks:List (Option Expr)) (vs:List Expr),keysB ks vs=true→(∀ v∈vs,DE X v (E v))→∀ loc mh,∃ trs,PPs X pos ks vs trs∧∀ σ H Q,tDP X.K loc mh (pairsM E ks vs loc mh) σ H Q→tPairs trs σ H Q
 | [],[],_,_,loc,mh=>⟨[],pps_nil,fun σ H Q ⟨ρ,kds,mh',q,rl,rs,co⟩=>by
  cases q
  exact co H ρ [] Ev.refl rs .nil⟩
 | some (.Constant (.str x) k p)::ks,v::vs,h,hE,loc,mh=>by
  have h:keysB ks vs=true:=h;cases ev:E v loc mh with
  | none =>
   obtain ⟨trs,h1,_⟩:=dp_pairs (E:=E) (pos:=pos) ks vs h (fun y hy=>hE y (List.mem_cons_of_mem _ hy)) loc mh;refine ⟨_,pps_cons pe_str (hE v List.mem_cons_self loc mh) h1,?_⟩;rintro σ H Q ⟨ρ,kds,mh',q,_⟩;have q:((E v).bnd fun d=>(pairsM E ks vs).bnd fun r=>DM.ret ((.inr x,d)::r)) loc mh=some (kds,mh'):=q;unfold DM.bnd at q;rw [ev] at q;cases q
  | some r =>
   obtain ⟨d,m1⟩:=r;obtain ⟨trs,h1,h2⟩:=dp_pairs (E:=E) (pos:=pos) ks vs h (fun y hy=>hE y (List.mem_cons_of_mem _ hy)) loc m1;refine ⟨_,pps_cons pe_str (hE v List.mem_cons_self loc mh) h1,?_⟩;rintro σ H Q ⟨ρ,kds,mh',q,rl,rs,co⟩;have q:((E v).bnd fun d=>(pairsM E ks vs).bnd fun r=>DM.ret ((.inr x,d)::r)) loc mh=some (kds,mh'):=q;obtain ⟨d',m1',ev',q⟩:=bnd_some q;rw [ev] at ev';cases ev';obtain ⟨r,m2,er,q⟩:=bnd_some q;cases q;refine ⟨ρ,d,m1,ev,rl,rs,fun H1 ρ1 v1 e1 rs1 r1=>h2 σ H1 _ ⟨ρ1,r,mh',er,rl.mono e1,rs1,fun H2 ρ2 xs e2 rs2 r2=>?_⟩⟩;exact co H2 ρ2 ((.inr x,v1)::xs) (e1.trans e2) rs2 (r2.cons (r1.mono e2))
theorem de_disp {E:Expr→DM D}{pos:Pos}{ks:List (Option Expr)}{vs:List Expr}(h:keysB ks vs=true) (h0:ks≠[]) (h15:ks.length≤15) (hE:∀ v∈vs,DE X v (E v)):DE X (.Dict ks vs pos) (dispM (pairsM E ks vs)):=fun loc mh=>by
 obtain ⟨trs,h1,h2⟩:=dp_pairs (X:=X) (E:=E) (pos:=pos) ks vs h hE loc (mh++[.dct []]);refine PE_imp (pe_disp h1 (keys_all h).1 (keys_all h).2 h0 h15) ?_;rintro σ H Q ⟨ρ,d,mh',q,rl,rs,co⟩ p hp;unfold dispM at q;split at q
 ·cases q
 ·rename_i kds m2 ep;split at q
  ·rename_i eo;split at q
   ·rename_i hk;cases q;have rs1:=rs.newD (p:=p) hp (RK.nil (K:=X.K) (H:=H) (ρ:=ρ));refine h2 σ _ _ ⟨ρ++[p],kds,m2,ep,rl.mono (Ev.newL hp),rs1,fun H' ρ' xs e' rs' rk=>?_⟩;have at':ρ'[mh.length]?=some p:=e'.at (rs.last p);obtain ⟨a,ha,xs0,hd,k0,_⟩:=rs'.at eo;rw [at'] at ha;cases ha;have x0:xs0=[]:=by cases xs0 with | nil=>rfl | cons _ _=>cases k0
    subst x0;refine ⟨hd,xs,rfl,by rw [rk.length];exact hk,co _ ρ' _ (((Ev.newL hp).trans e').trans (Ev.dk hd)) (rs'.setD at' hd (rk.merge .nil)) (.ref at')⟩
   ·cases q
  ·cases q
end
noncomputable def osIs:Option Str→Value→Bool
 | none,.none=>true
 | none,_=>false
 | some x,v=>Value.isStrOf x v
theorem osIs_shape {k:Option Str}{v:Value}(h:osIs k v=true):(k=none∧v=.none)∨∃ x t,k=some x∧v=.str x t:=by
 cases k with
 | none=>cases v <;> first | exact .inl ⟨rfl,rfl⟩ | cases h
 | some x=>obtain ⟨t,e⟩:=Value.isStrOf_shape (show Value.isStrOf x v=true from h);exact .inr ⟨x,t,rfl,e⟩
noncomputable def osHash (w:World):Option Str→Int
 | none=>0xFCA86420
 | some x=>hashStr w x
theorem hash_none {P:Program}{w:World}{A:Around}{E:Value→Shared→Prop}{s:Shared}{Q:Int→Shared→Prop}(h:Q 0xFCA86420 { s with toks:=s.toks+1 }):wpAny (model P w) A (pyHash .none) Q E s:=by
 have hT:s.TypeIs Value.none "NoneType":=rfl
 unfold pyHash pyHashByItsType;have hv:[Value.none].any Value.onHeap=false:=rfl;refine wpAny_bind ?_;rw [cRoomFor,if_neg (by rw [hv];exact Bool.false_ne_true)];refine wpAny_pure ?_;refine wpAny_bind (wpAny_specialOf hT F.slot_NoneType_hash.lookup ?_)
 show wpAny _ _ (if (some (Value.builtin "NoneType.__hash__")==some Value.none)=true then _ else _) Q E s;rw [if_neg (by rw [beq_builtin_none];exact Bool.false_ne_true)];refine wpAny_bind (wpAny_specialOf hT F.slot_NoneType_hash.lookup ?_)
 show wpAny _ _ (callSpecialIfBoundUnlessNone? .none "__hash__" _ >>= _) Q E s
 refine wpAny_bind (wpAny_callSpecialIfBoundUnlessNone?_slot hT F.slot_NoneType_hash
  (wpAny_call_entry F.slot_NoneType_hash hT F.entry_NoneType_hash
   (show wpAny _ _ (do ret (← mkInt 0xFCA86420)) _ _ s from wpAny_ret_mkInt ?_) (F.args_NoneType_hash_1 _)))
 exact wpAny_pure h
theorem eq_none {P:Program}{w:World}{A:Around}{E:Value→Shared→Prop}{s:Shared}{Q:Bool→Shared→Prop}(h:Q true s):wpAny (model P w) A (eqBool .none .none) Q E s:=by
 unfold eqBool;refine wpAny_holding ?_;rw [if_pos (by rfl)];exact wpAny_bind (wpAny_rule (wpAny_pure h))
noncomputable def osKind (prog:Program) (w:World):PySem.KeyKind prog w (Option Str) where
 is:=osIs
 hash:=osHash w
 inj:=fun v a b ha hb=>by
  rcases osIs_shape ha with ⟨rfl,rfl⟩ | ⟨x,t,rfl,rfl⟩
  ·rcases osIs_shape hb with ⟨rfl,e⟩ | ⟨y,u,rfl,e⟩
   ·rfl
   ·exact nomatch e
  ·rcases osIs_shape hb with ⟨rfl,e⟩ | ⟨y,u,rfl,e⟩
   ·exact nomatch e
   ·injection e with e1 _;rw [e1]
 byValue:=fun k v h=>by
  rcases osIs_shape h with ⟨rfl,rfl⟩ | ⟨x,t,rfl,rfl⟩ <;> rfl
 pyHash:=fun hv h=>by
  rcases osIs_shape hv with ⟨rfl,rfl⟩ | ⟨x,t,rfl,rfl⟩
  ·exact hash_none h
  ·exact wpAny_pyHash_str h
 eqBool:=fun hu hv h=>by
  rcases osIs_shape hu with ⟨rfl,rfl⟩ | ⟨x,t,rfl,rfl⟩
  ·rcases osIs_shape hv with ⟨rfl,rfl⟩ | ⟨y,u,rfl,rfl⟩
   ·exact eq_none (by simpa using h)
   ·exact SeqAt.EqAt.none_str y u _ _ _ _ (by simpa using h)
  ·rcases osIs_shape hv with ⟨rfl,rfl⟩ | ⟨y,u,rfl,rfl⟩
   ·exact SeqAt.EqAt.str_none x t _ _ _ _ (by simpa using h)
   ·exact wpAny_eqBool_str (by simpa using h)
 «strs»:=fun k x t v h=>by
  rcases osIs_shape h with ⟨rfl,e⟩ | ⟨y,u,rfl,e⟩
  ·exact nomatch e
  ·injection e with e1 _
   subst e1;cases v <;> rfl
theorem os_none:∀ {w:World}{K:PySem.W.Frag}{es:List DictEntry}{kvs:List (Str×D)},DEnts w K es kvs→es.find? (fun e=>osIs none e.key)=none
 | _,_,_,_,.nil=>rfl
 | _,_,_,_,.cons rv rd h=>by rw [List.find?_cons];exact os_none h
section
variable {X:Cx}{a:Addr}{kvs:List (Str×D)}
theorem DicOk.mapO {pins:List (Addr×Obj)}{σ:L2.St}{H:Hp}{s:Shared}(D:DicOk X.w X.K a kvs) (I:Inv X pins σ H s):∃ f,s.heap.MapOf (osKind X.prog X.w) a f∧f none=none∧(∃ o,s.heap.get? a=some o∧o.dict=none)∧∀ k,(∃ d u v,kvs.lookup k=some d∧f (some k)=some u∧RelV v u∧∀ H ρ,RD X.K H ρ d v)∨(kvs.lookup k=none∧f (some k)=none):=by
 obtain ⟨o,es,ep,h1,h2,h3,h4⟩:=D.ob;refine ⟨fun k=>match k with | none=>none | some k=>foundAt es.toList k,⟨o,es,ep,I.kIn a o h1,h2,h3,fun e he=>?_,fun k=>?_⟩,rfl,⟨o,I.kIn a o h1,h2.2.1⟩,dents_find h4⟩
 ·obtain ⟨k,e1,e2⟩:=dents_keys (P:=X.prog) h4 e (by simpa using he);exact ⟨some k,e1,e2⟩
 ·cases k with
  | none =>
   show (es.find? fun e=>osIs none e.key).map (·.val)=none;rw [← Array.find?_toList,os_none h4];rfl
  | some k=>exact findBy_list es k
noncomputable def rGet (K:PySem.W.Frag) (a:Addr) (kvs:List (Str×D)):V→List V→Hp→VK→Prop:=fun x xs H Q=>x=.ref a ∧
  ((∃ k,xs=[.str k]∧∀ v,(∃ d,kvs.lookup k=some d∧∀ H ρ,RD K H ρ d v)∨(kvs.lookup k=none∧v=.non)→Q v H)∨(xs=[.non]∧Q .non H) ∨
   ∃ k z,xs=[.str k,z]∧∀ v,(∃ d,kvs.lookup k=some d∧∀ H ρ,RD K H ρ d v)∨(kvs.lookup k=none∧v=z)→Q v H)
theorem mt_get (D:DicOk X.w X.K a kvs):MtR X "dict.get" (rGet X.K a kvs):=by
 rintro pins s σ H x xs v us Q I rx rv ⟨rfl,q⟩;cases rx;obtain ⟨f,m,hn,_,hf⟩:=D.mapO I;rcases q with ⟨k,rfl,q⟩ | ⟨rfl,q⟩ | ⟨k,z,rfl,q⟩
 ·obtain ⟨u,rfl,ru⟩:=rv.one;obtain ⟨t,rfl⟩:=ru;refine call_meetsIn PySem.F.slot_dict_get m.typeIs PySem.F.entry_dict_get (PySem.F.args_dict_get_2 _ _) (meets_dict_get (osKind X.prog X.w) a (k:=some k) (by simp [osKind,osIs,Value.isStrOf]) D.ns) ⟨_,m,?_⟩;rcases hf k with ⟨d,u,v,h1,h2,h3,h4⟩ | ⟨h1,h2⟩
  ·rw [h2];exact ⟨v,H,I.tok _,h3,q v (.inl ⟨d,h1,h4⟩)⟩
  ·rw [h2];exact ⟨.non,H,I.tok _,rfl,q _ (.inr ⟨h1,rfl⟩)⟩
 ·obtain ⟨u,rfl,ru⟩:=rv.one;cases ru;refine call_meetsIn PySem.F.slot_dict_get m.typeIs PySem.F.entry_dict_get (PySem.F.args_dict_get_2 _ _) (meets_dict_get (osKind X.prog X.w) a (k:=none) rfl D.ns) ⟨_,m,?_⟩;rw [hn];exact ⟨.non,H,I.tok _,rfl,q⟩
 ·obtain ⟨u,w,rfl,ru,rz⟩:=rv.two;obtain ⟨t,rfl⟩:=ru;refine call_meetsIn PySem.F.slot_dict_get m.typeIs PySem.F.entry_dict_get (PySem.F.args_dict_get_3 _ _ _) (meets_dict_get_default (osKind X.prog X.w) a (k:=some k) (by simp [osKind,osIs,Value.isStrOf]) D.ns w) ⟨_,m,?_⟩;rcases hf k with ⟨d,u,v,h1,h2,h3,h4⟩ | ⟨h1,h2⟩
  ·rw [h2];exact ⟨v,H,I.tok _,h3,q v (.inl ⟨d,h1,h4⟩)⟩
  ·rw [h2];exact ⟨z,H,I.tok _,rz,q _ (.inr ⟨h1,rfl⟩)⟩
variable {e:Expr}{es:List Expr}{x:Str}{p apos cpos:Pos}
theorem pe_dicM {id:String}{name:Str}{t:TA}{r:V→List V→Hp→VK→Prop}(D:DicOk X.w X.K a kvs) (hg:Gl X x) (hm:X.mg x=some (.ref a)) (hd:(x==("__debug__":Str))=false) (slot:Slot "dict" name id) (hty:typeOf (.builtin id)=pure (.type "method_descriptor")) (hr:MtR X id r) (ha:PA X (e::es) t)
  (hbase:attributeBase (.Name x p) name X.env (eval (.Name x p) X.env)=eval (.Name x p) X.env)
  (hfew:((backTo cpos (starEach (e::es) X.env)).all (fun x=>!x.1)&&(backToKw cpos (keywordEach [] X.env)).all (fun x=>x.1.isSome)
   && decide ((e::es).length+([]:List Keyword).length+(if ([]:List Keyword).isEmpty then 0 else 1) < 30))=true)
  (hline:(apos.endLine==cpos.line)=true) (hs:starEach (e::es) X.env=(false,eval e X.env)::starEach es X.env) (hplain:(backTo cpos (starEach es X.env)).any (·.1)=false) :
  PE X (.Call (.Attribute (.Name x p) name apos) (e::es) [] cpos) (fun σ H Q=>t σ H fun xs H2=>r (.ref a) xs H2 Q):=by
 intro pins s σ H Q I h;refine wpAny_Call_method_late hbase hfew hline rfl (thn (pe_glob (v:=.ref a) hg hm rfl hd pins s σ H (fun y H1=>y=.ref a∧t σ H1 fun xs H2=>r (.ref a) xs H2 Q) I ⟨rfl,h⟩) ?_);rintro v s1 ⟨x,H1,I1,r1,rfl,q1⟩;cases (show v=Value.ref a from r1);obtain ⟨f,m,hn,⟨o,ho1,ho2⟩,hf⟩:=D.mapO I1
 refine ⟨"dict",id,PySem.F.plainAttrs_dict,slot,hty,m.typeIs,fun b e=>by cases e;exact ⟨o,ho1,ho2⟩,?_⟩;have hA:=ha cpos pins s1 σ H1 _ I1 q1;rw [hs] at hA ⊢;refine Calls.callWith_builtin (by show (false || (backTo cpos (starEach es X.env)).any (·.1))=false;rw [hplain] <;> rfl) (Calls.evalArgs_plain ?_);refine thn hA ?_;rintro us s2 ⟨vs,H2,I2,r2,q2⟩;exact hr pins s2 σ H2 (.ref a) vs _ us Q I2 (show RelV (.ref a) (Value.ref a) from rfl) r2 q2
noncomputable def getOf (kvs:List (Str×D)):List D→Option D
 | [.str k]=>some ((kvs.lookup k).getD .non)
 | [.non]=>some .non
 | [.str k,z]=>some ((kvs.lookup k).getD z)
 | _=>none
noncomputable def dicGet (kvs:List (Str×D)) (mr:DM (List D)):DM D:=mr.bnd fun ds=>match getOf kvs ds with
 | some d=>DM.ret d
 | none=>DM.bad
theorem rget_ok {H:Hp}{ρ:List Addr}{Q:VK}{ds:List D}{vs:List V}{d:D}(h:getOf kvs ds=some d) (r:RDs X.K H ρ ds vs) (q:∀ v,RD X.K H ρ d v→Q v H):rGet X.K a kvs (.ref a) vs H Q:=by
 refine ⟨rfl,?_⟩;unfold getOf at h;split at h
 ·rename_i k;cases h;obtain ⟨v,rfl,rv⟩:=rds1 r;cases rv
  exact .inl ⟨k,rfl,fun v hv=>q v (by
   rcases hv with ⟨d,h1,h2⟩ | ⟨h1,rfl⟩
   ·rw [h1];exact h2 H ρ
   ·rw [h1];exact .non)⟩
 ·cases h;obtain ⟨v,rfl,rv⟩:=rds1 r;cases rv;exact .inr (.inl ⟨rfl,q _ .non⟩)
 ·rename_i k z;cases h;cases r with
  | cons rv r2 =>
   cases rv;obtain ⟨w,rfl,rw⟩:=rds1 r2
   exact .inr (.inr ⟨k,w,rfl,fun v hv=>q v (by
    rcases hv with ⟨d,h1,h2⟩ | ⟨h1,rfl⟩
    ·rw [h1];exact h2 H ρ
    ·rw [h1];exact rw)⟩)
 ·cases h
theorem de_dicGet {mr:DM (List D)}(D:DicOk X.w X.K a kvs) (hg:Gl X x) (hm:X.mg x=some (.ref a)) (hd:(x==("__debug__":Str))=false) (ha:DA X (e::es) mr)
  (hbase:attributeBase (.Name x p) "get" X.env (eval (.Name x p) X.env)=eval (.Name x p) X.env)
  (hfew:((backTo cpos (starEach (e::es) X.env)).all (fun x=>!x.1)&&(backToKw cpos (keywordEach [] X.env)).all (fun x=>x.1.isSome)
   && decide ((e::es).length+([]:List Keyword).length+(if ([]:List Keyword).isEmpty then 0 else 1) < 30))=true)
  (hline:(apos.endLine==cpos.line)=true) (hs:starEach (e::es) X.env=(false,eval e X.env)::starEach es X.env) (hplain:(backTo cpos (starEach es X.env)).any (·.1)=false) :
  DE X (.Call (.Attribute (.Name x p) "get" apos) (e::es) [] cpos) (dicGet kvs mr):=fun loc mh =>
 PE_imp (pe_dicM D hg hm hd PySem.F.slot_dict_get PySem.F.type_dict_get (mt_get D) (ha loc mh) hbase hfew hline hs hplain) fun σ H Q ⟨ρ,d,mh',q,rl,rs,co⟩=>by
  obtain ⟨ds,m1,ea,q⟩:=bnd_some q;refine ⟨ρ,ds,m1,ea,rl,rs,fun H1 ρ1 vs e1 rs1 r1=>?_⟩;have q:(match getOf kvs ds with | some d=>DM.ret d | none=>DM.bad:DM DL.D) loc m1=some (d,mh'):=q;cases eg:getOf kvs ds with
  | some d' =>
   rw [eg] at q;cases q;exact rget_ok eg r1 fun v rv=>co H1 ρ1 v e1 rs1 rv
  | none=>rw [eg] at q;cases q
end
theorem op_fdivB {X:Cx}:OpR X (binaryOp .FloorDiv) (rI (fun _ j=>j≠0∧j.natAbs < 10889035741470030830827987437816582766592) fun i j=>.int (i.fdiv j)):=opI fun _ j _ _ _ _ _ hc q=>floordiv_int hc.1 q (.inl (PyProof.noPylong_of_log2 (by
 have h:j.natAbs < 2 ^ 133:=hc.2
 by_cases h0:j.natAbs=0
 ·rw [h0];decide +kernel
 ·have h60:j.natAbs.log2 < 133:=(Nat.log2_lt h0).mpr h
  omega)))
structure SC where
 N:List Str
 scope:Scope
 own:Str→Bool
structure Gb where
 cal:Str→Option (List Str×Fn)
 con:Str→Option D
 dic:Str→Option (List (Str×D))
 fld:Str→Str→Bool
 met:Str→Str→Option (List Str×Fn)
 mkr:Str→Option Str
noncomputable def slot (N:List Str) (x:Str):Option Nat:=N.findIdx? (fun y=>y==x)
noncomputable def visB (sc:Scope) (x:Str):Bool:=match sc.names.lookup x with
 | some .local=>true
 | some .cell=>true
 | some .free=>true
 | _=>false
noncomputable def locB (sc:Scope) (x:Str):Bool:=match sc.names.lookup x with
 | some .local=>true
 | some .cell=>true
 | _=>false
noncomputable def glB (sc:Scope) (x:Str):Bool:=match sc.names.lookup x with
 | some .globalImplicit=>true
 | _=>false
noncomputable def cmulB (i j:Int):Bool:=decide (-(2 ^ 64) < i∧i < 2 ^ 64) || decide (-(2 ^ 64) < j∧j < 2 ^ 64)
noncomputable def opOf:Operator→Option (D→D→MH→Option (D×MH))
 | .Add=>some addD
 | .Sub=>some (iop (fun _ _=>true) fun i j=>i - j)
 | .Mult=>some (mulD2 (iop cmulB fun i j=>i * j))
 | .FloorDiv=>some (iop (fun _ j=>decide (j≠0)&&decide (j.natAbs < 10889035741470030830827987437816582766592)) fun i j=>i.fdiv j)
 | .Mod=>some (iop (fun _ j=>decide (j≠0)) fun i j=>i.fmod j)
 | .Pow=>some (iop (fun i j=>decide (0≤j)&&(decide (j≤1000000)&&decide (i.natAbs < 2 ^ 64))) fun i j=>i ^ j.toNat)
 | _=>none
noncomputable def cmpOf:CmpOp→(D→D→MH→Option (D×MH))
 | .Eq=>eqD
 | .NotEq=>neD
 | .Lt=>icmp fun i j=>decide (i < j)
 | .LtE=>icmp fun i j=>decide (i≤j)
 | .Gt=>icmp fun i j=>decide (j < i)
 | .GtE=>icmp fun i j=>decide (j≤i)
 | .Is=>isD false
 | .IsNot=>isD true
 | .In=>inD false
 | .NotIn=>inD true
theorem opOf_ok {X:Cx}{op:Operator}{f:D→D→MH→Option (D×MH)}(h:opOf op=some f):OpR X (binaryOp op) (rD X.K f):=by
 cases op <;> (try cases h)
 ·exact op_addD
 ·exact iop0_ok op_sub
 ·refine op_mulD2 (iop_ok op_mul fun i j h=>?_);unfold cmulB at h;rw [Bool.or_eq_true,decide_eq_true_iff,decide_eq_true_iff] at h;exact h
 ·exact iop_ok op_modN fun i j h=>of_decide_eq_true h
 ·refine iop_ok op_pow fun i j h=>?_
  rw [Bool.and_eq_true,Bool.and_eq_true,decide_eq_true_iff,decide_eq_true_iff,decide_eq_true_iff] at h;exact ⟨h.1,h.2.1,h.2.2⟩
 ·refine iop_ok op_fdivB fun i j h=>?_
  rw [Bool.and_eq_true,decide_eq_true_iff,decide_eq_true_iff] at h;exact ⟨h.1,h.2⟩
theorem cmpOf_ok {X:Cx}(hu:X.A.units+64 < cLine) (op:CmpOp):OpR X (compareOp op) (rD X.K (cmpOf op)):=by
 cases op
 ·exact op_eqD hu
 ·exact op_neD hu
 ·exact icmp_ok op_lt
 ·exact icmp_ok op_le
 ·exact icmp_ok op_gt
 ·exact icmp_ok op_ge
 ·exact op_isD
 ·exact op_isNotD
 ·exact op_inD hu
 ·exact op_notInD hu
noncomputable def isStar:Expr→Bool
 | .Starred ..=>true
 | _=>false
noncomputable def isSet:Expr→Bool
 | .Set ..=>true
 | _=>false
noncomputable def isCompE:Expr→Bool
 | .ListComp ..=>true
 | .SetComp ..=>true
 | .DictComp ..=>true
 | _=>false
noncomputable def isSlice:Expr→Bool
 | .Slice ..=>true
 | _=>false
noncomputable def isRev:Expr→Bool
 | .Slice none none (some (.UnaryOp .USub (.Constant (.int i) _ _) _)) _=>i==1
 | _=>false
theorem isRev_some {b:Expr}(h:isRev b=true):∃ k p1 p2 p3,b=.Slice none none (some (.UnaryOp .USub (.Constant (.int 1) k p1) p2)) p3:=by
 unfold isRev at h;split at h
 ·rw [eq_of_beq h];exact ⟨_,_,_,_,rfl⟩
 ·cases h
noncomputable def baseOk:Expr→Bool
 | .Call (.Name ..) [] [] _=>false
 | _=>true
noncomputable def tyOf (c:Str):Option String :=
 if c == "int" then some "int" else if c == "bool" then some "bool" else if c == "str" then some "str" else if c == "tuple" then some "tuple" else if c == "list" then some "list" else if c == "dict" then some "dict" else none
noncomputable def badF:Fn:=fun _ _=>none
noncomputable def badM (_:D) (_:List D) (_:MH):Option (D×MH):=none
theorem call_no {X:Cx}{f:Value}:CallR X f (rDs X.K badF):=by
 rintro _ _ _ _ _ _ _ _ _ ⟨_,_,_,_,_,e,_⟩;cases e
theorem mt_no {X:Cx}{id:String}:MtR X id (rDM X.K badM):=by
 rintro _ _ _ _ _ _ _ _ _ _ _ _ ⟨_,_,_,_,_,_,e,_⟩;cases e
noncomputable def bltOf (x:Str):Option Fn:=if x == "len" then some lenD else if x == "list" then some listD else if x == "tuple" then some badF else if x == "all" then some badF else if x == "any" then some badF else if x == "max" then some maxD2 else if x == "min" then some minD3 else if x == "int" then some intD else if x == "sorted" then some sortedA else if x == "sum" then some badF else none
noncomputable def methOf (m:Str) (n:Nat):Option (String×(D→List D→MH→Option (D×MH))) :=
 if m == "append"&&n==1 then some ("list",appendD) else if m == "bit_length"&&n==0 then some ("int",badM) else if m == "pop"&&n==1 then some ("list",popAtD) else if m == "pop"&&n==0 then some ("list",badM) else if m == "extend"&&n==1 then some ("list",badM) else if m == "index"&&n==1 then some ("tuple",badM) else none
noncomputable def isTupE:Expr→Bool
 | .Tuple ..=>true
 | _=>false
noncomputable def setArg (_:Expr) (_:List Expr):Option Expr:=none
noncomputable def rngArg (_:Expr) (_:List Expr):Option Expr:=none
noncomputable def setPair (_:SC) (_:Expr) (_:CmpOp) (_:Expr):Option (Nat×Nat):=none
noncomputable def compNames (scope:Scope):List Str:=(scope.names.filter fun p=>(match p.2 with | .local=>true | .cell=>true | .free=>true | _=>false)).map (·.1)
noncomputable def capsOf (N:List Str) (scope:Scope):List (Option Nat):=(compNames scope).map fun x=>match scope.names.lookup x with
 | some .free=>slot N x
 | _=>none
noncomputable def relabelS (scope outer:Scope):Scope:={ scope with names:=scope.names.map fun (n,k)=>if (k==.free&&outer.kind==.function&&outer.names.lookup n==some .cell) then (n,.cell) else (n,k) }
noncomputable def compSC (scope:Scope) (sc:SC):SC:={ N:=compNames scope,scope:=relabelS scope sc.scope,own:=fun x=>locB scope x }
noncomputable def compOkB (scope:Scope) (sc:SC):Bool :=
 (match scope.kind with | .function=>true | _=>false)&&(decide ((scope.names.map (·.1)).Nodup) &&
  scope.names.all fun p=>(match p.2 with | .free=>(match sc.scope.names.lookup p.1 with | some .cell=>true | some .free=>true | _=>false) | _=>true))
noncomputable def dicOf (G:Gb) (sc:SC):Expr→Option (List (Str×D))
 | .Name x _=>if glB sc.scope x&&!(x == "__debug__") then G.dic x else none
 | _=>none
noncomputable def dicArg (G:Gb) (sc:SC) (op:CmpOp) (b:Expr):Option (Bool×List (Str×D)):=match op with
 | .In=>(match dicOf G sc b with | some kvs=>some (false,kvs) | none=>none)
 | .NotIn=>(match dicOf G sc b with | some kvs=>some (true,kvs) | none=>none)
 | _=>none
noncomputable def mkArg (G:Gb) (f:Str):List Expr→Option Str
 | []=>G.mkr f
 | _=>none
noncomputable def iGn (sc:SC) (x:Str):Option Nat:=if locB sc.scope x&&sc.own x then slot sc.N x else none
noncomputable def iGs (sc:SC):List Expr→Option (List Nat)
 | []=>some []
 | .Name x _::r=>match iGn sc x with
  | some i=>match iGs sc r with
   | some is=>some (i::is)
   | none=>none
  | none=>none
 | _=>none
noncomputable def iG (sc:SC):Expr→Option (List Nat×GM)
 | .Name x _=>match iGn sc x with | some i=>some ([i],gSet i) | none=>none
 | .Tuple es _ _=>match iGs sc es with | some is=>some (is,gTupD is) | none=>none
 | _=>none
noncomputable def kwName:Option Str→Bool
 | some n=>n == "default"
 | none=>false
noncomputable def isNoneE:Expr→Bool
 | .Constant .none _ _=>true
 | _=>false
noncomputable def kwNone (k:Keyword):Bool:=kwName k.arg&&isNoneE k.value
theorem kwNone_some {k:Keyword}(h:kwNone k=true):∃ j cp kp,k=⟨some "default",.Constant .none j cp,kp⟩:=by
 obtain ⟨n,v,p⟩:=k;unfold kwNone at h;rw [Bool.and_eq_true] at h;obtain ⟨h1,h2⟩:=h;cases n with
 | none=>cases h1
 | some n =>
  have e:n = "default":=eq_of_beq h1
  subst e;cases v with
  | Constant c j cp =>
   cases c with
   | none=>exact ⟨_,_,_,rfl⟩
   | _=>cases h2
  | _=>cases h2
noncomputable def iEb (E:SC→Expr→DM D) (T:SC→Expr→DM Bool) (A:SC→List Expr→DM (List D)) (F:SC→List Expr→DM Bool) (I:SC→Expr→Expr→DM Src) (G:Gb) (sc:SC) (e:Expr):DM D:=match e with
 | .Constant (.int i) _ _=>DM.ret (.int i)
 | .Constant (.bool b) _ _=>DM.ret (.bl b)
 | .Constant .none _ _=>DM.ret .non
 | .Constant (.str x) _ _=>DM.ret (.str x)
 | .Name x _=>if visB sc.scope x&&!(x == "__debug__")&&!(x == "__classdict__") then (match slot sc.N x with
   | some i=>fun loc mh=>match loc[i]? with | some (some d)=>some (d,mh) | _=>none
   | none=>DM.bad) else if glB sc.scope x&&!(x == "__debug__") then (match G.con x with | some d=>DM.ret d | none=>DM.bad) else DM.bad
 | .BinOp a op b _=>(match opOf op with | some f=>dop f (E sc a) (E sc b) | none=>DM.bad)
 | .UnaryOp .USub a _=>(E sc a).bnd fun x=>DM.lift (negD x)
 | .UnaryOp .Not a _=>(boolD (E sc a)).bnd fun c=>DM.ret (.bl (!c))
 | .BoolOp op [a] _=>E sc a
 | .BoolOp .And (a::b::r) p=>dAndV (E sc a) (E sc (.BoolOp .And (b::r) p))
 | .BoolOp .Or (a::b::r) p=>dOrV (E sc a) (E sc (.BoolOp .Or (b::r) p))
 | .Compare a [op] [b] _=>(match setPair sc a op b with
  | some (i,j)=>setEqM (fun loc mh=>match loc[i]? with | some (some d)=>some (d,mh) | _=>none) (fun loc mh=>match loc[j]? with | some (some d)=>some (d,mh) | _=>none)
  | none=>match dicArg G sc op b with
   | some (neg,kvs)=>dicIn neg kvs (E sc a)
   | none=>if isSet b then DM.bad else dop (cmpOf op) (E sc a) (E sc b))
 | .Compare a [op,op'] [b,c] _=>if isSet c then DM.bad else dchain (cmpOf op) (cmpOf op') (E sc a) (E sc b) (E sc c)
 | .IfExp c a b _=>dIf (T sc c) (E sc a) (E sc b)
 | .Tuple es _ _=>(A sc es).bnd fun ds=>DM.lift (mkTup ds)
 | .List es _=>(A sc es).bnd fun ds=>DM.lift (mkLst ds)
 | .Dict ks vs _=>if keysB ks vs&&!ks.isEmpty&&decide (ks.length≤15) then dispM (pairsM (E sc) ks vs) else DM.bad
 | .Subscript a (.Slice lo hi none _) _=>dSl (E sc a) (match lo with | some e=>some (E sc e) | none=>none) (match hi with | some e=>some (E sc e) | none=>none)
 | .Subscript a b _=>if isSlice b then (if isRev b then (E sc a).bnd fun x=>DM.lift (revD x) else DM.bad) else (match dicOf G sc a with | some kvs=>dicIx kvs (E sc b) | none=>dop ixD (E sc a) (E sc b))
 | .Attribute o f _=>if baseOk o then DM.bad else DM.bad
 | .Call (.Name f _) [] [] _=>if glB sc.scope f&&!(f == "__debug__") then (match G.cal f with | some ([],g)=>DM.lift (g []) | _=>DM.bad) else DM.bad
 | .Call (.Name f _) (a::es) [] _=>if glB sc.scope f&&!(f == "__debug__")&&!(f == "__name__")&&!(isStar a)&&es.all (fun e=>!isStar e) then
   (match G.cal f with
   | some (_,g)=>(A sc (a::es)).bnd fun ds=>DM.lift (g ds)
   | none=>match mkArg G f es with
    | some fl=>DM.bad
    | none=>match setArg a es with
    | some b=>if glB sc.scope "set" then (if f == "len" then (E sc b).bnd (fun x=>DM.lift (lenSetD x)) else if f == "sorted" then (E sc b).bnd (fun x=>DM.lift (sortSetD x)) else DM.bad) else DM.bad
    | none=>match rngArg a es with
    | some b=>if glB sc.scope "range" then (if f == "list" then (E sc b).bnd (fun x=>DM.lift (listRngD x)) else if f == "tuple" then (E sc b).bnd (fun x=>DM.lift (tupRngD x)) else DM.bad) else DM.bad
    | none=>if f == "isinstance" then (match es with
    | [.Name c _]=>if glB sc.scope c&&!(c == "__debug__")&&!(c == "__name__") then (match tyOf c with | some ty=>(E sc a).bnd fun x=>DM.lift (isiD ty x) | none=>DM.bad) else DM.bad
    | _=>DM.bad) else match bltOf f with
     | some g=>(A sc (a::es)).bnd fun ds=>DM.lift (g ds)
     | none=>DM.bad) else DM.bad
 | .Call (.Name f _) [a] (kw::ks) _=>if glB sc.scope f&&!(isStar a)&&kwNone kw&&ks.isEmpty then (if f == "max" then DM.bad else if f == "min" then DM.bad else DM.bad) else DM.bad
 | .Call (.Attribute o m ap) [] [] p=>if baseOk o&&(ap.endLine==p.line) then (match methOf m 0 with | some (ty,f)=>methM ty f (E sc o) (DM.ret []) | none=>DM.bad) else DM.bad
 | .Call (.Attribute o m ap) (a::es) [] p=>if baseOk o&&(ap.endLine==p.line)&&!(isStar a)&&es.all (fun e=>!isStar e)&&decide ((a::es).length < 20) then (if m == "get" then (match dicOf G sc o with | some kvs=>dicGet kvs (A sc (a::es)) | none=>DM.bad) else if m == "count"&&es.isEmpty then methE "tuple" badM "list" badM (E sc o) (A sc (a::es)) else if m == "index"&&es.isEmpty then methE "tuple" badM "list" badM (E sc o) (A sc (a::es)) else (match methOf m (a::es).length with | some (ty,f)=>methM ty f (E sc o) (A sc (a::es)) | none=>DM.bad)) else DM.bad
 | .ListComp elt [⟨tg,iter,ifs,k⟩] scope _=>if k==0&&compOkB scope sc&&!(isSet iter) then (match iG (compSC scope sc) tg with
   | some (ws,g)=>if ws.all (fun i=>match (capsOf sc.N scope)[i]? with | some (some _)=>false | _=>true) then compM (I sc tg iter) (capsOf sc.N scope) g (F (compSC scope sc) ifs) (E (compSC scope sc) elt) else DM.bad
   | none=>DM.bad) else DM.bad
 | _=>DM.bad
noncomputable def iTb (E:SC→Expr→DM D) (T:SC→Expr→DM Bool) (A:SC→List Expr→DM (List D)) (F:SC→List Expr→DM Bool) (I:SC→Expr→Expr→DM Src) (G:Gb) (sc:SC) (e:Expr):DM Bool:=match e with
 | .UnaryOp .Not a _=>dNotT (T sc a)
 | .BoolOp op [a] _=>T sc a
 | .BoolOp .And (a::b::r) p=>dAndT (T sc a) (T sc (.BoolOp .And (b::r) p))
 | .BoolOp .Or (a::b::r) p=>dOrT (T sc a) (T sc (.BoolOp .Or (b::r) p))
 | .BoolOp _ [] _=>DM.bad
 | .IfExp ..=>DM.bad
 | .Compare a [op] [b] _=>(match dicArg G sc op b with
  | some (neg,kvs)=>boolD (dicIn neg kvs (E sc a))
  | none=>if isSet b then DM.bad else boolD (dop (cmpOf op) (E sc a) (E sc b)))
 | .Compare a [op,op'] [b,c] _=>if isSet c then DM.bad else boolD (dchain (cmpOf op) (cmpOf op') (E sc a) (E sc b) (E sc c))
 | .Compare ..=>DM.bad
 | e=>truM (E sc e)
noncomputable def iIb (E:SC→Expr→DM D) (T:SC→Expr→DM Bool) (A:SC→List Expr→DM (List D)) (F:SC→List Expr→DM Bool) (I:SC→Expr→Expr→DM Src) (G:Gb) (sc:SC) (tg e:Expr):DM Src:=match e with
 | .Call (.Name f p) [a] [] p'=>if f == "range"&&glB sc.scope f then (if isStar a then DM.bad else rngM rng1 (A sc [a])) else if f == "enumerate"&&glB sc.scope f then (if isStar a || !(isTupE tg) then DM.bad else DM.bad) else srcM (E sc (.Call (.Name f p) [a] [] p'))
 | .Call (.Name f p) [a,b] [] p'=>if f == "range"&&glB sc.scope f then (if isStar a || isStar b then DM.bad else DM.bad) else if f == "zip"&&glB sc.scope f then (if isStar a || isStar b || !(isTupE tg) then DM.bad else zipM (A sc [a,b])) else srcM (E sc (.Call (.Name f p) [a,b] [] p'))
 | .Call (.Name f p) [a,b,c] [] p'=>if f == "range"&&glB sc.scope f then (if isStar a || isStar b || isStar c then DM.bad else rngM rng3 (A sc [a,b,c])) else srcM (E sc (.Call (.Name f p) [a,b,c] [] p'))
 | e=>srcM (E sc e)
mutual
noncomputable def iE (G:Gb):Nat→SC→Expr→DM D
 | 0,_,_=>DM.bad
 | n+1,sc,e=>iEb (iE G n) (iT G n) (iA G n) (iF G n) (iI G n) G sc e
termination_by structural n=>n
noncomputable def iT (G:Gb):Nat→SC→Expr→DM Bool
 | 0,_,_=>DM.bad
 | n+1,sc,e=>iTb (iE G n) (iT G n) (iA G n) (iF G n) (iI G n) G sc e
termination_by structural n=>n
noncomputable def iA (G:Gb):Nat→SC→List Expr→DM (List D)
 | 0,_,_=>DM.bad
 | n+1,sc,es=>match es with
  | []=>DM.ret []
  | a::r=>if isStar a then DM.bad else dCons (iE G n sc a) (iA G n sc r)
termination_by structural n=>n
noncomputable def iF (G:Gb):Nat→SC→List Expr→DM Bool
 | 0,_,_=>DM.bad
 | n+1,sc,es=>match es with
  | []=>DM.ret true
  | [c]=>iT G n sc c
  | _=>DM.bad
termination_by structural n=>n
noncomputable def iI (G:Gb):Nat→SC→Expr→Expr→DM Src
 | 0,_,_,_=>DM.bad
 | n+1,sc,tg,e=>iIb (iE G n) (iT G n) (iA G n) (iF G n) (iI G n) G sc tg e
termination_by structural n=>n
end
noncomputable def parB (sc:SC) (x:Str) (px:Pos) (y:Str) (py:Pos) (a b:Expr):Bool :=
 ((if sc.scope.kind.isAnnotationScope then ScopeKind.function else sc.scope.kind)==.function)&&(sc.scope.names.lookup x==some .local)&&(sc.scope.names.lookup y==some .local)&&(py.line==px.line)&&!(x==y)&&!isStar a&&!isStar b&&!([a,b].all (foldedForSure 8))&&!([a,b].all (constantsAlone 8))
noncomputable def parS (mr:DM (List D)) (i j:Nat):SM:=fun loc mh=>match mr loc mh with
 | some ([d,e],h)=>some (.nx,(loc.set i (some d)).set j (some e),h)
 | _=>none
noncomputable def iGt (G:Gb) (n:Nat) (sc:SC) (tg:Expr):Option GM:=match tg with
 | .Subscript o i _=>if isSlice i then none else some (gSubD (iE G n sc o) (iE G n sc i))
 | tg=>match iG sc tg with | some (_,g)=>some g | none=>none
noncomputable def asgB (n:Nat) (G:Gb) (sc:SC) (tg v:Expr):SM:=match tg,v with
 | .Name y py,.ListComp elt gens scope vp=>(match iG sc (.Name y py) with | some (_,g)=>asgS (iE G n sc (.ListComp elt gens scope vp)) g | none=>SM.bad)
 | .Tuple [.Name x px,.Name y py] _ _,.Tuple [a,b] _ _=>if parB sc x px y py a b then (match slot sc.N x,slot sc.N y with | some i,some j=>parS (iA G n sc [a,b]) i j | _,_=>SM.bad) else SM.bad
 | tg,v=>if isCompE v || (isTupE tg&&isTupE v) then SM.bad else (match iGt G n sc tg with | some g=>asgS (iE G n sc v) g | none=>SM.bad)
noncomputable def iSb (n:Nat) (B:SC→List Stmt→SM) (G:Gb) (sc:SC) (s:Stmt):SM:=match s with
 | .Expr e _=>if isCompE e then SM.bad else dropS (iE G n sc e)
 | .Pass _=>SM.nxt
 | .Break _=>fun loc mh=>some (.bk,loc,mh)
 | .Continue _=>fun loc mh=>some (.ct,loc,mh)
 | .Return (some e) _=>retS (iE G n sc e)
 | .Return none _=>fun loc mh=>some (.rt .non,loc,mh)
 | .Assign [tg] v _=>asgB n G sc tg v
 | .If c a b _=>ifS (iT G n sc c) (B sc a) (B sc b)
 | .For tg it body [] _=>if isSet it then SM.bad else (match iG sc tg with | some (_,g)=>forS (iI G n sc tg it) g (B sc body) | none=>SM.bad)
 | _=>SM.bad
mutual
noncomputable def iS (G:Gb):Nat→SC→Stmt→SM
 | 0,_,_=>SM.bad
 | n+1,sc,s=>iSb n (iSs G n) G sc s
termination_by structural n=>n
noncomputable def iSs (G:Gb):Nat→SC→List Stmt→SM
 | 0,_,_=>SM.bad
 | n+1,sc,ss=>match ss with
  | []=>SM.nxt
  | s::r=>seqS (iS G n sc s) (iSs G n sc r)
termination_by structural n=>n
end
structure FnI where
 ps:List Str
 N:List Str
 scope:Scope
 body:List Stmt
noncomputable def runF (G:Gb) (n:Nat) (f:FnI):Fn:=fun ds mh=>if ds.length=f.ps.length then (match iSs G n { N:=f.N,scope:=f.scope,own:=fun _=>true } f.body (ds.map some++List.replicate (f.N.length - ds.length) none) mh with
 | some (.rt d,_,mh')=>some (d,mh')
 | some (.nx,_,mh')=>some (.non,mh')
 | _=>none) else none
noncomputable def fuel:Nat:=60
structure Tb where
 tb:Str→Option FnI
 con:Str→Option D
 dic:Str→Option (List (Str×D))
 fld:Str→Str→Bool
 tbm:Str→Str→Option FnI
 mkr:Str→Option Str
noncomputable def bltNames:List Str:=["len", "list", "tuple", "range", "isinstance", "int", "bool", "str", "dict", "set", "sorted", "all", "any", "max", "min", "enumerate", "zip", "sum"]
structure GOk (P:Program) (w:World) (K:PySem.W.Frag) (mg:Str→Option Value) (base:Heap) (k:Nat) (G:Gb):Prop where
 fn:∀ x ps f,G.cal x=some (ps,f)→∃ fa fd,mg x=some (.ref fa)∧PySem.W.keepIn K (.ref fa)=true∧Binds K fd ps []∧FnOk P w K mg base CX0 (k+2) fa fd ps (spD K ps.length f)∧∀ ds mh r,f ds mh=some r→ds.length=ps.length
 con:∀ x d,G.con x=some d→∃ u v,mg x=some u∧RelV v u∧∀ H ρ,RD K H ρ d v
 blt:∀ b∈bltNames,mg b=none
 dic:∀ x kvs,G.dic x=some kvs→∃ a,mg x=some (.ref a)∧DicOk w K a kvs
 fld:∀ c f,G.fld c f=true→∃ C,PySem.W.nsIn K mainGlobals c=some (some (.ref C))∧Cls K C∧NoAttr K C f
 met:∀ c m ps g,G.met c m=some (ps,g)→∃ C fa fd,PySem.W.nsIn K mainGlobals c=some (some (.ref C))∧Cls K C∧Meth K C m fa∧Binds K fd ps []∧FnOk P w K mg base CX0 (k+2) fa fd ps (spD K ps.length g)∧∀ ds mh r,g ds mh=some r→ds.length=ps.length
 mkr:∀ c f,G.mkr c=some f→∃ C fa fd ps,PySem.W.nsIn K mainGlobals c=some (some (.ref C))∧Mk K C fa∧mg c=some (.ref C)∧Binds K fd ps []∧FnOk P w K mg base CX0 1 fa fd ps (spI C f)
structure XOk (X:Cx) (k:Nat) (G:Gb) (sc:SC):Prop where
 N:X.N=sc.N
 nd:sc.N.Nodup
 sco:X.env.scope=sc.scope
 own:∀ x,sc.own x=true→L2.Loc sc.scope x→X.fn x=true∨sc.scope.names.lookup x=some .local
 calm:X.calm=true
 xe:X.xe=fun _ _=>False
 room:Room (k+2) X.A
 g:GOk X.prog X.w X.K X.mg X.base k G
theorem slot_some {N:List Str}{x:Str}{i:Nat}(h:slot N x=some i):N[i]?=some x:=by
 unfold slot at h;obtain ⟨hl,hp,_⟩:=List.findIdx?_eq_some_iff_getElem.mp h;rw [List.getElem?_eq_getElem hl];exact congrArg some (eq_of_beq hp)
theorem visB_ok {sc:Scope}{x:Str}(h:visB sc x=true):Vis sc x:=by
 unfold visB at h;split at h
 ·exact .inl (by assumption)
 ·exact .inr (.inl (by assumption))
 ·exact .inr (.inr (by assumption))
 ·cases h
theorem locB_ok {sc:Scope}{x:Str}(h:locB sc x=true):L2.Loc sc x:=by
 unfold locB at h;split at h
 ·exact .inl (by assumption)
 ·exact .inr (by assumption)
 ·cases h
theorem glB_ok {sc:Scope}{x:Str}(h:glB sc x=true):sc.names.lookup x=some .globalImplicit:=by
 unfold glB at h;split at h
 ·assumption
 ·cases h
section
variable {X:Cx}{k:Nat}{G:Gb}{sc:SC}
theorem XOk.gl (O:XOk X k G sc) {x:Str}(h:glB sc.scope x=true):Gl X x:=by
 show X.env.scope.names.lookup x=_;rw [O.sco];exact glB_ok h
theorem XOk.vis (O:XOk X k G sc) {x:Str}(h:visB sc.scope x=true):Vis X.env.scope x:=by rw [O.sco];exact visB_ok h
theorem XOk.units (O:XOk X k G sc):X.A.units+64 < cLine:=O.room.units
theorem star1 {a:Expr}{es:List Expr}{env:Env}(h:isStar a=false):starEach (a::es) env=(false,eval a env)::starEach es env:=by
 cases a <;> first | rfl | cases h
theorem starAny {pos:Pos}{env:Env}:∀ {es:List Expr},(es.all fun e=>!isStar e)=true→(backTo pos (starEach es env)).any (·.1)=false
 | [],_=>rfl
 | a::r,h=>by
  rw [List.all_cons,Bool.and_eq_true] at h;have h1:isStar a=false:=by simpa using h.1
  rw [star1 h1];show (false || (backTo pos (starEach r env)).any (·.1))=false;rw [starAny h.2];rfl
theorem starAll {pos:Pos}{env:Env}:∀ {es:List Expr},(es.all fun e=>!isStar e)=true→(backTo pos (starEach es env)).all (fun x=>!x.1)=true
 | [],_=>rfl
 | a::r,h=>by
  rw [List.all_cons,Bool.and_eq_true] at h;have h1:isStar a=false:=by simpa using h.1
  rw [star1 h1];show (true&&(backTo pos (starEach r env)).all (fun x=>!x.1))=true;rw [starAll h.2];rfl
theorem base_ok {o:Expr}{name:Str}{env:Env}{w:Sem Value}(h:baseOk o=true):attributeBase o name env w=w:=by
 cases o <;> try rfl
 rename_i f as kw p;cases f <;> try rfl
 cases as <;> try rfl
 cases kw <;> try rfl
 cases h
theorem set_ok {e:Expr}{env:Env}(h:isSet e=false):∀ x,foldedSetIterable e env x=pure x:=by
 intro x;cases e <;> first | rfl | cases h
theorem marks_ok {op:CmpOp}{e:Expr}(h:isSet e=false):behindInMarks op e=false:=by
 cases e <;> first | rfl | cases h
theorem ix_ok {b:Expr}(h:isSlice b=false):PlainIx b:=by
 intro o i;cases b <;> first | rfl | cases h
theorem relabel_eq (O:XOk X k G sc) (scope:Scope):relabel scope X.env=relabelS scope sc.scope:=by
 unfold relabel relabelS Env.kindOf;rw [O.sco]
theorem compOk_of (O:XOk X k G sc) {scope:Scope}(h:compOkB scope sc=true):CompOk X scope:=by
 unfold compOkB at h;rw [Bool.and_eq_true,Bool.and_eq_true] at h;obtain ⟨h1,h2,h3⟩:=h;refine ⟨?_,of_decide_eq_true h2,fun p hp e=>?_⟩
 ·split at h1
  ·assumption
  ·cases h1
 ·have:=List.all_eq_true.mp h3 p hp;rw [e] at this;show X.env.scope.names.lookup p.1=_∨X.env.scope.names.lookup p.1=_;rw [O.sco];dsimp only at this;split at this
  ·exact .inl (by assumption)
  ·exact .inr (by assumption)
  ·cases this
theorem compNames_nd {scope:Scope}(h:(scope.names.map (·.1)).Nodup):(compNames scope).Nodup:=by
 unfold compNames;exact h.sublist ((List.filter_sublist).map _)
theorem capOk_of (O:XOk X k G sc) (scope:Scope):CapOk X (compNames scope) scope (capsOf sc.N scope):=by
 refine ⟨by unfold capsOf;rw [List.length_map],fun i x j e1 e2=>?_⟩;unfold capsOf at e2;rw [List.getElem?_map,e1] at e2;simp only [Option.map_some,Option.some.injEq] at e2;split at e2
 ·rename_i hl;exact ⟨hl,by rw [O.N];exact slot_some e2⟩
 ·cases e2
theorem XOk.comp (O:XOk X k G sc) {scope:Scope}(h:compOkB scope sc=true) (pins:List (Addr×Obj)) (C:Addr) (cells:List (Str×Addr)) (s₀:Shared) (H₀:Hp) (fp:List Addr) :
  XOk (cxComp X pins (compNames scope) scope C cells s₀ H₀ fp) k G (compSC scope sc):=by
 have S:=compOk_of O h;refine ⟨rfl,compNames_nd S.nd,relabel_eq O scope,fun x hx hl=>?_,O.calm,rfl,O.room,O.g⟩;have hx:locB scope x=true:=hx;rcases locB_ok hx with q | q
 ·right;show (relabelS scope sc.scope).names.lookup x=_;rw [← relabel_eq O scope,relabel_lookup,q];rfl
 ·left;exact decide_eq_true (PySem.mem_of_lookup q)
theorem iGn_some {x:Str}{i:Nat}(h:iGn sc x=some i):locB sc.scope x=true∧sc.own x=true∧slot sc.N x=some i:=by
 unfold iGn at h;split at h
 ·rename_i hc;rw [Bool.and_eq_true] at hc;exact ⟨hc.1,hc.2,h⟩
 ·cases h
theorem XOk.name (O:XOk X k G sc) {x:Str}{i:Nat}{pos:Pos}(h:iGn sc x=some i):PG X (.Name x pos) (gName i):=by
 obtain ⟨h1,h2,h3⟩:=iGn_some h;have hl:=locB_ok h1;refine pg_name (by rw [O.N];exact O.nd) (by rw [O.N];exact slot_some h3) (by rw [O.sco];exact hl) ?_;rw [O.sco];exact O.own x h2 hl
theorem XOk.names (O:XOk X k G sc) {es:List Expr}{is:List Nat}(h:iGs sc es=some is):PGs X es (gNs is)∧(assignEach es X.env).length=is.length∧(assignEach es X.env).findIdx? (·.1)=none:=by
 induction es generalizing is with
 | nil=>cases h;exact ⟨pgs_nil,rfl,rfl⟩
 | cons e r ih =>
  cases e with
  | Name x p =>
   simp only [iGs] at h;split at h
   ·rename_i i ei;split at h
    ·rename_i js ej;cases h;obtain ⟨h1,h2,h3⟩:=ih ej;refine ⟨pgs_cons (O.name ei) h1 rfl,?_,?_⟩
     ·show (assignEach r X.env).length+1=js.length+1;rw [h2]
     ·show List.findIdx? (fun x=>x.1) ((false,assign (.Name x p) X.env)::assignEach r X.env)=none;rw [List.findIdx?_cons];simp only [Bool.false_eq_true,if_false,h3];rfl
    ·cases h
   ·cases h
  | _=>cases h
theorem XOk.target (O:XOk X k G sc) {tg:Expr}{ws:List Nat}{g:GM}(h:iG sc tg=some (ws,g)):DG X tg ws g:=by
 cases tg with
 | Name x p =>
  simp only [iG] at h;split at h
  ·rename_i i ei;cases h;obtain ⟨h1,h2,h3⟩:=iGn_some ei;have hl:=locB_ok h1;refine dg_name (by rw [O.N];exact O.nd) (by rw [O.N];exact slot_some h3) (by rw [O.sco];exact hl) ?_;rw [O.sco];exact O.own x h2 hl
  ·cases h
 | Tuple es kk p =>
  simp only [iG] at h;split at h
  ·rename_i is ei;cases h;obtain ⟨h1,h2,h3⟩:=O.names ei;exact dg_tup O.calm h1 h2 h3
  ·cases h
 | _=>cases h
end
structure SndE (G:Gb) (n:Nat):Prop where
 e:∀ {X:Cx} {k:Nat} {sc:SC},XOk X k G sc→∀ e,DE X e (iE G n sc e)
 t:∀ {X:Cx} {k:Nat} {sc:SC},XOk X k G sc→∀ e,DT X e (iT G n sc e)
 a:∀ {X:Cx} {k:Nat} {sc:SC},XOk X k G sc→∀ es,DA X es (iA G n sc es)
 f:∀ {X:Cx} {k:Nat} {sc:SC},XOk X k G sc→∀ es,DIf X es (iF G n sc es)
 i:∀ {X:Cx} {k:Nat} {sc:SC},XOk X k G sc→∀ tg e,DI X tg e (iI G n sc tg e)
theorem dif_bad {X:Cx}{es:List Expr}:DIf X es DM.bad:=fun pins s σ H Q I ⟨loc,mh,ρ,b,mh',q,_⟩=>by cases q
theorem di_bad {X:Cx}{tg e:Expr}:DI X tg e DM.bad:=fun loc mh=>PI_none
theorem tyOf_ok {c:Str}{T:String}(h:tyOf c=some T):T∈["bool", "int", "str", "tuple", "list", "dict"]∧bootBuiltins c=some (.type T)∧c∈bltNames:=by
 unfold tyOf at h;split at h
 ·rename_i e;cases h;rw [eq_of_beq e];exact ⟨by decide,boot_int,by decide +kernel⟩
 ·split at h
  ·rename_i e;cases h;rw [eq_of_beq e];exact ⟨by decide,boot_bool,by decide +kernel⟩
  ·split at h
   ·rename_i e;cases h;rw [eq_of_beq e];exact ⟨by decide,boot_str,by decide +kernel⟩
   ·split at h
    ·rename_i e;cases h;rw [eq_of_beq e];exact ⟨by decide,by decide +kernel,by decide +kernel⟩
    ·split at h
     ·rename_i e;cases h;rw [eq_of_beq e];exact ⟨by decide,by decide +kernel,by decide +kernel⟩
     ·split at h
      ·rename_i e;cases h;rw [eq_of_beq e];exact ⟨by decide,by decide +kernel,by decide +kernel⟩
      ·cases h
theorem dicOf_some {X:Cx}{k:Nat}{G:Gb}{sc:SC}(O:XOk X k G sc) {e:Expr}{kvs:List (Str×D)}(h:dicOf G sc e=some kvs):∃ x p a,e=.Name x p∧Gl X x∧(x==("__debug__":Str))=false∧X.mg x=some (.ref a)∧DicOk X.w X.K a kvs:=by
 cases e with
 | Name x p =>
  simp only [dicOf] at h;split at h
  ·rename_i hc;rw [Bool.and_eq_true] at hc;obtain ⟨a,h1,h2⟩:=O.g.dic _ _ h;exact ⟨x,p,a,rfl,O.gl hc.1,by simpa using hc.2,h1,h2⟩
  ·cases h
 | _=>cases h
theorem dicArg_some {G:Gb}{sc:SC}{op:CmpOp}{b:Expr}{neg:Bool}{kvs:List (Str×D)}(h:dicArg G sc op b=some (neg,kvs)):dicOf G sc b=some kvs∧((op=.In∧neg=false)∨(op=.NotIn∧neg=true)):=by
 cases op <;> first | cases h;done | skip
 all_goals
  simp only [dicArg] at h;split at h
  ·rename_i q;cases h;exact ⟨q,by simp⟩
  ·cases h
theorem dicArg_e {X:Cx}{k:Nat}{G:Gb}{sc:SC}(O:XOk X k G sc) {op:CmpOp}{a b:Expr}{neg:Bool}{kvs:List (Str×D)}{ma:DM D}{p:Pos}(h:dicArg G sc op b=some (neg,kvs)) (ha:DE X a ma):DE X (.Compare a [op] [b] p) (dicIn neg kvs ma):=by
 obtain ⟨h0,h1⟩:=dicArg_some h;obtain ⟨x,p',ad,rfl,g1,g2,g3,g4⟩:=dicOf_some O h0;rcases h1 with ⟨rfl,rfl⟩ | ⟨rfl,rfl⟩
 ·exact de_dicIn g4 g1 g3 g2 ha
 ·exact de_dicNotIn g4 g1 g3 g2 ha
theorem dicArg_t {X:Cx}{k:Nat}{G:Gb}{sc:SC}(O:XOk X k G sc) {op:CmpOp}{a b:Expr}{neg:Bool}{kvs:List (Str×D)}{ma:DM D}{p:Pos}(h:dicArg G sc op b=some (neg,kvs)) (ha:DE X a ma):DT X (.Compare a [op] [b] p) (boolD (dicIn neg kvs ma)):=by
 obtain ⟨h0,h1⟩:=dicArg_some h;obtain ⟨x,p',ad,rfl,g1,g2,g3,g4⟩:=dicOf_some O h0;rcases h1 with ⟨rfl,rfl⟩ | ⟨rfl,rfl⟩
 ·exact dt_dicIn g4 g1 g3 g2 ha
 ·exact dt_dicNotIn g4 g1 g3 g2 ha
theorem few_of {X:Cx}{a:Expr}{es:List Expr}{p:Pos}(hs:isStar a=false) (hr:(es.all fun e=>!isStar e)=true) (hk:(a::es).length < 20):((backTo p (starEach (a::es) X.env)).all (fun x=>!x.1)&&(backToKw p (keywordEach [] X.env)).all (fun x=>x.1.isSome)&&decide ((a::es).length+([]:List Keyword).length+(if ([]:List Keyword).isEmpty then 0 else 1) < 30))=true:=by
 rw [starAll (by rw [List.all_cons,hs,hr];rfl)];have:decide ((a::es).length+([]:List Keyword).length+(if ([]:List Keyword).isEmpty then 0 else 1) < 30)=true:=decide_eq_true (by simp;simp at hk;omega);rw [this];rfl
theorem blt_call {X:Cx}{k:Nat}{G:Gb}{sc:SC}(O:XOk X k G sc) {f:Str}{g:Fn}{p pos:Pos}{a:Expr}{es:List Expr}{mr:DM (List D)}(h:bltOf f=some g) (hg:glB sc.scope f=true) (ha:DA X (a::es) mr) (hn:f ≠ "__name__") (hd:(f==("__debug__":Str))=false) (hs:isStar a=false) (hr:(es.all fun e=>!isStar e)=true) :
  DE X (.Call (.Name f p) (a::es) [] pos) (mr.bnd fun ds=>DM.lift (g ds)):=by
 unfold bltOf at h;split at h
 ·rename_i e;cases h;rw [eq_of_beq e] at hg hn hd ⊢;exact de_callB call_lenD (O.gl hg) (O.g.blt _ (by decide +kernel)) PySem.boot_len ha hn hd (star1 hs) (starAny hr)
 ·split at h
  ·rename_i e;cases h;rw [eq_of_beq e] at hg hn hd ⊢;exact de_callTy call_listD (O.gl hg) (O.g.blt _ (by decide +kernel)) (by decide +kernel) ha hn hd (star1 hs) (starAny hr)
  ·split at h
   ·rename_i e;cases h;rw [eq_of_beq e] at hg hn hd ⊢;exact de_callTy (call_no (f:=.type "tuple")) (O.gl hg) (O.g.blt _ (by decide +kernel)) (by decide +kernel) ha hn hd (star1 hs) (starAny hr)
   ·split at h
    ·rename_i e;cases h;rw [eq_of_beq e] at hg hn hd ⊢;exact de_callB (call_no (f:=.builtin "all")) (O.gl hg) (O.g.blt _ (by decide +kernel)) (by decide +kernel) ha hn hd (star1 hs) (starAny hr)
    ·split at h
     ·rename_i e;cases h;rw [eq_of_beq e] at hg hn hd ⊢;exact de_callB (call_no (f:=.builtin "any")) (O.gl hg) (O.g.blt _ (by decide +kernel)) (by decide +kernel) ha hn hd (star1 hs) (starAny hr)
     ·split at h
      ·rename_i e;cases h;rw [eq_of_beq e] at hg hn hd ⊢;exact de_callB (call_maxD2 O.calm) (O.gl hg) (O.g.blt _ (by decide +kernel)) (by decide +kernel) ha hn hd (star1 hs) (starAny hr)
      ·split at h
       ·rename_i e;cases h;rw [eq_of_beq e] at hg hn hd ⊢;exact de_callB (call_minD3 O.calm O.units) (O.gl hg) (O.g.blt _ (by decide +kernel)) (by decide +kernel) ha hn hd (star1 hs) (starAny hr)
       ·split at h
        ·rename_i e;cases h;rw [eq_of_beq e] at hg hn hd ⊢;exact de_callTy call_intD (O.gl hg) (O.g.blt _ (by decide +kernel)) (by decide +kernel) ha hn hd (star1 hs) (starAny hr)
        ·split at h
         ·rename_i e;cases h;rw [eq_of_beq e] at hg hn hd ⊢;exact de_callB call_sortedA (O.gl hg) (O.g.blt _ (by decide +kernel)) (by decide +kernel) ha hn hd (star1 hs) (starAny hr)
         ·split at h
          ·rename_i e;cases h;rw [eq_of_beq e] at hg hn hd ⊢;exact de_callB (call_no (f:=.builtin "sum")) (O.gl hg) (O.g.blt _ (by decide +kernel)) (by decide +kernel) ha hn hd (star1 hs) (starAny hr)
          ·cases h
theorem meth_call0 {X:Cx}{m:Str}{T:String}{f:D→List D→MH→Option (D×MH)}{o:Expr}{mo:DM D}{ap p:Pos}(h:methOf m 0=some (T,f)) (ho:DE X o mo) (hb:baseOk o=true) (hl:(ap.endLine==p.line)=true):DE X (.Call (.Attribute o m ap) [] [] p) (methM T f mo (DM.ret [])):=by
 unfold methOf at h;split at h
 ·rename_i e;rw [Bool.and_eq_true] at e;exact absurd e.2 (by decide)
 ·split at h
  ·rename_i e;rw [Bool.and_eq_true] at e;cases h;rw [eq_of_beq e.1];exact de_bm0 PySem.F.plainAttrs_int PySem.F.slot_int_bit_length PySem.F.type_int_bit_length mt_no ho (base_ok hb) hl
  ·split at h
   ·rename_i e;rw [Bool.and_eq_true] at e;exact absurd e.2 (by decide)
   ·split at h
    ·rename_i e;rw [Bool.and_eq_true] at e;cases h;rw [eq_of_beq e.1];exact de_bm0 PySem.F.plainAttrs_list PySem.F.slot_list_pop PySem.F.type_list_pop mt_no ho (base_ok hb) hl
    ·split at h
     ·rename_i e;rw [Bool.and_eq_true] at e;exact absurd e.2 (by decide)
     ·split at h
      ·rename_i e;rw [Bool.and_eq_true] at e;exact absurd e.2 (by decide)
      ·cases h
theorem meth_call {X:Cx}{m:Str}{T:String}{f:D→List D→MH→Option (D×MH)}{o a:Expr}{es:List Expr}{mo:DM D}{mr:DM (List D)}{ap p:Pos}(h:methOf m (a::es).length=some (T,f)) (ho:DE X o mo) (ha:DA X (a::es) mr) (hb:baseOk o=true) (hl:(ap.endLine==p.line)=true) (hs:isStar a=false) (hr:(es.all fun e=>!isStar e)=true) (hk:(a::es).length < 20) :
  DE X (.Call (.Attribute o m ap) (a::es) [] p) (methM T f mo mr):=by
 have few:((backTo p (starEach (a::es) X.env)).all (fun x=>!x.1)&&(backToKw p (keywordEach [] X.env)).all (fun x=>x.1.isSome)&&decide ((a::es).length+([]:List Keyword).length+(if ([]:List Keyword).isEmpty then 0 else 1) < 30))=true:=by
  rw [starAll (by rw [List.all_cons,hs,hr];rfl)];have:decide ((a::es).length+([]:List Keyword).length+(if ([]:List Keyword).isEmpty then 0 else 1) < 30)=true:=decide_eq_true (by simp;simp at hk;omega);rw [this];rfl
 unfold methOf at h;split at h
 ·rename_i e;rw [Bool.and_eq_true] at e;cases h;rw [eq_of_beq e.1];exact de_bm PySem.F.plainAttrs_list PySem.F.slot_list_append PySem.F.type_list_append mt_appendD ho ha (base_ok hb) few hl (star1 hs) (starAny hr)
 ·split at h
  ·rename_i e;rw [Bool.and_eq_true] at e;exact absurd (eq_of_beq e.2) (by simp)
  ·split at h
   ·rename_i e;rw [Bool.and_eq_true] at e;cases h;rw [eq_of_beq e.1];exact de_bm PySem.F.plainAttrs_list PySem.F.slot_list_pop PySem.F.type_list_pop mt_popAtD ho ha (base_ok hb) few hl (star1 hs) (starAny hr)
   ·split at h
    ·rename_i e;rw [Bool.and_eq_true] at e;exact absurd (eq_of_beq e.2) (by simp)
    ·split at h
     ·rename_i e;rw [Bool.and_eq_true] at e;cases h;rw [eq_of_beq e.1];exact de_bm PySem.F.plainAttrs_list PySem.F.slot_list_extend PySem.F.type_list_extend mt_no ho ha (base_ok hb) few hl (star1 hs) (starAny hr)
     ·split at h
      ·rename_i e;rw [Bool.and_eq_true] at e;cases h;rw [eq_of_beq e.1];exact de_bm PySem.F.plainAttrs_tuple PySem.F.slot_tuple_index PySem.F.type_tuple_index mt_no ho ha (base_ok hb) few hl (star1 hs) (starAny hr)
      ·cases h
theorem setPair_ok {X:Cx}{k:Nat}{G:Gb}{sc:SC}(O:XOk X k G sc) {a b:Expr}{op:CmpOp}{i j:Nat}{pos:Pos}(h:setPair sc a op b=some (i,j)) :
  DE X (.Compare a [op] [b] pos) (setEqM (fun loc mh=>match loc[i]? with | some (some d)=>some (d,mh) | _=>none) (fun loc mh=>match loc[j]? with | some (some d)=>some (d,mh) | _=>none)):=by cases h
theorem snd_zero (G:Gb):SndE G 0:=⟨fun _ _=>de_bad,fun _ _=>dt_bad,fun _ _=>da_bad,fun _ _=>dif_bad,fun _ _ _=>di_bad⟩
theorem snd_a {G:Gb}{n:Nat}(S:SndE G n) {X:Cx}{k:Nat}{sc:SC}(O:XOk X k G sc) (es:List Expr):DA X es (iA G (n+1) sc es):=by
 cases es with
 | nil=>exact da_nil
 | cons a r =>
  show DA X (a::r) (if isStar a then DM.bad else dCons (iE G n sc a) (iA G n sc r));split
  ·exact da_bad
  ·rename_i h;exact da_cons (S.e O a) (S.a O r) (star1 (by simpa using h))
theorem snd_f {G:Gb}{n:Nat}(S:SndE G n) {X:Cx}{k:Nat}{sc:SC}(O:XOk X k G sc) (es:List Expr):DIf X es (iF G (n+1) sc es):=by
 cases es with
 | nil=>exact dif_nil
 | cons a r =>
  cases r with
  | nil=>exact dif_one (S.t O a)
  | cons b r=>exact dif_bad
theorem snd_i {G:Gb}{n:Nat}(S:SndE G n) {X:Cx}{k:Nat}{sc:SC}(O:XOk X k G sc) (tg e:Expr):DI X tg e (iIb (iE G n) (iT G n) (iA G n) (iF G n) (iI G n) G sc tg e):=by
 cases e with
 | Call ff args kws p' =>
  cases ff with
  | Name f p =>
   cases args with
   | nil=>exact di_val (S.e O _)
   | cons a r =>
    cases r with
    | nil =>
     cases kws with
     | nil =>
      delta iIb
      dsimp only;split
      ·rename_i h;rw [Bool.and_eq_true] at h;split
       ·exact di_bad
       ·rename_i hs;have hs:isStar a=false:=by simpa using hs
        have e:=eq_of_beq h.1;subst e;exact di_range1 (O.gl h.2) (O.g.blt _ (by decide +kernel)) (S.a O [a]) (star1 hs)
      ·split
       ·rename_i h;rw [Bool.and_eq_true] at h;split
        ·exact di_bad
        ·rename_i hs;have hs:isStar a=false∧isTupE tg=true:=by simpa using hs
         have e:=eq_of_beq h.1;subst e;cases tg with
         | Tuple es kk tp=>exact di_bad
         | _=>cases hs.2
       ·exact di_val (S.e O _)
     | cons _ _=>exact di_val (S.e O _)
    | cons b r =>
     cases r with
     | nil =>
      cases kws with
      | nil =>
       delta iIb
       dsimp only;split
       ·rename_i h;rw [Bool.and_eq_true] at h;split
        ·exact di_bad
        ·rename_i hs;have hs:isStar a=false∧isStar b=false:=by simpa using hs
         have e:=eq_of_beq h.1;subst e;exact di_bad
       ·split
        ·rename_i h;rw [Bool.and_eq_true] at h;split
         ·exact di_bad
         ·rename_i hs;have hs:(isStar a=false∧isStar b=false)∧isTupE tg=true:=by simpa using hs
          have e:=eq_of_beq h.1;subst e;cases tg with
          | Tuple elts kk tp=>exact di_zip (O.gl h.2) (O.g.blt _ (by decide +kernel)) (S.a O [a,b]) (star1 hs.1.1) (starAny (by simp [hs.1.2]))
          | _=>cases hs.2
        ·exact di_val (S.e O _)
      | cons _ _=>exact di_val (S.e O _)
     | cons c r =>
      cases r with
      | cons _ _=>exact di_val (S.e O _)
      | nil =>
       cases kws with
       | cons _ _=>exact di_val (S.e O _)
       | nil =>
        delta iIb
        dsimp only;split
        ·rename_i h;rw [Bool.and_eq_true] at h;split
         ·exact di_bad
         ·rename_i hs;have hs:(isStar a=false∧isStar b=false)∧isStar c=false:=by simpa using hs
          have e:=eq_of_beq h.1;subst e;exact di_range3 (O.gl h.2) (O.g.blt _ (by decide +kernel)) (S.a O [a,b,c]) (star1 hs.1.1) (starAny (by simp [hs.1.2,hs.2]))
        ·exact di_val (S.e O _)
  | _=>exact di_val (S.e O _)
 | _=>exact di_val (S.e O _)
theorem dw_of {X:Cx}{op:BoolOp}{vs:List Expr}{p:Pos}{m:DM Bool}(h:DT X (.BoolOp op vs p) m):DW X (.BoolOp op vs p) m:=fun loc mh wh pins s σ H Q I q=>h loc mh pins s σ H Q I q
theorem snd_t {G:Gb}{n:Nat}(S:SndE G n) {X:Cx}{k:Nat}{sc:SC}(O:XOk X k G sc) (e:Expr):DT X e (iTb (iE G n) (iT G n) (iA G n) (iF G n) (iI G n) G sc e):=by
 cases e with
 | UnaryOp op a p =>
  cases op with
  | Not=>exact dt_not (S.t O _)
  | _=>exact dt_truth (S.e O _) fun _=>rfl
 | BoolOp op vs p =>
  cases vs with
  | nil=>cases op <;> exact dt_bad
  | cons a r =>
   cases r with
   | nil =>
    cases op
    ·exact (dw_and1 (S.t O a)).dt
    ·exact (dw_or1 (S.t O a)).dt
   | cons b r =>
    cases op
    ·exact (dw_and (S.t O _) (dw_of (S.t O _))).dt
    ·exact (dw_or (S.t O _) (dw_of (S.t O _))).dt
 | IfExp c a b p=>exact dt_bad
 | Compare a ops cs p =>
  cases ops with
  | nil=>exact dt_bad
  | cons op ops =>
   cases ops with
   | nil =>
    cases cs with
    | nil=>exact dt_bad
    | cons b cs =>
     cases cs with
     | cons _ _=>exact dt_bad
     | nil =>
      delta iTb
      dsimp only;split
      ·rename_i neg kvs hd;exact dicArg_t O hd (S.e O _)
      ·split
       ·exact dt_bad
       ·rename_i h;exact dt_cmp (cmpOf_ok O.units _) (marks_ok (by simpa using h)) (S.e O _) (S.e O _)
   | cons op' ops =>
    cases ops with
    | cons _ _=>exact dt_bad
    | nil =>
     cases cs with
     | nil=>exact dt_bad
     | cons b cs =>
      cases cs with
      | nil=>exact dt_bad
      | cons c cs =>
       cases cs with
       | cons _ _=>exact dt_bad
       | nil =>
        delta iTb
        dsimp only;split
        ·exact dt_bad
        ·rename_i h;exact dt_chain (cmpOf_ok O.units _) (cmpOf_ok O.units _) (by show behindInMarks _ _=false;exact marks_ok (by simpa using h)) (S.e O _) (S.e O _) (S.e O _)
 | _=>exact dt_truth (S.e O _) fun _=>rfl
theorem snd_e {G:Gb}{n:Nat}(S:SndE G n) {X:Cx}{k:Nat}{sc:SC}(O:XOk X k G sc) (e:Expr):DE X e (iEb (iE G n) (iT G n) (iA G n) (iF G n) (iI G n) G sc e):=by
 cases e with
 | Constant c _ _ =>
  cases c with
  | int i=>exact de_c pe_int fun _ _ _=>.int _
  | bool b=>exact de_c pe_bl fun _ _ _=>.bl _
  | none=>exact de_c pe_non fun _ _ _=>.non
  | str x=>exact de_c pe_str fun _ _ _=>.str _
  | _=>exact de_bad
 | Name x p =>
  delta iEb
  dsimp only;split
  ·rename_i h;rw [Bool.and_eq_true,Bool.and_eq_true] at h;obtain ⟨⟨h1,h2⟩,h3⟩:=h;split
   ·rename_i i ei;exact de_var (by rw [O.N];exact slot_some ei) (O.vis h1) (by simpa using h2) (by simpa using h3)
   ·exact de_bad
  ·split
   ·rename_i h;rw [Bool.and_eq_true] at h;split
    ·rename_i d ed;obtain ⟨u,v,h1,h2,h3⟩:=O.g.con _ _ ed;exact fun loc mh=>PE_imp (pe_glob (O.gl h.1) h1 h2 (by simpa using h.2)) fun σ H Q ⟨ρ,d',mh',q,rl,rs,co⟩=>by
      cases q;exact co H ρ v Ev.refl rs (h3 H ρ)
    ·exact de_bad
   ·exact de_bad
 | BinOp a op b _ =>
  delta iEb
  dsimp only;split
  ·rename_i f ef;exact de_op (opOf_ok ef) (S.e O _) (S.e O _)
  ·exact de_bad
 | UnaryOp op a _ =>
  cases op with
  | USub=>exact de_un un_negD (S.e O _)
  | Not=>exact de_not (S.e O _)
  | _=>exact de_bad
 | BoolOp op vs _ =>
  cases vs with
  | nil=>cases op <;> exact de_bad
  | cons a r =>
   cases r with
   | nil=>cases op <;> exact de_one (S.e O _)
   | cons b r =>
    cases op
    ·exact de_and (S.e O _) (S.e O _)
    ·exact de_or (S.e O _) (S.e O _)
 | Compare a ops cs _ =>
  cases ops with
  | nil=>exact de_bad
  | cons op ops =>
   cases ops with
   | nil =>
    cases cs with
    | nil=>exact de_bad
    | cons b cs =>
     cases cs with
     | cons _ _=>exact de_bad
     | nil =>
      delta iEb
      dsimp only;split
      ·rename_i i j hp;exact setPair_ok O hp
      ·split
       ·rename_i neg kvs hd;exact dicArg_e O hd (S.e O _)
       ·split
        ·exact de_bad
        ·rename_i h;exact de_cmp (cmpOf_ok O.units _) (marks_ok (by simpa using h)) (S.e O _) (S.e O _)
   | cons op' ops =>
    cases ops with
    | cons _ _=>exact de_bad
    | nil =>
     cases cs with
     | nil=>exact de_bad
     | cons b cs =>
      cases cs with
      | nil=>exact de_bad
      | cons c cs =>
       cases cs with
       | cons _ _=>exact de_bad
       | nil =>
        delta iEb
        dsimp only;split
        ·exact de_bad
        ·rename_i h;exact de_chain (cmpOf_ok O.units _) (cmpOf_ok O.units _) (by show behindInMarks _ _=false;exact marks_ok (by simpa using h)) (S.e O _) (S.e O _) (S.e O _)
 | IfExp c a b _=>exact de_if (S.t O _) (S.e O _) (S.e O _)
 | Tuple es _ _=>exact de_tup (S.a O _)
 | List es _=>exact de_lst (S.a O _)
 | Dict ks vs p =>
  delta iEb
  dsimp only;split
  ·rename_i h;rw [Bool.and_eq_true,Bool.and_eq_true] at h;exact de_disp h.1.1 (fun z=>by rw [z] at h;exact absurd h.1.2 (by decide)) (of_decide_eq_true h.2) fun v _=>S.e O v
  ·exact de_bad
 | Subscript a b _ =>
  have gen:DE X (.Subscript a b ‹_›) (if isSlice b then (if isRev b then (iE G n sc a).bnd fun x=>DM.lift (revD x) else DM.bad) else (match dicOf G sc a with | some kvs=>dicIx kvs (iE G n sc b) | none=>dop ixD (iE G n sc a) (iE G n sc b))):=by
   split
   ·split
    ·rename_i h;obtain ⟨k,p1,p2,p3,rfl⟩:=isRev_some h;exact de_rev (S.e O _)
    ·exact de_bad
   ·rename_i h;split
    ·rename_i kvs hd;obtain ⟨x,p,a,rfl,h1,h2,h3,h4⟩:=dicOf_some O hd;exact de_dicIx h4 h1 h3 h2 (S.e O _) (ix_ok (by simpa using h))
    ·exact de_ix ix_D (ix_ok (by simpa using h)) (S.e O _) (S.e O _)
  cases b with
  | Slice lo hi st _ =>
   cases st with
   | none =>
    refine de_slice (S.e O _) ?_ ?_
    ·cases lo with
     | none=>trivial
     | some e=>exact S.e O e
    ·cases hi with
     | none=>trivial
     | some e=>exact S.e O e
   | some s=>exact gen
  | _=>exact gen
 | Attribute o f _ =>
  delta iEb
  dsimp only;split
  ·rename_i h;exact de_bad
  ·exact de_bad
 | Call ff args kws p' =>
  cases ff with
  | Name f p =>
   cases kws with
   | cons kw ks =>
    cases args with
    | nil=>exact de_bad
    | cons a es =>
     cases es with
     | cons _ _=>exact de_bad
     | nil =>
      delta iEb
      dsimp only;split
      ·rename_i h;simp only [Bool.and_eq_true] at h;obtain ⟨⟨⟨h1,h4⟩,h5⟩,h6⟩:=h;have h4:isStar a=false:=by simpa using h4
       have h6:ks=[]:=by simpa using h6
       subst h6;obtain ⟨j,cp,kp,rfl⟩:=kwNone_some h5;split
       ·rename_i hf;have e:=eq_of_beq hf;subst e;exact de_bad
       ·split
        ·rename_i hf;have e:=eq_of_beq hf;subst e;exact de_bad
        ·exact de_bad
      ·exact de_bad
   | nil =>
    cases args with
    | nil =>
     delta iEb
     dsimp only;split
     ·rename_i h;rw [Bool.and_eq_true] at h;split
      ·rename_i g eg;obtain ⟨fa,fd,h1,h2,h3,h4,h5⟩:=O.g.fn _ _ _ eg;exact de_call0 (E:=E0) h4 O.room (O.gl h.1) h1 h2 h3 pass0 (by simpa using h.2)
      ·exact de_bad
     ·exact de_bad
    | cons a es =>
     delta iEb
     dsimp only;split
     ·rename_i h;simp only [Bool.and_eq_true] at h;obtain ⟨⟨⟨⟨h1,h2⟩,h3⟩,h4⟩,h5⟩:=h
      have h2:(f==("__debug__":Str))=false:=by simpa using h2
      have h3:f ≠ "__name__":=by simpa using h3
      have h4:isStar a=false:=by simpa using h4
      split
      ·rename_i ps g eg;obtain ⟨fa,fd,g1,g2,g3,g4,g5⟩:=O.g.fn _ _ _ eg;exact de_call (E:=E0) g4 O.room (O.gl h1) g1 g2 g3 pass0 (S.a O _) g5 h2 (star1 h4) (starAny h5)
      ·split
       ·rename_i fl hb;exact de_bad
       split
       ·rename_i b hb;cases hb
       ·split
        ·rename_i b hb;cases hb
        ·split
         ·rename_i hf;split
          ·rename_i c pc;split
           ·rename_i hc;simp only [Bool.and_eq_true] at hc;obtain ⟨⟨c1,c2⟩,c3⟩:=hc;split
            ·rename_i T eT;obtain ⟨t1,t2,t3⟩:=tyOf_ok eT;have e:=eq_of_beq hf;subst e;exact de_isi t1 (O.gl h1) (O.g.blt _ (by decide +kernel)) (O.gl c1) (O.g.blt _ t3) t2 (by simpa using c3) (by simpa using c2) (S.e O a) (star1 h4)
            ·exact de_bad
           ·exact de_bad
          ·exact de_bad
         ·split
          ·rename_i g eg;exact blt_call O eg h1 (S.a O _) h3 h2 h4 h5
          ·exact de_bad
     ·exact de_bad
  | Attribute o m ap =>
   cases kws with
   | cons _ _=>cases args <;> exact de_bad
   | nil =>
    cases args with
    | nil =>
     delta iEb
     dsimp only;split
     ·rename_i h;rw [Bool.and_eq_true] at h;split
      ·rename_i T f eT;exact meth_call0 eT (S.e O _) h.1 h.2
      ·exact de_bad
     ·exact de_bad
    | cons a es =>
     delta iEb
     dsimp only;split
     ·rename_i h;simp only [Bool.and_eq_true] at h;obtain ⟨⟨⟨⟨h1,h2⟩,h3⟩,h4⟩,h5⟩:=h;split
      ·rename_i hm;have em:=eq_of_beq hm;subst em;rw [Bool.not_eq_true'] at h3;split
       ·rename_i kvs hd;obtain ⟨x,p',ad,rfl,g1,g2,g3,g4⟩:=dicOf_some O hd;exact de_dicGet g4 g1 g3 g2 (S.a O _) (base_ok h1) (few_of h3 h4 (of_decide_eq_true h5)) h2 (star1 h3) (starAny h4)
       ·exact de_bad
      split
      ·rename_i hm;rw [Bool.and_eq_true] at hm;have em:=eq_of_beq hm.1;subst em;rw [Bool.not_eq_true'] at h3;exact de_methE (de_bm PySem.F.plainAttrs_tuple PySem.F.slot_tuple_count PySem.F.type_tuple_count mt_no (S.e O _) (S.a O _) (base_ok h1) (few_of h3 h4 (of_decide_eq_true h5)) h2 (star1 h3) (starAny h4))
        (de_bm PySem.F.plainAttrs_list PySem.F.slot_list_count PySem.F.type_list_count mt_no (S.e O _) (S.a O _) (base_ok h1) (few_of h3 h4 (of_decide_eq_true h5)) h2 (star1 h3) (starAny h4))
      split
      ·rename_i hm;rw [Bool.and_eq_true] at hm;have em:=eq_of_beq hm.1;subst em;rw [Bool.not_eq_true'] at h3;exact de_methE (de_bm PySem.F.plainAttrs_tuple PySem.F.slot_tuple_index PySem.F.type_tuple_index mt_no (S.e O _) (S.a O _) (base_ok h1) (few_of h3 h4 (of_decide_eq_true h5)) h2 (star1 h3) (starAny h4))
        (de_bm PySem.F.plainAttrs_list PySem.F.slot_list_index PySem.F.type_list_index mt_no (S.e O _) (S.a O _) (base_ok h1) (few_of h3 h4 (of_decide_eq_true h5)) h2 (star1 h3) (starAny h4))
      split
      ·rename_i T f eT;exact meth_call eT (S.e O _) (S.a O _) h1 h2 (by simpa using h3) h4 (of_decide_eq_true h5)
      ·rw [Bool.not_eq_true'] at h3;exact de_bad
     ·exact de_bad
  | _=>cases args <;> exact de_bad
 | ListComp elt gens scope p =>
  cases gens with
  | nil=>exact de_bad
  | cons g gens =>
   obtain ⟨tg,iter,ifs,kk⟩:=g;cases gens with
   | cons _ _=>exact de_bad
   | nil =>
    delta iEb
    dsimp only;split
    ·rename_i h;simp only [Bool.and_eq_true] at h;obtain ⟨⟨h1,h2⟩,h3⟩:=h;have e:=eq_of_beq h1;subst e;split
     ·rename_i ws g eg;split
      ·rename_i hw;refine de_comp (N':=compNames scope) O.calm (compOk_of O h2) (capOk_of O scope) (fun i hi j q=>?_) (S.i O tg iter) (fun p C c s h f=>(O.comp h2 p C c s h f).target eg) (fun p C c s h f=>S.f (O.comp h2 p C c s h f) ifs) (fun p C c s h f=>S.e (O.comp h2 p C c s h f) elt) (set_ok (by simpa using h3));have z:=List.all_eq_true.mp hw i hi;rw [q] at z;cases z
      ·exact de_bad
     ·exact de_bad
    ·exact de_bad
 | _=>exact de_bad
theorem snd (G:Gb):∀ n,SndE G n
 | 0=>snd_zero G
 | n+1=>⟨fun O=>snd_e (snd G n) O,fun O=>snd_t (snd G n) O,fun O=>snd_a (snd G n) O,fun O=>snd_f (snd G n) O,fun O=>snd_i (snd G n) O⟩
theorem asg_bad {X:Cx}{st:Stmt}{g:GM}:DS X st (asgS DM.bad g):=fun _ _ _ _ _ _ h=>by obtain ⟨_,_,_,_,_,_,e,_⟩:=h;cases e
theorem ds_compAsg {G:Gb}{X:Cx}{k:Nat}{sc:SC}(O:XOk X k G sc) (n:Nat) {y:Str}{py vp spos:Pos}{elt:Expr}{gens:List Comprehension}{scope:Scope}{ws:List Nat}{gy:GM}(hgy:iG sc (.Name y py)=some (ws,gy)) :
  DS X (.Assign [.Name y py] (.ListComp elt gens scope vp) spos) (asgS (iE G n sc (.ListComp elt gens scope vp)) gy):=by
 have hg:=O.target hgy;have sw:swapsWith (.ListComp elt gens scope vp) (some (.Name y py)) spos.line X.env=pure (X.env.blockKind==.function&&X.env.kindOf y==some .local&&py.line==vp.line&&!(scope.names.any fun (n,k)=>n==y&&(k==.local || k==.cell))):=rfl;cases hb:(X.env.blockKind==.function&&X.env.kindOf y==some .local&&py.line==vp.line&&!(scope.names.any fun (n,k)=>n==y&&(k==.local || k==.cell))) with
 | false =>
  rw [hb] at sw;exact ds_asg ((snd G n).e O _) hg sw rfl rfl
 | true =>
  rw [hb] at sw;cases n with
  | zero=>exact asg_bad
  | succ n =>
   show DS X _ (asgS (iEb (iE G n) (iT G n) (iA G n) (iF G n) (iI G n) G sc _) gy)
   match gens with
   | []=>exact asg_bad
   | ⟨_,_,_,_⟩::_::_=>exact asg_bad
   | [⟨tg,iter,ifs,kk⟩] =>
    delta iEb
    dsimp only;split
    ·rename_i h;simp only [Bool.and_eq_true] at h;obtain ⟨⟨h1,h2⟩,h3⟩:=h;have e:=eq_of_beq h1;subst e;split
     ·rename_i ws g eg;split
      ·rename_i hw;refine ds_setComp (N':=compNames scope) O.calm (compOk_of O h2) (capOk_of O scope) (fun i hi j q=>?_) ((snd G n).i O tg iter) (fun p C c s h f=>(O.comp h2 p C c s h f).target eg) (fun p C c s h f=>(snd G n).f (O.comp h2 p C c s h f) ifs) (fun p C c s h f=>(snd G n).e (O.comp h2 p C c s h f) elt) hg sw (set_ok (by simpa using h3));have z:=List.all_eq_true.mp hw i hi;rw [q] at z;cases z
      ·exact asg_bad
     ·exact asg_bad
    ·exact asg_bad
theorem not_swap {v tg:Expr}{line:Nat}{env:Env}(h:isCompE v=false):swapsWithSole [tg] v line env=pure false:=by
 show swapsWith v (some tg) line env=pure false;cases v <;> first | rfl | cases h
theorem not_swapN {v:Expr}{line:Nat}{env:Env}(h:isCompE v=false):swapsWith v none line env=pure false:=by
 cases v <;> first | rfl | cases h
theorem not_swapped {v tg:Expr}{env:Env}(h:(isTupE tg&&isTupE v)=false) (hl:∀ es p,tg≠.List es p):swappedStores [tg] v env=pure none:=by
 cases tg with
 | Tuple ts kk p =>
  cases v with
  | Tuple vs k2 p2=>cases h
  | _=>rfl
 | List es p=>exact (hl es p rfl).elim
 | _=>first | rfl | (cases v <;> rfl)
theorem par_ok {x y:Str}{a b:Expr}{px py pt pt2:Pos}{kt k2:Nat}{env:Env}(hb:(env.blockKind==.function)=true) (hx:(env.kindOf x==some .local)=true) (hy:(env.kindOf y==some .local)=true) (hl:(py.line==px.line)=true) (hne:(x==y)=false) (sa:isStar a=false) (sb:isStar b=false)
  (hf:[a,b].all (foldedForSure 8)=false) (hc:[a,b].all (constantsAlone 8)=false):swappedStores [.Tuple [.Name x px,.Name y py] kt pt] (.Tuple [a,b] k2 pt2) env=pure (some [x,y]):=by
 have he:([x,y].eraseDups.length != [x,y].length)=false:=by
  have:(y==x)=false:=by
   cases q:(y==x) with
   | false=>rfl
   | true=>rw [eq_of_beq q] at hne;simp at hne
  simp [List.eraseDups_cons,this,hne]
 have hbk:(env.blockKind != .function)=false:=by rw [bne,hb];rfl
 have e1:(Option.map (fun e:Expr=>e.pos.line) [Expr.Name x px,Expr.Name y py].head?).getD 0=px.line:=rfl;unfold swappedStores;dsimp only;refine (if_neg ?_).trans ?_
 ·simp [hbk]
 refine (if_neg ?_).trans ?_
 ·simp only [List.any_cons,List.any_nil,Bool.or_false];rw [Bool.not_eq_true,Bool.or_eq_false_iff];constructor
  ·cases a <;> first | rfl | cases sa
  ·cases b <;> first | rfl | cases sb
 simp only [e1,List.filterMap_cons,List.filterMap_nil,hx,hy,hl,beq_self_eq_true,Bool.and_self,if_true];refine (if_neg ?_).trans ?_
 ·rw [he];simp
 rw [if_neg (by rw [hf];simp),if_neg (by rw [hc];simp)]
theorem ds_par {X:Cx}{i j:Nat}{x y:Str}{a b:Expr}{mr:DM (List D)}{px py pt pt2 pos:Pos}{kt k2:Nat}(hc:X.calm=true) (hN:X.N.Nodup) (hi:X.N[i]?=some x) (hj:X.N[j]?=some y) (hij:i≠j) (hx:X.env.scope.names.lookup x=some .local) (hy:X.env.scope.names.lookup y=some .local) (ha:DA X [a,b] mr)
  (hw:swappedStores [.Tuple [.Name x px,.Name y py] kt pt] (.Tuple [a,b] k2 pt2) X.env=pure (some [x,y])):DS X (.Assign [.Tuple [.Name x px,.Name y py] kt pt] (.Tuple [a,b] k2 pt2) pos) (parS mr i j):=by
 rintro pins s σ H N I ⟨loc,mh,ρ,f,loc',mh',e,rl,rs,co⟩;refine ps_par hc hN hi hj hij hx hy (ha loc mh) hw rfl pins s σ H N I ?_;unfold parS at e;split at e
 ·rename_i d1 d2 h1 er;cases e;refine ⟨ρ,[d1,d2],mh',er,rl,rs,fun H' ρ' vs e' rs' r'=>?_⟩;cases r' with
  | cons r1 r' =>
   cases r' with
   | cons r2 r' =>
    cases r';exact ⟨_,_,rfl,co H' ρ' _ e' rs' (((rl.mono e').set r1).set r2)⟩
 ·cases e
theorem sndSb (G:Gb) (n:Nat) (ihss:∀ {X:Cx}{k:Nat}{sc:SC},XOk X k G sc→∀ ss,DSs X ss (iSs G n sc ss)) {X:Cx}{k:Nat}{sc:SC}(O:XOk X k G sc) (s:Stmt):DS X s (iSb n (iSs G n) G sc s):=by
 have S:=snd G n;cases s with
 | Expr e p =>
  delta iSb
  dsimp only;split
  ·exact ds_bad
  ·rename_i h;exact ds_expr (S.e O _) (not_swapN (by simpa using h))
 | Pass _=>exact ds_pass
 | Break _=>exact ds_break
 | Continue _=>exact ds_continue
 | Return e _ =>
  cases e with
  | some e=>exact ds_ret (S.e O _)
  | none=>exact ds_retN
 | Assign ts v p =>
  cases ts with
  | nil=>exact ds_bad
  | cons tg r =>
   cases r with
   | cons _ _=>exact ds_bad
   | nil =>
    have gen:DS X (.Assign [tg] v p) (if isCompE v || (isTupE tg&&isTupE v) then SM.bad else (match iGt G n sc tg with | some g=>asgS (iE G n sc v) g | none=>SM.bad)):=by
     split
     ·exact ds_bad
     ·rename_i h;have h:isCompE v=false∧(isTupE tg&&isTupE v)=false:=by
       rw [Bool.not_eq_true,Bool.or_eq_false_iff] at h;exact h
      split
      ·rename_i g eg;have gen:(match iG sc tg with | some (_,g)=>some g | none=>none)=some g→DS X (.Assign [tg] v p) (asgS (iE G n sc v) g):=fun eg=>by
        split at eg
        ·rename_i ws g' eg';cases eg;refine ds_asg (S.e O _) (O.target eg') (not_swap h.1) (not_swapped h.2 (fun es p z=>by subst z;simp [iG] at eg')) ?_;cases tg <;> first | rfl | (simp [iG] at eg')
        ·cases eg
       cases tg with
       | Subscript o i p' =>
        simp only [iGt] at eg;split at eg
        ·cases eg
        ·rename_i hs;cases eg;have hs:isSlice i=false:=by simpa using hs
         refine ds_asg (S.e O _) (dg_sub (S.e O _) (S.e O _) ?_) (not_swap h.1) (not_swapped h.2 (fun _ _ z=>by cases z)) rfl;intro v';cases i <;> first | rfl | cases hs
       | _=>exact gen eg
      ·exact ds_bad
    cases tg with
    | Name y py =>
     cases v with
     | ListComp elt gens scope vp =>
      delta iSb
      dsimp only
      delta asgB
      dsimp only;split
      ·rename_i ws g eg;exact ds_compAsg O n eg
      ·exact ds_bad
     | _=>exact gen
    | Tuple tl kt pt =>
     cases tl with
     | nil=>exact gen
     | cons t1 tl =>
      cases t1 with
      | Name x px =>
       cases tl with
       | nil=>exact gen
       | cons t2 tl =>
        cases t2 with
        | Name y py =>
         cases tl with
         | cons _ _=>exact gen
         | nil =>
          cases v with
          | Tuple vl k2 pt2 =>
           cases vl with
           | nil=>exact gen
           | cons a vl =>
            cases vl with
            | nil=>exact gen
            | cons b vl =>
             cases vl with
             | cons _ _=>exact gen
             | nil =>
              delta iSb
              dsimp only
              delta asgB
              dsimp only;split
              ·rename_i h;unfold parB at h;simp only [Bool.and_eq_true,Bool.not_eq_true'] at h;obtain ⟨⟨⟨⟨⟨⟨⟨⟨h1,h2⟩,h3⟩,h4⟩,h5⟩,h6⟩,h7⟩,h8⟩,h9⟩:=h;split
               ·rename_i i j ei ej;have hi:=slot_some ei;have hj:=slot_some ej;refine ds_par O.calm (by rw [O.N];exact O.nd) (by rw [O.N];exact hi) (by rw [O.N];exact hj) (fun z=>?_) (by rw [O.sco];exact eq_of_beq h2) (by rw [O.sco];exact eq_of_beq h3) (S.a O _) (par_ok ?_ ?_ ?_ h4 h5 h6 h7 h8 h9)
                ·subst z;rw [hi] at hj;cases hj;simp at h5
                ·unfold Env.blockKind;rw [O.sco];exact h1
                ·unfold Env.kindOf;rw [O.sco];exact h2
                ·unfold Env.kindOf;rw [O.sco];exact h3
               ·exact ds_bad
              ·exact ds_bad
          | _=>exact gen
        | _=>exact gen
      | _=>exact gen
    | _=>exact gen
 | If c a b _=>exact ds_if (S.t O _) (ihss O _) (ihss O _)
 | For tg it body els _ =>
  cases els with
  | cons _ _=>exact ds_bad
  | nil =>
   delta iSb
   dsimp only;split
   ·exact ds_bad
   ·rename_i h;split
    ·rename_i ws g eg;refine ds_for ?_ O.calm (S.i O _ _) (O.target eg) (ihss O _) (set_ok (by simpa using h));rw [O.xe];exact PassesOwn.never
    ·exact ds_bad
 | _=>exact ds_bad
theorem sndS (G:Gb) (n:Nat):(∀ {X:Cx}{k:Nat}{sc:SC},XOk X k G sc→∀ s,DS X s (iS G n sc s))∧(∀ {X:Cx}{k:Nat}{sc:SC},XOk X k G sc→∀ ss,DSs X ss (iSs G n sc ss)):=by
 induction n with
 | zero=>exact ⟨fun _ _=>ds_bad,fun _ _ _ _ _ _ _ _ h=>by obtain ⟨_,_,_,_,_,_,e,_⟩:=h;cases e⟩
 | succ n ih =>
  refine ⟨fun {X k sc} O s=>sndSb G n (fun O ss=>ih.2 O ss) O s,fun {X k sc} O ss=>?_⟩;cases ss with
  | nil=>exact dss_nil
  | cons s r=>exact dss_cons (ih.1 O s) (ih.2 O r)
theorem start_rl {K:PySem.W.Frag}{H:Hp}{ρ:List Addr}{N:List Str}{ds:List D}{vs:List V}(r:RDs K H ρ ds vs):RL K H ρ (ds.map some++List.replicate (N.length - ds.length) none) (L2.start N vs):=by
 have hl:=r.length;unfold L2.start;refine ⟨by simp [hl],fun i d e=>?_⟩
 by_cases hi:i < ds.length
 ·rw [List.getElem?_append_left (by simpa using hi),List.getElem?_map] at e;cases q:ds[i]? with
  | none=>rw [q] at e;cases e
  | some d' =>
   rw [q] at e;cases e;obtain ⟨v,e1,r1⟩:=r.get q;exact ⟨v,by rw [List.getElem?_append_left (by simp;omega),List.getElem?_map,e1];rfl,r1⟩
 ·rw [List.getElem?_append_right (by simpa using hi),List.getElem?_replicate] at e;split at e <;> cases e
theorem fn_ok {P:Program}{w:World}{K:PySem.W.Frag}{mg:Str→Option Value}{base:Heap}{k:Nat}{G:Gb}{x qual:Str}{st:Stmt}{f:Addr}{fd:FuncData}{I:FnI}(g:GOk P w K mg base k G) (F:Fun K x qual st f fd) (S:FnScope I.N I.ps (defScope st))
  (hs:I.scope=defScope st) (hb:I.body=defBody st) (n:Nat):FnOk P w K mg base CX0 (k+3) f fd I.ps (spD K I.ps.length (runF G n I)):=by
 refine F.ok S (fun vs H Q E h=>h.1) fun cdv A outer s H vs Q E hr h=>?_
 obtain ⟨hl,ρ,mh,ds,d,mh',q,rs,r,co⟩:=h;refine ⟨_,(sndS G n).2 (sc:={ N:=I.N,scope:=I.scope,own:=fun _=>true }) ⟨rfl,S.nd,hs.symm,fun _ _ _=>.inl rfl,rfl,rfl,hr,g⟩ (defBody st),?_⟩;unfold runF at q;split at q
 ·split at q
  ·rename_i d' loc' m' e;cases q;exact ⟨_,mh,ρ,.rt d,loc',mh',by rw [← hb];exact e,start_rl r,rs,co⟩
  ·rename_i loc' m' e;cases q;exact ⟨_,mh,ρ,.nx,loc',mh',by rw [← hb];exact e,start_rl r,rs,fun H' ρ' σ' e' rs' _=>co H' ρ' _ e' rs' .non⟩
  ·cases q
 ·cases q
theorem runF_len {G:Gb}{n:Nat}{I:FnI}{ds:List D}{mh:MH}{r:D×MH}(h:runF G n I ds mh=some r):ds.length=I.ps.length:=by
 unfold runF at h;split at h
 ·assumption
 ·cases h
noncomputable def FnRow (K:PySem.W.Frag) (mg:Str→Option Value) (x:Str) (I:FnI):Prop:=∃ (qual:Str) (st:Stmt) (f:Addr) (fd:FuncData),mg x=some (.ref f)∧Fun K x qual st f fd∧FnScope I.N I.ps (defScope st)∧I.scope=defScope st∧I.body=defBody st∧∀ us:List Value,us.length=I.ps.length→bindArgs fd ⟨us,[]⟩=pure (I.ps.zip us)
noncomputable def ConRow (K:PySem.W.Frag) (mg:Str→Option Value) (x:Str) (d:D):Prop:=∃ u v,mg x=some u∧RelV v u∧∀ H ρ,RD K H ρ d v
theorem tb_step {α:Type}{x n:Str}{a I:α}{r:Option α}{P:Str→α→Prop}(hx:(if x==n then some a else r)=some I) (h1:P n a) (h2:r=some I→P x I):P x I:=by
 by_cases h:(x==n)=true
 ·rw [if_pos h] at hx;cases hx;rw [eq_of_beq h];exact h1
 ·rw [if_neg h] at hx;exact h2 hx
structure TbOk (w:World) (K:PySem.W.Frag) (mg:Str→Option Value) (T:Tb):Prop where
 fn:∀ x I,T.tb x=some I→∃ (qual:Str) (st:Stmt) (f:Addr) (fd:FuncData),mg x=some (.ref f)∧Fun K x qual st f fd∧FnScope I.N I.ps (defScope st)∧I.scope=defScope st∧I.body=defBody st∧∀ us:List Value,us.length=I.ps.length→bindArgs fd ⟨us,[]⟩=pure (I.ps.zip us)
 con:∀ x d,T.con x=some d→∃ u v,mg x=some u∧RelV v u∧∀ H ρ,RD K H ρ d v
 blt:∀ b∈bltNames,mg b=none
 dic:∀ x kvs,T.dic x=some kvs→∃ a,mg x=some (.ref a)∧DicOk w K a kvs
 fld:∀ c f,T.fld c f=true→∃ C,PySem.W.nsIn K mainGlobals c=some (some (.ref C))∧Cls K C∧NoAttr K C f
 met:∀ c m I,T.tbm c m=some I→∃ (qual:Str) (st:Stmt) (C f:Addr) (fd:FuncData),PySem.W.nsIn K mainGlobals c=some (some (.ref C))∧Cls K C∧Meth K C m f∧Fun K m qual st f fd∧FnScope I.N I.ps (defScope st)∧I.scope=defScope st∧I.body=defBody st∧∀ us:List Value,us.length=I.ps.length→bindArgs fd ⟨us,[]⟩=pure (I.ps.zip us)
 mkr:∀ c f,T.mkr c=some f→∃ C fa fd ps,PySem.W.nsIn K mainGlobals c=some (some (.ref C))∧Mk K C fa∧mg c=some (.ref C)∧Binds K fd ps []∧∀ (P:Program) (w:World) (base:Heap),FnOk P w K mg base CX0 1 fa fd ps (spI C f)
noncomputable def mkFn (st:Stmt):FnI :=
  { ps:=(defArgs st).args.map (·.arg),
    N:=(defArgs st).args.map (·.arg)++(((defScope st).names.filter fun p=>(match p.2 with | .local=>true | .cell=>true | _=>false)).map (·.1)).filter (fun x=>!((defArgs st).args.map (·.arg)).contains x),
    scope:=defScope st,body:=defBody st }
end DL
namespace DL
open PySem L2
noncomputable def vr (i:Nat):DM D:=fun loc mh=>match loc[i]? with | some (some d)=>some (d,mh) | _=>none
noncomputable abbrev subD:=iop (fun _ _=>true) fun i j=>i - j
noncomputable abbrev mulD:=mulD2 (iop cmulB fun i j=>i * j)
noncomputable abbrev fdivD:=iop (fun _ j=>decide (j≠0)&&decide (j.natAbs < 10889035741470030830827987437816582766592)) fun i j=>i.fdiv j
noncomputable abbrev modD:=iop (fun _ j=>decide (j≠0)) fun i j=>i.fmod j
noncomputable abbrev powD:=iop (fun i j=>decide (0≤j)&&(decide (j≤1000000)&&decide (i.natAbs < 2 ^ 64))) fun i j=>i ^ j.toNat
noncomputable abbrev ltD:=icmp fun i j=>decide (i < j)
noncomputable abbrev leD:=icmp fun i j=>decide (i≤j)
noncomputable abbrev gtD:=icmp fun i j=>decide (j < i)
noncomputable abbrev geD:=icmp fun i j=>decide (j≤i)
noncomputable def negM (m:DM D):DM D:=m.bnd fun x=>DM.lift (negD x)
noncomputable def notV (m:DM D):DM D:=(boolD m).bnd fun c=>DM.ret (.bl (!c))
noncomputable def tupM (mr:DM (List D)):DM D:=mr.bnd fun ds=>DM.lift (mkTup ds)
noncomputable def lstM (mr:DM (List D)):DM D:=mr.bnd fun ds=>DM.lift (mkLst ds)
noncomputable def revM (m:DM D):DM D:=m.bnd fun x=>DM.lift (revD x)
noncomputable def calM (f:Fn) (mr:DM (List D)):DM D:=mr.bnd fun ds=>DM.lift (f ds)
noncomputable def isiM (T:String) (m:DM D):DM D:=m.bnd fun x=>DM.lift (isiD T x)
theorem ln0 {f:List Value→Prop}(h:f []) (us:List Value) (e:us.length=0):f us:=by
 cases us with
 | nil=>exact h
 | cons _ _=>cases e
theorem ln1 {f:List Value→Prop}(h:∀ a,f [a]) (us:List Value) (e:us.length=1):f us:=by
 cases us with
 | nil=>cases e
 | cons a r=>exact ln0 (f:=fun r=>f (a::r)) (h a) r (Nat.succ.inj e)
theorem ln2 {f:List Value→Prop}(h:∀ a b,f [a,b]) (us:List Value) (e:us.length=2):f us:=by
 cases us with
 | nil=>cases e
 | cons a r=>exact ln1 (f:=fun r=>f (a::r)) (h a) r (Nat.succ.inj e)
theorem ln3 {f:List Value→Prop}(h:∀ a b c,f [a,b,c]) (us:List Value) (e:us.length=3):f us:=by
 cases us with
 | nil=>cases e
 | cons a r=>exact ln2 (f:=fun r=>f (a::r)) (h a) r (Nat.succ.inj e)
theorem walkX_of {q:Program}{loose:List Str}{XP:(Str→Option Value)→Heap→Prop}{K:Params→PySem.W.Frag}{as:List Addr}{n t:Nat}{r:PySem.W.RowW}{d:DefRec}{kwd:List (Str×Expr)}{run:Value→List Value→Sem Value}
  (e:∀ P,as=(K P).map (·.1)) (h:PySem.W.WalkO q loose XP (fun w h=>(K w.params).In h) r d kwd run):PySem.W.WalkX q loose XP (PySem.W.X.obsZ as) (PySem.W.X.valZ K n t) r d kwd run :=
 fun w s₀ s₁ mg mb G y a o pm cd doc dV kV h1 h2 h3 h4 h5 h6 args vals as' L hpre hlay hrd hwl hlo =>
  h w s₀ s₁ mg mb G (PySem.W.InK.keeps w s₀.heap s₁.heap (PySem.W.X.z_facts e y).2.1 L.keeps) a o pm cd doc dV kV h1 h2 h3 h4 h5 h6 args vals as' hpre hlay hrd hwl hlo
end DL
namespace L2
open PySem PySem.Spec PyProof.Rows
noncomputable def Steady (J:Obj→Prop):Prop:=∀ o v,J o→J (Obj.mapFields (·.setIfInBounds 1 v) o)
noncomputable def TrJ (J:Obj→Prop) (fl:Value) (base:Heap) (x:Addr) (h:Heap):Prop :=
 ∃ ox fs tb ot us,h.get? x=some ox∧J ox∧ox.data=.fields fs∧fs[1]?=some (.ref tb)∧base.get? tb=none∧tb≠x∧h.get? tb=some ot∧ot.data=.fields us∧us[3]?=some fl
noncomputable def FlyJ (J:Obj→Prop) (fl:Value) (base:Heap) (l:List Env) (x:Addr) (h:Heap):Prop:=base.StaysIn h∧base.get? x=none∧h.FunFrames base l∧TrJ J fl base x h
theorem FlyJ.there {J:Obj→Prop}{fl:Value}{base h:Heap}{l:List Env}{x:Addr}(z:FlyJ J fl base l x h):∃ ob,h.get? x=some ob∧J ob:=let ⟨_,_,_,ox,_,_,_,_,e,j,_⟩:=z;⟨ox,e,j⟩
section
variable {M:Model}{A:Around}{E:Value→Shared→Prop}{s:Shared}{J:Obj→Prop}{base:Heap}{env:Env}{outer l:List Env}{L x tb:Addr}{ox ot:Obj}{fs us:Array Value}{Q:Unit→Shared→Prop}
theorem up_other {h:Heap}{f:Obj→Obj}{b:Addr}(ne:b≠tb):(h.update tb f).get? b=h.get? b:=Heap.get?_update_other _ _ (Ne.symm ne)
theorem not_rec {h:Heap}{b:Addr}{o:Obj}(e:h.get? tb=some ot) (d:ot.data=.fields us) (hb:h.get? b=some o) (n:∀ w,o.data≠.fields w):b≠tb:=fun z=>by
 rw [z,e] at hb;cases hb;exact n _ d
theorem entry_J (st:Steady J) (hfr:A.frames=some (env::outer)) (hf:env.frame=some L) (kb:base.StaysIn s.heap) (nb:base.get? x=none) (fn:s.heap.FunFrames base (env::outer)) (e:s.heap.get? x=some ox) (j:J ox) (d:ox.data=.fields fs) (sz:1 < fs.size) {head:Value}{hn:Bool}
  (k:∀ h',FlyJ J (rawInt L) base (env::outer) x h'→s.heap.UpToSlots h'→Q () { s with heap:=h' }) :
  wpAny M A (do let a ← frameOf env;let pl ← entryPlaceOf L hn;let b ← EntryCells.newEntry head a .none (rawInt L) .none pl;setField (.ref x) 1 b) Q E s:=by
 have out:x ∉ (env::outer).filterMap (·.frame):=fun hm=>by
  obtain ⟨_,o,ho,n⟩:=fn.mem hm;rw [e] at ho;cases ho;exact n _ d
 refine wpAny_bind (wpAny_frameOf_fun hfr fn hf fun g gs=>wpAny_bind (wpAny_entryPlaceOf fun pl hpl=>?_));unfold EntryCells.newEntry newFields;refine wpAny_bind (wpAny_newObj_type ?_ (hpl.sizeOk5 _ _ _ _ _));have e1:=(gs.2.1 x out).trans e;have kb1:base.StaysIn g:=fun b o z=>(gs.2.1 b fun hm=>by rw [(fn.mem hm).1] at z;cases z).trans (kb b o z)
 generalize ho:({ cls:=.type "traceback",dict:=none,data:=.fields ([head,.ref L,.none,rawInt L,.none]++(if pl.isEmpty then List.replicate 6 Value.none else pl)).toArray }:Obj)=on;have hod:on.data=.fields ([head,.ref L,.none,rawInt L,.none]++(if pl.isEmpty then List.replicate 6 Value.none else pl)).toArray:=by rw [← ho]
 have hof:on.isFreed=false:=by rw [← ho];rfl
 have e2:=Heap.get?_push_of_some on e1;have ne:g.objs.size≠x:=Nat.ne_of_gt (Heap.lt_size e1);refine wpAny_setField e2 d sz (k _ ?_ ?_)
 ·have d3:=Obj.data_mapFields d (·.setIfInBounds 1 (Value.ref g.objs.size));have kp:∀ b o,b≠x→g.get? b=some o→((g.push on).update x (Obj.mapFields (·.setIfInBounds 1 (Value.ref g.objs.size)))).get? b=some o:=fun b o n z=>by rw [up_other n];exact Heap.get?_push_of_some _ z
  refine ⟨fun b o z=>kp b o (fun q=>by rw [q,nb] at z;cases z) (kb1 b o z),nb,fn.of_keeps fun b o z n=>?_,_,_,g.objs.size,on,_,Heap.get?_update_self _ e2 (Obj.isFreed_of_fields d3),st _ _ j,d3,by simp [sz],kb1.fresh,ne,?_,hod,?_⟩
  ·obtain ⟨sl,z1⟩:=gs.2.2 b o z;exact ⟨_,kp b _ (not_rec e d z n) z1,rfl⟩
  ·rw [up_other ne];exact Heap.get?_push_size g hof
  ·rcases hpl with rfl | ⟨_,_,_,_,_,_,_,rfl⟩ <;> simp
 ·intro b o z n;obtain ⟨sl,z1⟩:=gs.2.2 b o z;refine ⟨sl,?_⟩;rw [up_other (not_rec e d z n)];exact Heap.get?_push_of_some _ z1
theorem land_J (hf:FlyJ J (.int 0 0) base l x s.heap∨∃ fl,FlyJ J fl base l x s.heap) (k:∀ h',FlyJ J .none base l x h'→s.heap.UpToSlots h'→Q () { s with heap:=h' }):wpAny M A (setFlight (.ref x) none) Q E s:=by
 obtain ⟨fl,kb,nb,fn,ox,fs,tb,ot,us,e,j,d,t1,nt,ne,et,dt,t3⟩:∃ fl,FlyJ J fl base l x s.heap:=hf.elim (fun z=>⟨_,z⟩) id;unfold setFlight;refine wpAny_bind (wpAny_field e d t1 ?_);rw [if_pos (by simp)];have sz:=(Array.getElem?_eq_some_iff.mp t3).1;refine wpAny_setField et dt sz (k _ ⟨fun b o z=>(up_other fun q=>by rw [q,nt] at z;cases z).trans (kb b o z),nb,fn.of_keeps fun b o z n=>⟨o,(up_other (not_rec et dt z n)).trans z,rfl⟩,ox,fs,tb,_,_,(up_other (Ne.symm ne)).trans e,j,d,t1,nt,ne,Heap.get?_update_self _ et (Obj.isFreed_of_fields (Obj.data_mapFields dt _)),Obj.data_mapFields dt _,by simp [sz]⟩ fun b o z n=>⟨o.slots,(up_other (not_rec et dt z n)).trans z⟩)
theorem note_first_J (st:Steady J) (hfr:A.frames=some (env::outer)) (hf:env.frame=some L) (kb:base.StaysIn s.heap) (nb:base.get? x=none) (fn:s.heap.FunFrames base (env::outer)) (e:s.heap.get? x=some ox) (j:J ox) (d:ox.data=.fields fs) (t1:fs[1]?=some .none)
  (k:∀ h',FlyJ J (rawInt L) base (env::outer) x h'→s.heap.UpToSlots h'→Q () { s with heap:=h' }):wpAny M A (noteFrame (.ref x) env) Q E s:=by
 unfold noteFrame;simp only [hf];refine wpAny_bind (wpAny_field e d t1 ?_);rw [if_neg (by decide)];exact entry_J st hfr hf kb nb fn e j d (Array.getElem?_eq_some_iff.mp t1).1 k
theorem note_next_J (st:Steady J) (hfr:A.frames=some (env::outer)) (hf:env.frame=some L) (z:FlyJ J .none base (env::outer) x s.heap)
  (k:∀ h',FlyJ J (rawInt L) base (env::outer) x h'→s.heap.UpToSlots h'→Q () { s with heap:=h' }):wpAny M A (noteFrame (.ref x) env) Q E s:=by
 obtain ⟨kb,nb,fn,ox,fs,tb,ot,us,e,j,d,t1,nt,ne,et,dt,t3⟩:=z;unfold noteFrame;simp only [hf];refine wpAny_bind (wpAny_field e d t1 ?_);rw [if_pos (by simp)];refine wpAny_bind (wpAny_field et dt t3 ?_);rw [if_neg (by simp [rawInt])];refine wpAny_bind (wpAny_setField et dt (Array.getElem?_eq_some_iff.mp t3).1 ?_);refine entry_J st hfr hf (fun b o z=>(up_other fun q=>by rw [q,nt] at z;cases z).trans (kb b o z)) nb (fn.of_keeps fun b o z n=>⟨o,(up_other (not_rec et dt z n)).trans z,rfl⟩) ((up_other (Ne.symm ne)).trans e) j d (Array.getElem?_eq_some_iff.mp t1).1 fun h' f u=>k h' f fun b o z n=>u b o ((up_other (not_rec et dt z n)).trans z) n
theorem FlyJ.less {fl:Value}{h:Heap}(z:FlyJ J fl base (env::outer) x h):FlyJ J fl base outer x h:=let ⟨a,b,c,d⟩:=z;⟨a,b,c.2.2,d⟩
theorem leave_first_J (st:Steady J) (hfr:A.frames=some (env::outer)) (hf:env.frame=some L) (kb:base.StaysIn s.heap) (nb:base.get? x=none) (fn:s.heap.FunFrames base (env::outer)) (e:s.heap.get? x=some ox) (j:J ox) (d:ox.data=.fields fs) (t1:fs[1]?=some .none)
  (k:∀ h',FlyJ J .none base outer x h'→s.heap.UpToSlots h'→Q () { s with heap:=h' }):wpAny M A (leaving env (.ref x)) Q E s:=by
 unfold leaving;exact wpAny_bind (note_first_J st hfr hf kb nb fn e j d t1 fun h1 f1 u1=>land_J (.inr ⟨_,f1⟩) fun h2 f2 u2=>k h2 f2.less (u1.trans u2))
end
noncomputable def Jx (C:Addr) (dx:Option Addr) (o:Obj):Prop:=o.cls=.ref C∧o.dict=dx∧∃ fs,o.data=.fields fs∧fs[2]?=some .none
theorem Jx.steady (C:Addr) (dx:Option Addr):Steady (Jx C dx):=fun o v ⟨h1,h2,fs,h3,h4⟩ =>
 ⟨(Obj.cls_mapFields _ _).trans h1,(by unfold Obj.mapFields;split <;> exact h2),_,Obj.data_mapFields h3 _,by rw [Array.getElem?_setIfInBounds_ne (by decide)];exact h4⟩
structure Thrown (P:Program) (w:World) (outer:List Env) (H H':Hp) (s s':Shared) (a C:Addr) (dx:Option Addr) (B h₁:Heap):Prop where
 os:s'.os=s.os
 bare:AllBare s'.gens
 fly:FlyJ (Jx C dx) .none B outer a s'.heap
 un:Un (frs outer) [] H H' s.heap h₁
 hok:HOk P w H' h₁
 kp:∀ b o,h₁.get? b=some o→b ∉ frs outer→(b < s.heap.objs.size∨H' b≠none)→B.get? b=some o
 sl:h₁.UpToSlots s'.heap
noncomputable def CXe (P:Program) (w:World):CXT:=fun outer H s E e s'=>∃ a C dx B h₁ H',e=.ref a∧Thrown P w outer H H' s s' a C dx B h₁∧E (.ref C) dx H'
theorem Thrown.land {P:Program}{w:World}{outer:List Env}{H H':Hp}{s s':Shared}{a C:Addr}{dx:Option Addr}{B h₁ base h:Heap}(T:Thrown P w outer H H' s s' a C dx B h₁) (fn:s.heap.FunFrames base outer) (frf:∀ b∈frs outer,H b=none)
  (st:∀ b o,B.get? b=some o→h.get? b=some o) (us:h₁.UpToSlots h):Un (frs outer) [] H H' s.heap h∧HOk P w H' h:=by
 have nx:∀ b:Addr,b ∉ ([]:List Addr):=fun b z=>absurd z (by simp)
 have fr1:∀ b o,s.heap.get? b=some o→b∈frs outer→∃ sl,h.get? b=some { o with slots:=sl }:=fun b o e hb=>by
  obtain ⟨_,o',ho,hd⟩:=fn.mem hb;rw [e] at ho;cases ho;obtain ⟨sl,e1⟩:=T.un.slot b o e (frf b hb) hb (nx b);obtain ⟨sl',e2⟩:=us b _ e1 hd;exact ⟨sl',e2⟩
 have nf:∀ b,H' b≠none→b ∉ frs outer:=fun b q hb=>by
  obtain ⟨_,o',ho,_⟩:=fn.mem hb;exact q (T.un.free b o' ho (frf b hb) (nx b))
 refine ⟨⟨fun b o e n hb hx=>st b o (T.kp b o (T.un.keep b o e n hb hx) hb (.inl (Heap.lt_size e))),fun b o e _ hb _=>fr1 b o e hb,T.un.free,fun b o e hx=>?_,T.un.tups,T.un.frzs,T.un.tbls⟩,fun b u q=>?_⟩
 ·by_cases hb:b∈frs outer
  ·obtain ⟨sl,e1⟩:=fr1 b o e hb;exact ⟨_,e1⟩
  ·obtain ⟨o',e'⟩:=T.un.there b o e hx;exact ⟨o',st _ _ (T.kp b o' e' hb (.inl (Heap.lt_size e)))⟩
 ·refine (T.hok b u q).stay (fun c v hc r=>?_) (fun _ z=>z) fun _ _ z=>z
  have hn:H' c≠none:=by
   rcases hc with rfl | hc
   ·rw [q];simp
   ·rw [hc];simp
  exact st c v (T.kp c v r (nf c hn) (.inr hn))
section
variable {P:Program}{w:World}{K:PySem.W.Frag}{mg:Str→Option Value}{base:Heap}{N:List Str}{qual:Str}{scope:Scope}{f:Addr}{cd:Value}{A:Around}{outer:List Env}{s s1:Shared}{H H1:Hp}{E:XK}{pins:List (Addr×Obj)}{σ:St}
theorem xe_raise (I:Inv (cxOf (CXe P w) P w K mg base N qual scope f cd A outer s H E) pins σ H1 s1) {e C:Addr}{vs:List Value}{h':Heap}(hx:Heap.MadeExcOf s1.heap h' e (.ref C) vs) (q:E (.ref C) none H1) :
  (cxOf (CXe P w) P w K mg base N qual scope f cd A outer s H E).xe (.ref e) { s1 with heap:=h' }:=by
 show wpAny _ _ (leaving _ _) _ _ _;have hin:∀ env∈(envOfC qual scope s.heap.objs.size f cd::outer),∀ b,env.frame=some b→b∈frs (envOfC qual scope s.heap.objs.size f cd::outer):=fun env he b hb=>List.mem_filterMap.mpr ⟨env,he,hb⟩
 obtain ⟨t,he,_,_⟩:=hx.there;have fresh:(PySem.W.hideAll s1.heap (frs (envOfC qual scope s.heap.objs.size f cd::outer))).get? e=none:=by
  cases z:(PySem.W.hideAll s1.heap (frs (envOfC qual scope s.heap.objs.size f cd::outer))).get? e with
  | none=>rfl
  | some o =>
   have:=PySem.W.of_hideAll _ z;rw [hx.new] at this;cases this
 refine leave_first_J (Jx.steady C none) (base:=PySem.W.hideAll s1.heap (frs (envOfC qual scope s.heap.objs.size f cd::outer))) I.ok.frames rfl (fun b o z=>hx.keeps b o (PySem.W.of_hideAll _ z)) fresh ((PySem.W.funFrames_hide I.stack hin).of_keeps fun b o z _=>⟨o,hx.keeps b o z,rfl⟩) he ⟨rfl,rfl,_,rfl,rfl⟩ rfl rfl
  fun h'' x1 x4=>⟨e,C,none,_,s1.heap,H1,rfl,⟨I.os,I.bare,x1,I.base,I.hok,fun b o e1 hb hor=>PySem.W.hideAll_get _ e1 fun hm=>?_,(Heap.UpToSlots.of_keeps hx.keeps).trans x4⟩,q⟩
 rcases List.mem_cons.mp (I.stkSub b hm) with z | z
 ·rcases hor with l | l
  ·exact absurd (show b=s.heap.objs.size from z) (Nat.ne_of_lt l)
  ·exact l (z ▸ I.free)
 ·exact hb z
end
noncomputable def bmV:List Value:=[.type "ValueError",.type "Exception",.type "BaseException",.type "object"]
theorem exc_own {K:PySem.W.Frag}{h:Heap}{mg:Str→Option Value}{x:Str}{C:Addr}{bl:List Value}{nid:String}(X:K.In h) (hm:mg x=some (.ref C)) (q:PySem.W.excIn K C bl nid=true):OwnCls x C bl nid mg h:=by
 refine ⟨hm,?_⟩;unfold PySem.W.excIn at q;split at q
 ·rename_i d1 c1 s1 lk;split at q
  ·rename_i C1 b1 j0 j1 j2 j3 n1 j5 em es;rw [Bool.and_eq_true,Bool.and_eq_true,Bool.and_eq_true,Bool.and_eq_true,Bool.and_eq_true] at q;obtain ⟨⟨⟨⟨⟨q1,q2⟩,q3⟩,q4⟩,q5⟩,q6⟩:=q;cases eq_of_beq q1;cases eq_of_beq q2;obtain ⟨y1,y2,y3,y4,y5,y6,y7,y8,y9,y10,y11⟩:=c1;cases em;have q3:y11=false:=by simpa using q3
   cases q3;obtain ⟨l1⟩:=s1;cases es;exact ⟨b1,y4,y1,y5,y2,y6,y7,y8,y9,y10,d1,j0,j1,j2,j3,j5,_,X _ _ lk,.of_isNs (PySem.W.isNs_of_in X q5),PySem.W.nsMap_none_of_in X q5 (eq_of_beq q6),PySem.W.tail_of_in X q4⟩
  ·cases q
 ·cases q
section
variable {X:Cx}{c x:Str}{C fa:Addr}{np cpos pos apos hpos tpos epos:Pos}{e:Expr}{es:List Expr}{ta:TA}
theorem PS.nox {st:Stmt}{t:TS}(h:PS X.nox st t):PS X st t:=fun pins s σ H D I hw =>
 wpAny_mono (h pins s σ H D (I.wish _) hw) (fun _ _ q=>q.unwish) fun _ _ z=>False.elim z
theorem PA.nox {t:TA}(h:PA X.nox es t):PA X es t:=fun pos pins s σ H Q I hw =>
 wpAny_mono (h pos pins s σ H Q (I.wish _) hw) (fun _ _ ⟨v,H',I',r,q⟩=>⟨v,H',I'.unwish,r,q⟩) fun _ _ z=>False.elim z
theorem ps_raise {W:Hp→Prop}(hc:X.calm=true) (hC:PySem.W.excIn X.K C bmV "ValueError.__new__"=true) (hg:Gl X c) (hm:X.mg c=some (.ref C)) (ha:PA X (e::es) ta)
  (thr:∀ (pins:List (Addr×Obj)) (σ:St) (H:Hp) (s:Shared) (h':Heap) (a:Addr) (vs:List Value),Inv X pins σ H s→Heap.MadeExcOf s.heap h' a (.ref C) vs→W H→X.xe (.ref a) { s with heap:=h' })
  (hd:(c==("__debug__":Str))=false) (he:starEach (e::es) X.env=(false,eval e X.env)::starEach es X.env) (hpl:(backTo cpos (starEach es X.env)).any (·.1)=false) :
  PS X (.Raise (some (.Call (.Name c np) (e::es) [] cpos)) none pos) (fun _ σ H=>ta σ H fun vs H1=>vs.length≤sizeLine∧W H1):=by
 intro pins s σ H D I h;obtain ⟨bm,N,nm,q,bs,hdct,sn,sub,ab,col,dd,k0,k1,k2,k3,k5,mN,hO,hN,hni,TL⟩:=(exc_own I.ok.mod.kin hm hC).obj
 have hb:bmV.contains (.type "BaseException")=true:=by decide +kernel
 refine wpAny_Raise_call_subT (C:=C) (nm:=nm) (q:=q) (N:=N) (bs:=bs) (hdct:=hdct) (sn:=sn) (sub:=sub) (ab:=ab) (col:=col) (dd:=dd) (k0:=k0) (k1:=k1) (k2:=k2) (k3:=k3) (k5:=k5) PySem.F.excBase_ValueError (TL.hasType hb) (I.ok.hd hc) (by rw [he];show (false || (backTo cpos (starEach es X.env)).any (·.1))=false;rw [hpl];rfl) hni (ld_glob I hg hm ⟨rfl,?_⟩ hd);have h2:=ha cpos pins s σ H _ I h;rw [he] at h2 ⊢;refine Calls.evalArgs_plain (thn h2 fun us s2 hz=>?_);obtain ⟨vs,H2,I2,r2,hl,hW⟩:=hz;exact ⟨rfl,by rw [← r2.length];exact hl,I2.bk _ _ hO,hN.keeps I2.bk,TL.keeps I2.bk,fun h' a hx=>thr pins σ H2 s2 h' a us I2 hx hW⟩
noncomputable abbrev Cx.hand (X:Cx) (v:Value):Cx:={ X with A:=X.A.mark (some v),calm:=false }
variable {pins:List (Addr×Obj)}{σ:St}{H H1 H2:Hp}{s s1 s':Shared}{v:Value}{a:Addr}{B h₁:Heap}{D:Ends}{b₀:Stmt}{suite:List Stmt}{ts:TS}{rest:List ExceptHandler}
theorem Inv.hand (I:Inv X pins σ H s) (v:Value):Inv (X.hand v) pins σ H s :=
 ⟨⟨I.ok.mod,I.ok.kind,I.ok.glob,I.ok.blt,I.ok.above,I.ok.inj,I.ok.has,I.ok.cab,fun z=>(by cases z),I.ok.frames,I.ok.stk,I.ok.exf,I.ok.bs,I.ok.bsz,I.ok.noex,I.ok.exfs,I.ok.funs,I.ok.frf⟩,
  I.os,I.bare,I.base,I.loc,I.cell,I.free,I.freeC,I.pin,I.hok,I.len⟩
theorem Inv.unhand (ok:X.Ok) (I:Inv (X.hand v) pins σ H s):Inv X pins σ H s:=⟨ok,I.os,I.bare,I.base,I.loc,I.cell,I.free,I.freeC,I.pin,I.hok,I.len⟩
end
end L2
namespace DL
open PySem PySem.Spec PyProof.Rows L2
noncomputable abbrev Rn:=List D→MH→Option (Str×MH)
noncomputable abbrev RM:=Loc→MH→Option (Str×MH)
noncomputable def rBad:RM:=fun _ _=>none
noncomputable def rRaise (c:Str) (ma:DM (List D)):RM:=fun loc mh=>match ma loc mh with
 | some (ds,h)=>if ds.length < 1000 then some (c,h) else none
 | none=>none
noncomputable def rSeq (m:SM) (r:RM):RM:=fun loc mh=>match m loc mh with
 | some (.nx,l,h)=>r l h
 | _=>none
noncomputable def rOr (r1:RM) (m:SM) (r:RM):RM:=fun loc mh=>match r1 loc mh with
 | some z=>some z
 | none=>rSeq m r loc mh
noncomputable def rIf (t:DM Bool) (ra rb:RM):RM:=fun loc mh=>match t loc mh with
 | some (k,h)=>if k=true then ra loc h else rb loc h
 | none=>none
noncomputable def callOf:Expr→Option (Str×List Expr)
 | .Call g as kw _=>if kw.isEmpty then (match g with | .Name c _=>some (c,as) | _=>none) else none
 | _=>none
theorem callOf_some {e:Expr}{c:Str}{as:List Expr}(h:callOf e=some (c,as)):∃ p1 p2,e=.Call (.Name c p1) as [] p2:=by
 cases e with
 | Call g xs kw p =>
  cases kw with
  | cons _ _=>cases h
  | nil =>
   cases g with
   | Name d q=>cases h;exact ⟨_,_,rfl⟩
   | _=>cases h
 | _=>cases h
noncomputable def rzOf:Stmt→Option (Str×List Expr)
 | .Raise x y _=>if y.isNone then x.bind callOf else none
 | _=>none
theorem rzOf_some {s:Stmt}{c:Str}{as:List Expr}(h:rzOf s=some (c,as)):∃ p1 p2 p3,s=.Raise (some (.Call (.Name c p1) as [] p2)) none p3:=by
 cases s with
 | Raise x y p =>
  cases y with
  | some _=>cases h
  | none =>
   cases x with
   | none=>cases h
   | some e =>
    obtain ⟨p1,p2,rfl⟩:=callOf_some (show callOf e=some (c,as) from h);exact ⟨_,_,_,rfl⟩
 | _=>cases h
noncomputable def iRc (n:Nat) (R:SC→List Stmt→RM) (G:Gb) (sc:SC) (s:Stmt) (r:List Stmt):RM:=match s with
 | .If c a b _=>rIf (iT G n sc c) (rOr (R sc a) (iSs G n sc a) (R sc r)) (rOr (R sc b) (iSs G n sc b) (R sc r))
 | s=>rSeq (iS G n sc s) (R sc r)
noncomputable def iRb (n:Nat) (R:SC→List Stmt→RM) (G:Gb) (xcl:Str→Bool) (sc:SC) (s:Stmt) (r:List Stmt):RM:=match rzOf s with
 | some (c,as)=>(match as with
  | []=>rBad
  | a::es=>if xcl c&&glB sc.scope c&&!(c == "__debug__")&&!isStar a&&es.all (fun e=>!isStar e) then rRaise c (iA G n sc (a::es)) else rBad)
 | none=>iRc n R G sc s r
noncomputable def iR (G:Gb) (xcl:Str→Bool):Nat→SC→List Stmt→RM
 | 0,_,_=>rBad
 | n+1,sc,ss=>match ss with
  | []=>rBad
  | s::r=>iRb n (iR G xcl n) G xcl sc s r
termination_by structural n=>n
noncomputable def tR (K:PySem.W.Frag) (W:Str→Hp→Prop) (m:RM):TS:=fun _ σ H=>∃ loc mh ρ c mh',m loc mh=some (c,mh')∧RL K H ρ loc σ∧RS K H ρ mh∧∀ H' ρ',Ev K H ρ H' ρ'→RS K H' ρ' mh'→W c H'
noncomputable def tAx (K:PySem.W.Frag) (m:DM (List D)):TA:=fun σ H Q=>∃ loc mh,tDA K loc mh (m loc mh) σ H Q
theorem DA.x {X:Cx}{es:List Expr}{m:DM (List D)}(h:DA X es m):PA X es (tAx X.K m):=fun pos pins s σ H Q I z=>by
 obtain ⟨loc,mh,q⟩:=z;exact h loc mh pos pins s σ H Q I q
section
variable {X:Cx}{st:Stmt}{sts:List Stmt}{m:SM}{r r1:RM}{W:Str→Hp→Prop}
theorem tR_bad:PSs X sts (tR X.K W rBad):=fun _ _ _ _ _ _ h=>by
 obtain ⟨_,_,_,_,_,e,_⟩:=h;cases e
theorem tR_seq (h1:PS X st (tS X.K m)) (h2:PSs X sts (tR X.K W r)):PSs X (st::sts) (tR X.K W (rSeq m r)):=by
 refine PSs_imp (pss_cons h1 h2) ?_;rintro N σ H ⟨loc,mh,ρ,c,mh',q,rl,rs,co⟩;unfold rSeq at q;split at q
 ·rename_i l h e1;exact ⟨loc,mh,ρ,.nx,l,h,e1,rl,rs,fun H1 ρ1 σ1 ev1 rs1 rl1=>⟨l,h,ρ1,c,mh',q,rl1,rs1,fun H2 ρ2 ev2 rs2=>co H2 ρ2 (ev1.trans ev2) rs2⟩⟩
 ·cases q
theorem tR_if {t:DM Bool}{c:Expr}{a b:List Stmt}{pos:Pos}{ra rb:RM}{sa sb:SM}(hc:PT X c (tTx X.K t)) (ha:PSs X a (tR X.K W ra)) (sa':PSs X a (tS X.K sa)) (hb:PSs X b (tR X.K W rb)) (sb':PSs X b (tS X.K sb)) (h2:PSs X sts (tR X.K W r)) :
  PSs X (.If c a b pos::sts) (tR X.K W (rIf t (rOr ra sa r) (rOr rb sb r))):=by
 have or:∀ {a:List Stmt} {t1 t2:TS},PSs X a t1→PSs X a t2→PSs X a (fun D σ H=>t1 D σ H∨t2 D σ H):=fun h1 h2 pins s σ H D I q=>q.elim (h1 pins s σ H D I) (h2 pins s σ H D I)
 refine PSs_imp (pss_cons (ps_if hc (or ha sa') (or hb sb')) h2) ?_;rintro N σ H ⟨loc,mh,ρ,c,mh',q,rl,rs,co⟩;unfold rIf at q;split at q
 ·rename_i k h ek;refine ⟨loc,mh,ρ,k,h,ek,rl,rs,fun H1 ρ1 e1 rs1=>?_⟩;have go:∀ {r2:RM} {s2:SM},rOr r2 s2 r loc h=some (c,mh')→tR X.K W r2 { N with nx:=tR X.K W r N } σ H1∨tS X.K s2 { N with nx:=tR X.K W r N } σ H1:=fun {r2 s2} q=>by
   unfold rOr at q;split at q
   ·rename_i z ez;cases q;exact .inl ⟨loc,h,ρ1,c,mh',ez,rl.mono e1,rs1,fun H2 ρ2 ev2 rs2=>co H2 ρ2 (e1.trans ev2) rs2⟩
   ·unfold rSeq at q;split at q
    ·rename_i l h' e2;exact .inr ⟨loc,h,ρ1,.nx,l,h',e2,rl.mono e1,rs1,fun H2 ρ2 σ2 ev2 rs2 rl2=>⟨l,h',ρ2,c,mh',q,rl2,rs2,fun H3 ρ3 ev3 rs3=>co H3 ρ3 (e1.trans (ev2.trans ev3)) rs3⟩⟩
    ·cases q
  cases k with
  | true=>exact iteT (go (by rw [if_pos rfl] at q;exact q))
  | false=>exact iteF (go (by rw [if_neg Bool.false_ne_true] at q;exact q))
 ·cases q
end
noncomputable def Throws (X:Cx) (xcl:Str→Bool) (W:Str→Hp→Prop):Prop:=∀ c,xcl c=true→∃ C,X.mg c=some (.ref C)∧PySem.W.excIn X.K C bmV "ValueError.__new__"=true ∧
 ∀ (pins:List (Addr×Obj)) (σ:St) (H:Hp) (s:Shared) (h':Heap) (a:Addr) (vs:List Value),Inv X pins σ H s→Heap.MadeExcOf s.heap h' a (.ref C) vs→W c H→X.xe (.ref a) { s with heap:=h' }
theorem sndR (G:Gb) (xcl:Str→Bool) {X:Cx}{k:Nat}{sc:SC}{W:Str→Hp→Prop}(hc:X.calm=true) (O:XOk X.nox k G sc) (T:Throws X xcl W) (n:Nat):∀ ss,PSs X ss (tR X.K W (iR G xcl n sc ss)):=by
 induction n with
 | zero=>exact fun _=>tR_bad
 | succ n ih =>
  intro ss;cases ss with
  | nil=>exact tR_bad
  | cons s r =>
   show PSs X (s::r) (tR X.K W (iRb n (iR G xcl n) G xcl sc s r));have seq:PSs X (s::r) (tR X.K W (rSeq (iS G n sc s) (iR G xcl n sc r))):=tR_seq (PS.nox ((sndS G n).1 O s)) (ih r);unfold iRb;cases hz:rzOf s with
   | some z =>
    obtain ⟨c,as⟩:=z;obtain ⟨np,cp,pos,rfl⟩:=rzOf_some hz;dsimp only;cases as with
    | nil=>exact tR_bad
    | cons a es =>
     dsimp only
     by_cases hb:(xcl c&&glB sc.scope c&&!(c == "__debug__")&&!isStar a&&es.all (fun e=>!isStar e))=true
     ·rw [if_pos hb];rw [Bool.and_eq_true,Bool.and_eq_true,Bool.and_eq_true,Bool.and_eq_true] at hb;obtain ⟨⟨⟨⟨h1,h2⟩,h3⟩,h4⟩,h5⟩:=hb;obtain ⟨C,m1,m2,m3⟩:=T c h1;have ha:PA X (a::es) (tAx X.K (iA G n sc (a::es))):=PA.nox (DA.x ((snd G n).a O (a::es)));have hr:=ps_raise (np:=np) (cpos:=cp) (pos:=pos) (W:=W c) hc m2 (show Gl X c from O.gl h2) m1 ha m3 (by simpa using h3) (star1 (by simpa using h4)) (starAny h5);refine PSs_imp (pss_cons hr (ih r)) ?_;rintro N σ H ⟨loc,mh,ρ,c',mh',q,rl,rs,co⟩;unfold rRaise at q;cases e:iA G n sc (a::es) loc mh with
      | none=>rw [e] at q;cases q
      | some z =>
       obtain ⟨ds,h⟩:=z;rw [e] at q
       by_cases hl:ds.length < 1000
       ·have q:(if ds.length < 1000 then some (c,h) else none)=some (c',mh'):=q;rw [if_pos hl] at q;cases q;exact ⟨loc,mh,ρ,ds,_,e,rl,rs,fun H1 ρ1 vs e1 rs1 r1=>⟨by rw [← r1.length];exact Nat.le_trans (Nat.le_of_lt hl) (by decide),co H1 ρ1 e1 rs1⟩⟩
       ·have q:(if ds.length < 1000 then some (c,h) else none)=some (c',mh'):=q;rw [if_neg hl] at q;cases q
     ·rw [if_neg hb];exact tR_bad
   | none =>
    show PSs X (s::r) (tR X.K W (iRc n (iR G xcl n) G sc s r));cases s with
    | If c a b pos=>exact tR_if (PT.nox (DT.x ((snd G n).t O c))) (ih a) (PSs.nox ((sndS G n).2 O a)) (ih b) (PSs.nox ((sndS G n).2 O b)) (ih r)
    | _=>exact seq
noncomputable def runR (G:Gb) (xcl:Str→Bool) (n:Nat) (f:FnI):Rn:=fun ds mh=>if ds.length=f.ps.length then iR G xcl n { N:=f.N,scope:=f.scope,own:=fun _=>true } f.body (ds.map some++List.replicate (f.N.length - ds.length) none) mh else none
noncomputable def rRs (K:PySem.W.Frag) (r:Rn) (vs:List V) (H:Hp) (W:Str→Hp→Prop):Prop:=∃ ρ mh ds c mh',r ds mh=some (c,mh')∧RS K H ρ mh∧RDs K H ρ ds vs∧∀ H' ρ',Ev K H ρ H' ρ'→RS K H' ρ' mh'→W c H'
noncomputable def spR (K:PySem.W.Frag) (mg:Str→Option Value) (n:Nat) (f:Fn) (r:Rn):Sp:=fun vs H Q E=>vs.length=n∧(rDs K f vs H Q∨rRs K r vs H fun c H'=>∃ C,mg c=some (.ref C)∧E (.ref C) none H')
noncomputable def XcOk (K:PySem.W.Frag) (mg:Str→Option Value) (xcl:Str→Bool):Prop:=∀ c,xcl c=true→∃ C,mg c=some (.ref C)∧PySem.W.excIn K C bmV "ValueError.__new__"=true
section
variable {P:Program}{w:World}{K:PySem.W.Frag}{mg:Str→Option Value}{base:Heap}{k:Nat}{G:Gb}{xcl:Str→Bool}{x qual:Str}{st:Stmt}{f:Addr}{fd:FuncData}{I:FnI}
theorem fn_okR (g:GOk P w K mg base k G) (xc:XcOk K mg xcl) (F:Fun K x qual st f fd) (S:FnScope I.N I.ps (defScope st)) (hs:I.scope=defScope st) (hb:I.body=defBody st) (n:Nat) :
  FnOk P w K mg base (CXe P w) (k+3) f fd I.ps (spR K mg I.ps.length (runF G n I) (runR G xcl n I)):=by
 obtain ⟨oc,od,kV,doc,pm,an,cdv,ct,osl,rfl,lk,hcd⟩:=F.ex;refine fn_of lk hcd S (fun vs H Q E h=>h.1) fun A outer s H vs Q E hr h=>?_
 have O:XOk (cxOf (CXe P w) P w K mg base I.N qual (defScope st) f cdv A outer s H E).nox k G { N:=I.N,scope:=I.scope,own:=fun _=>true }:=⟨rfl,S.nd,hs.symm,fun _ _ _=>.inl rfl,rfl,rfl,hr,g⟩;obtain ⟨hl,h | h⟩:=h
 ·obtain ⟨ρ,mh,ds,d,mh',q,rs,r,co⟩:=h;refine ⟨_,PSs.nox ((sndS G n).2 O (defBody st)),?_⟩;unfold runF at q;split at q
  ·split at q
   ·rename_i d' loc' m' e;cases q;exact ⟨_,mh,ρ,.rt d,loc',mh',by rw [← hb];exact e,start_rl r,rs,co⟩
   ·rename_i loc' m' e;cases q;exact ⟨_,mh,ρ,.nx,loc',mh',by rw [← hb];exact e,start_rl r,rs,fun H' ρ' σ' e' rs' _=>co H' ρ' _ e' rs' .non⟩
   ·cases q
  ·cases q
 ·obtain ⟨ρ,mh,ds,c,mh',q,rs,r,co⟩:=h;refine ⟨_,sndR G xcl (W:=fun c H'=>∃ C,mg c=some (.ref C)∧E (.ref C) none H') rfl O (fun c hc=>?_) n (defBody st),?_⟩
  ·obtain ⟨C,m1,m2⟩:=xc c hc;refine ⟨C,m1,m2,fun pins σ H s h' a vs J hx z=>?_⟩;obtain ⟨C',z1,z2⟩:=z;rw [m1] at z1;cases z1;exact xe_raise J hx z2
  ·unfold runR at q;split at q
   ·exact ⟨_,mh,ρ,c,mh',by rw [← hb];exact q,start_rl r,rs,co⟩
   ·cases q
theorem runR_len {n:Nat}{ds:List D}{mh:MH}{r:Str×MH}(h:runR G xcl n I ds mh=some r):ds.length=I.ps.length:=by
 unfold runR at h;split at h
 ·assumption
 ·cases h
end
noncomputable abbrev Ex:=Str→Option (List Str×Fn×Rn)
noncomputable def isTry:Stmt→Bool
 | .Try ..=>true
 | _=>false
noncomputable def bodyOf:Stmt→List Stmt
 | .Try b _ _ _ _=>b
 | _=>[]
noncomputable def exprOf:Stmt→Option (Str×List Expr)
 | .Expr e _=>callOf e
 | _=>none
noncomputable def tryArgs (s:Stmt):List Expr:=match (bodyOf s).head?.bind exprOf with
 | some (_,as)=>as
 | none=>[]
structure ExOk (P:Program) (w:World) (K:PySem.W.Frag) (mg:Str→Option Value) (base:Heap) (k:Nat) (ex:Ex):Prop where
 fn:∀ x ps f r,ex x=some (ps,f,r)→∃ fa fd,mg x=some (.ref fa)∧PySem.W.keepIn K (.ref fa)=true∧Binds K fd ps []∧FnOk P w K mg base (CXe P w) (k+2) fa fd ps (spR K mg ps.length f r)∧(∀ ds mh z,f ds mh=some z→ds.length=ps.length)∧∀ ds mh z,r ds mh=some z→ds.length=ps.length
noncomputable def exOf (T:Tb) (xcl:Str→Bool) (G:Gb):Ex:=fun x=>match T.tb x with
 | some I=>some (I.ps,runF G fuel I,runR G xcl fuel I)
 | none=>none
end DL
namespace L2
open PySem PySem.Spec PyProof.Rows
theorem match_above {M:Model}{A:Around}{E:Value→Shared→Prop}{nm q nm' q':Str}{C N L N':Addr}{bs bm bs' bm':List Value}{hdct hdct':Bool}{sn sn':List Str}{sub sub':List Value}{ab ab':Bool}{col col':Option Bool}{dd dd':Option Addr}{k0 k1 k2 k3 k5 k0' k1' k2' k3' k5':Option Value}{newId newId':String}
  {h:Heap} {g:Array GenState} {d:Drawn} {t:Nat} {os:OsState} {e:Addr} {oe:Obj} {b:Bool} {Q:Bool→Shared→Prop}
  (hC:h.get? C=some (excClassObj nm q C N bs bm hdct sn sub ab col dd k0 k1 k2 k3 k5 newId)) (hL:h.get? L=some (excClassObj nm' q' L N' bs' bm' hdct' sn' sub' ab' col' dd' k0' k1' k2' k3' k5' newId')) (he:h.get? e=some oe) (hcls:oe.cls=.ref C)
  (hbase:bm'.contains (.type "BaseException")=true) (hm:(Value.ref C::bm).contains (.ref L)=b) (hq:Q b ⟨h,g,d,t,os⟩):wpAny M A (excMatches (.ref e) (.ref L)) Q E ⟨h,g,d,t,os⟩:=by
 have hcB:(Value.ref L::bm').contains (.type "BaseException")=true:=by rw [List.contains_cons,hbase,Bool.or_true]
 have f:=tc_notTuple;unfold excMatches;repeat (first | (with_reducible refine wpAny_loadPart_at he ?_;rw [hcls]) | with_reducible refine wpAny_loadPart_at hL ?_ | (with_reducible refine wpAny_isSubtype_exc hL ?_;rw [hcB]) | (with_reducible refine wpAny_isSubtype_exc hC ?_;rw [hm]) | wp_step)
 cases b <;> (wp_walk;exact hq)
structure LkC (h:Heap) (C:Addr):Prop where
 ga:∀ {M:Model} {A:Around} {E:Value→Shared→Prop} {g:Array GenState} {d:Drawn} {t:Nat} {os:OsState} {Q:Option Value→Shared→Prop},Q (some (.builtin "BaseException.__getattribute__")) ⟨h,g,d,t,os⟩→wpAny M A (typeLookup (.ref C) "__getattribute__") Q E ⟨h,g,d,t,os⟩
 na:∀ {M:Model} {A:Around} {E:Value→Shared→Prop} {g:Array GenState} {d:Drawn} {t:Nat} {os:OsState} {Q:Option Value→Shared→Prop},Q none ⟨h,g,d,t,os⟩→wpAny M A (typeLookup (.ref C) "__getattr__") Q E ⟨h,g,d,t,os⟩
 cl:∀ {M:Model} {A:Around} {E:Value→Shared→Prop} {g:Array GenState} {d:Drawn} {t:Nat} {os:OsState} {Q:Option Value→Shared→Prop},Q (some (.builtin "object.__class__")) ⟨h,g,d,t,os⟩→wpAny M A (typeLookup (.ref C) "__class__") Q E ⟨h,g,d,t,os⟩
section
variable {prog:Program}{w:World}{A:Around}{E:Value→Shared→Prop}{h:Heap}{g:Array GenState}{d:Drawn}{t:Nat}{os:OsState}{a:Addr}{o:Obj}{nm q:Str}{C N:Addr}{bs bm:List Value}{hdct:Bool}{sn:List Str}{sub:List Value}{ab:Bool}{col:Option Bool}{dd:Option Addr}{k0 k1 k2 k3 k5:Option Value}{newId:String}
theorem xc_get {R:Result→Shared→Prop}(kC:h.get? C=some (excClassObj nm q C N bs bm hdct sn sub ab col dd k0 k1 k2 k3 k5 newId)) (ho:bm.contains (.type "object")=true) (hx:h.get? a=some o) (hc:o.cls=.ref C) (hq:R (.ok (.ret (.ref C))) ⟨h,g,d,t,os⟩) :
  codeAny (model prog w) A (.call (.builtin "getset_descriptor.__get__") ⟨[.builtin "object.__class__",.ref a,.ref C],[]⟩) R ⟨h,g,d,t,os⟩:=by
 have ty:Shared.TypeIs ⟨h,g,d,t,os⟩ (.builtin "object.__class__") "getset_descriptor":=F.typeOf_object_class
 have own : (Value.ref C :: bm).contains (.type (".".intercalate ("object.__class__".cutAt '.').dropLast)) = true := by
  rw [PySem.F.owner_object_class,List.contains_cons,ho];exact Bool.or_true _
 refine codeAny_call_builtin F.slot_gs_get.plain F.entry_gs_get (F.slot_gs_get.check _ _ _ _ _ _ _ _ ty (F.args_gs_get _ _ _) ?_);repeat (any_goals (first | assumption | (with_reducible refine wpAny_loadPart_at hx ?_;rw [hc]) | (with_reducible refine wpAny_isSubtype_exc kC ?_;rw [own]) | wp_step))
 refine ⟨Code.quiet_builtin _ (by decide +kernel),codeAny_builtin F.entry_object_class ?_⟩;repeat (any_goals (first | assumption | (with_reducible refine wpAny_loadPart_at hx ?_;rw [hc]) | wp_step))
theorem xc_entry {tk:Tok}{Q:Fin→Shared→Prop}(K:LkC h C) (kC:h.get? C=some (excClassObj nm q C N bs bm hdct sn sub ab col dd k0 k1 k2 k3 k5 newId)) (ho:bm.contains (.type "object")=true) (hx:h.get? a=some o) (hc:o.cls=.ref C) (hq:Q (.done (.ret (.ref C))) ⟨h,g,d,t,os⟩) :
  wpAny (model prog w) A (Builtin.«object.__getattribute__» ⟨[.ref a,.str "__class__" tk],[]⟩) Q E ⟨h,g,d,t,os⟩:=by
 have ty:Shared.TypeIs ⟨h,g,d,t,os⟩ (.builtin "object.__class__") "getset_descriptor":=F.typeOf_object_class
 have y1:=F.typeOf_object_class;have y2:=F.slot_gs_get.lookup;have y3:=F.slot_gs_set.lookup;repeat (any_goals (first | assumption | (with_reducible refine wpAny_loadPart_at hx ?_;rw [hc]) | with_reducible refine K.cl ?_ | wp_step))
 refine xc_get kC ho hx hc ?_;repeat (any_goals (first | assumption | wp_step))
theorem xc_check {M:Model}{nv:Value}{Q:Unit→Shared→Prop}(kC:h.get? C=some (excClassObj nm q C N bs bm hdct sn sub ab col dd k0 k1 k2 k3 k5 newId)) (hB:bm.contains (.type "BaseException")=true) (hx:h.get? a=some o) (hc:o.cls=.ref C) (hq:Q () ⟨h,g,d,t,os⟩) :
  wpAny M A (checkBuiltinCall "BaseException.__getattribute__" ⟨[.ref a,nv],[]⟩) Q E ⟨h,g,d,t,os⟩:=by
 have y1:builtinKind "BaseException.__getattribute__"=some .slot:=by decide +kernel
 have y2:splitId "BaseException.__getattribute__"=some ("BaseException", "__getattribute__"):=by decide +kernel
 have own:(Value.ref C::bm).contains (.type "BaseException")=true:=by rw [List.contains_cons,hB];exact Bool.or_true _
 have y3:=F.args_bexc_ga (.ref a) nv;simp only [checkBuiltinCall,y1,y2];refine wpAny_bind ?_;unfold isInstance;repeat (first | (with_reducible refine wpAny_loadPart_at hx ?_;rw [hc]) | (with_reducible refine wpAny_isSubtype_exc kC ?_;rw [own]) | wp_step)
 exact hq
theorem xc_by {tk:Tok}{Q:Value→Shared→Prop}(K:LkC h C) (kC:h.get? C=some (excClassObj nm q C N bs bm hdct sn sub ab col dd k0 k1 k2 k3 k5 newId)) (ho:bm.contains (.type "object")=true) (hB:bm.contains (.type "BaseException")=true) (hx:h.get? a=some o) (hc:o.cls=.ref C) (hq:Q (.ref C) ⟨h,g,d,t,os⟩) :
  wpAny (model prog w) A (getAttrBy (.ref a) (.str "__class__" tk) false) Q E ⟨h,g,d,t,os⟩:=by
 have z1:=PySem.F.excAttr_ValueError.ga.bind (.ref a)
 have z2:(Value.builtin "BaseException.__getattribute__"==Value.builtin "object.__getattribute__")=false:=by decide +kernel
 have z3:(onTheHeap (Value.ref C)&&Value.builtin "BaseException.__getattribute__"==Value.builtin "object.__getattribute__")=false:=by rw [z2];rfl
 repeat (any_goals (first | assumption | (with_reducible refine wpAny_loadPart_at hx ?_;rw [hc]) | with_reducible refine K.ga ?_ | with_reducible refine K.na ?_ | wp_step))
 refine codeAny_call_builtin PySem.F.excAttr_ValueError.ga.plain F.entry_bexc_ga (xc_check kC hB hx hc (xc_entry K kC ho hx hc ?_));repeat (any_goals (first | assumption | wp_step))
theorem xc_attr {Q:Option Value→Shared→Prop}(K:LkC h C) (kC:h.get? C=some (excClassObj nm q C N bs bm hdct sn sub ab col dd k0 k1 k2 k3 k5 newId)) (ho:bm.contains (.type "object")=true) (hB:bm.contains (.type "BaseException")=true) (hx:h.get? a=some o) (hc:o.cls=.ref C) (hq:Q (some (.ref C)) ⟨h,g,d,t+1,os⟩) :
  wpAny (model prog w) A (getAttr? (.ref a) "__class__") Q E ⟨h,g,d,t,os⟩:=by
 unfold getAttr? getAttrBy?;repeat (any_goals (first | assumption | with_reducible apply xc_by K kC ho hB hx hc | wp_step))
end
noncomputable def tailN (K:PySem.W.Frag):List Value→Bool
 | []=>bmV==[]
 | v::r=>(v::r)==bmV || match v with
  | .ref A=>(match K.lookup A with
   | some ⟨_,_,.cls cd,_⟩=>PySem.W.nsOkIn K cd.ns&&PySem.W.nsIn K cd.ns "__getattribute__"==some none&&PySem.W.nsIn K cd.ns "__getattr__"==some none&&PySem.W.nsIn K cd.ns "__class__"==some none&&tailN K r
   | _=>false)
  | _=>false
theorem along_N {K:PySem.W.Frag}{h:Heap}(X:K.In h) {n:Str}(hn:n = "__getattribute__"∨n = "__getattr__"∨n = "__class__") {y:Option Value}(hb:lookupAlong bmV n=pure y) {M:Model}{A:Around}{E:Value→Shared→Prop}{g:Array GenState}{d:Drawn}{t:Nat}{os:OsState}{Q:Option Value→Shared→Prop}(hq:Q y ⟨h,g,d,t,os⟩) :
  ∀ {l:List Value},tailN K l=true→wpAny M A (lookupAlong l n) Q E ⟨h,g,d,t,os⟩
 | [],e=>by rw [← show bmV=[] from beq_iff_eq.mp e,hb];exact wpAny_pure hq
 | v::r,e=>by
  unfold tailN at e;rcases Bool.or_eq_true_iff.mp e with z | z
  ·rw [beq_iff_eq.mp z,hb];exact wpAny_pure hq
  ·split at z
   ·split at z
    ·rename_i cd _ ho;simp only [Bool.and_eq_true,beq_iff_eq] at z;obtain ⟨⟨⟨⟨z1,z2⟩,z3⟩,z4⟩,z5⟩:=z;rw [lookupAlong_cons];refine wpAny_bind (wpAny_classOwn_cls (X _ _ ho) (.of_isNs (PySem.W.isNs_of_in X z1)) ?_);have e0:h.nsMap cd.ns n=none:=by
      rcases hn with rfl | rfl | rfl
      ·exact PySem.W.nsMap_none_of_in X z1 z2
      ·exact PySem.W.nsMap_none_of_in X z1 z3
      ·exact PySem.W.nsMap_none_of_in X z1 z4
     rw [e0];exact along_N X hn hb hq z5
    ·cases z
   ·cases z
theorem LkC.of {K:PySem.W.Frag}{h:Heap}(X:K.In h) {nm q:Str}{C N:Addr}{bs bm:List Value}{hdct:Bool}{sn:List Str}{sub:List Value}{ab:Bool}{col:Option Bool}{dd:Option Addr}{k0 k1 k2 k3 k5:Option Value}{newId:String}
  (kC:h.get? C=some (excClassObj nm q C N bs bm hdct sn sub ab col dd k0 k1 k2 k3 k5 newId)) (z:tailN K (.ref C::bm)=true):LkC h C:=by
 have b1:lookupAlong bmV "__getattribute__"=pure (some (.builtin "BaseException.__getattribute__")):=by
  have:=PySem.F.excAttr_ValueError.ga.lookup
  rw [typeLookup_eq,show mroOf (.type "ValueError")=pure bmV from PySem.F.attrBase_ValueError.mro] at this;exact this
 have b2:lookupAlong bmV "__getattr__"=pure none:=by
  have:=PySem.F.attrBase_ValueError.noGetattr
  rw [typeLookup_eq,show mroOf (.type "ValueError")=pure bmV from PySem.F.attrBase_ValueError.mro] at this;exact this
 have b3:lookupAlong bmV "__class__"=pure (some (.builtin "object.__class__")):=by
  have:typeLookup (.type "ValueError") "__class__"=pure (some (.builtin "object.__class__")):=by rw [typeLookup_type,builtinLookup_eq_fast];kernel_rfl
  rw [typeLookup_eq,show mroOf (.type "ValueError")=pure bmV from PySem.F.attrBase_ValueError.mro] at this;exact this
 refine ⟨fun hq=>?_,fun hq=>?_,fun hq=>?_⟩
 ·rw [typeLookup_eq];exact wpAny_bind (wpAny_mroOf_exc kC (along_N X (.inl rfl) b1 hq z))
 ·rw [typeLookup_eq];exact wpAny_bind (wpAny_mroOf_exc kC (along_N X (.inr (.inl rfl)) b2 hq z))
 ·rw [typeLookup_eq];exact wpAny_bind (wpAny_mroOf_exc kC (along_N X (.inr (.inr rfl)) b3 hq z))
noncomputable def excN (K:PySem.W.Frag) (C:Addr):Bool:=match K.lookup C with
 | some ⟨_,_,.cls cd,_⟩=>tailN K cd.mro
 | _=>false
theorem kitx_exc {K:PySem.W.Frag}{a C:Addr}(hC:PySem.W.excIn K C bmV "ValueError.__new__"=true) (hN:excN K C=true):PySem.W.KitX K (.ref a) (.ref C) (fun h=>∃ o,h.get? a=some o∧o.cls=.ref C):=by
 have get:∀ h,K.In h→∃ bm N nm q bs hdct sn sub ab col dd k0 k1 k2 k3 k5,h.get? C=some (excClassObj nm q C N bs bm hdct sn sub ab col dd k0 k1 k2 k3 k5 "ValueError.__new__")∧OwnTail h bmV bm∧tailN K (.ref C::bm)=true:=fun h X=>by
  obtain ⟨bm,N,nm,q,bs,hdct,sn,sub,ab,col,dd,k0,k1,k2,k3,k5,mN,kC,_,_,TL⟩:=(exc_own (mg:=fun _=>some (.ref C)) (x := "") X rfl hC).obj;refine ⟨bm,N,nm,q,bs,hdct,sn,sub,ab,col,dd,k0,k1,k2,k3,k5,kC,TL,?_⟩;have z:=hN;unfold excN at z;split at z
  ·rename_i cd _ lk;have e:=(X _ _ lk).symm.trans kC;unfold excClassObj at e;cases e;exact z
  ·cases z
 refine ⟨fun M h X p=>?_,fun M h X p=>?_,fun h tp dd its n sl X htp=>?_,fun {prog w A E Q s} X p k=>?_⟩
 ·obtain ⟨o,e1,e2⟩:=p;intro A' Q' E' s' kp q;rw [← e2] at q;obtain ⟨h9,g9,d9,t9,os9⟩:=s';exact wpAny_bind (wpAny_loadPart (kp _ _ e1) (wpAny_pure q))
 ·obtain ⟨bm,N,nm,q,bs,hdct,sn,sub,ab,col,dd,k0,k1,k2,k3,k5,kC,_,_⟩:=get h X;intro A' Q' E' s' kp q;unfold isType loadHead;exact wpAny_bind (wpAny_loadPart (kp _ _ kC) (wpAny_pure q))
 ·obtain ⟨bm,N,nm,q,bs,hdct,sn,sub,ab,col,dd2,k0,k1,k2,k3,k5,kC,_,_⟩:=get h X;refine Bool.eq_false_iff.mpr fun z=>?_
  cases Value.ref.inj (beq_iff_eq.mp z);have e:=htp.symm.trans kC;unfold excClassObj at e;have e2:=congrArg (fun o:Option Obj=>o.map (·.data)) e;simp at e2
 ·obtain ⟨bm,N,nm,q,bs,hdct,sn,sub,ab,col,dd,k0,k1,k2,k3,k5,kC,TL,z⟩:=get s.heap X;obtain ⟨o,e1,e2⟩:=p;obtain ⟨h,g,d,t,os⟩:=s;exact xc_attr (LkC.of X kC z) kC (TL.hasType (by decide +kernel)) (TL.hasType (by decide +kernel)) e1 e2 k
theorem ob_there {P:Program}{w:World}{H:Hp}{h:Heap}{a:Addr}{u:HO}(x:ObjOk P w H h a u):∃ o,h.get? a=some o:=by
 cases u with
 | lst _=>obtain ⟨_,_,_,_,e⟩:=x;exact ⟨_,e⟩
 | tup _=>obtain ⟨_,_,_,o,e,_⟩:=x;exact ⟨_,e⟩
 | dK _=>obtain ⟨_,_,_,_,o,_,_,e,_⟩:=x;exact ⟨_,e⟩
 | dT _=>obtain ⟨_,_,_,_,o,_,_,e,_⟩:=x;exact ⟨_,e⟩
 | set _ _=>obtain ⟨o,_,_,_,e,_⟩:=x;exact ⟨_,e⟩
 | ins _ _ _=>obtain ⟨_,_,_,e,_⟩:=x;exact ⟨_,e⟩
 | own _=>exact x
 | xd _=>obtain ⟨_,⟨_,_,_,e,_⟩,_⟩:=x;exact ⟨_,e⟩
 | rng _ _=>obtain ⟨_,_,_,e⟩:=x;exact ⟨_,e⟩
 | frz _ _=>obtain ⟨e,_⟩:=x;exact ⟨_,e⟩
 | tbl _=>exact ⟨_,x⟩
 | met _ _=>exact ⟨_,x⟩
 | ext _=>exact x.2.1
section
variable {X:Cx}{pins:List (Addr×Obj)}{σ:St}{H H1 H2:Hp}{s s1 s':Shared}{i:Nat}{n:Str}
theorem Inv.less (I:Inv X pins σ H s) (hN:X.N.Nodup) (hi:X.N[i]?=some n) {m:Str→Option Value}{v:Option Value}{h':Heap}{tk:Nat}(hn:s.heap.Ns X.env.locals m) (hn':h'.Ns X.env.locals (fun x=>if x=n then v else m x)) (hs:Heap.SameBut X.env.locals s.heap h'):Inv X pins (σ.set i none) H { s with heap:=h',toks:=tk }:=by
 obtain ⟨m0,hn0,hl⟩:=id I.loc;have cne:=I.cne;have away:∀ b o,X.s₀.heap.get? b=some o→b≠X.env.locals:=fun b o e=>Nat.ne_of_lt (Nat.lt_of_lt_of_le (Heap.lt_size e) I.ok.above)
 refine ⟨I.ok,I.os,I.bare,⟨fun b o e n hb hx=>(hs.2 b (away b o e)).trans (I.base.keep b o e n hb hx),fun b o e n hb hx=>?_,I.base.free,fun b o e hx=>?_,I.base.tups,I.base.frzs,I.base.tbls⟩,⟨_,hn',fun j y v' e1 e2 e3=>?_⟩,fun y c e=>?_,I.free,I.freeC,fun p hp=>?_,fun b ob e=>?_,by rw [List.length_set];exact I.len⟩
 ·obtain ⟨sl,e1⟩:=I.base.slot b o e n hb hx;exact ⟨sl,(hs.2 b (away b o e)).trans e1⟩
 ·obtain ⟨o',e1⟩:=I.base.there b o e hx;exact ⟨o',(hs.2 b (away b o e)).trans e1⟩
 ·have ne:i≠j:=fun z=>by
   subst z;rw [List.getElem?_set] at e2;simp only [if_true] at e2;split at e2 <;> cases e2
  rw [List.getElem?_set_ne ne] at e2;obtain ⟨u,r,q⟩:=hl j y v' e1 e2 e3;refine ⟨u,r,?_⟩;rcases q with ⟨k,e⟩ | ⟨k,c,e,z⟩
  ·have yn:y≠n:=fun z=>ne (nodup_ix hN hi (z ▸ e1))
   exact .inl ⟨k,by show (if y=n then v else m y)=_;rw [if_neg yn,← hn0.agree hn y];exact e⟩
  ·exact .inr ⟨k,c,e,z.sameBut hs (cne y c e)⟩
 ·obtain ⟨w',z⟩:=I.cell y c e;exact ⟨w',z.sameBut hs (cne y c e)⟩
 ·obtain ⟨e,n,ne,nf,d⟩:=I.pin p hp;exact ⟨(hs.2 p.1 ne).trans e,n,ne,nf,d⟩
 ·refine (I.hok b ob e).stay (fun c w' hc q=>(hs.2 c ?_).trans q) (fun _ q=>q) fun _ _ q=>q
  rintro rfl;rcases hc with rfl | hc
  ·rw [I.free] at e;cases e
  ·rw [I.free] at hc;cases hc
variable {a C L:Addr}{dx:Option Addr}{B h₁:Heap}{D:Ends}{b₀:Stmt}{suite:List Stmt}{rest:List ExceptHandler}{c:Str}{np hpos:Pos}
noncomputable def mroHas (K:PySem.W.Frag) (C L:Addr):Bool:=match K.lookup C with
 | some ⟨_,_,.cls cd,_⟩=>cd.mro.contains (.ref L)
 | _=>false
noncomputable def Ends.less (D:Ends) (i:Nat):Ends:={ nx:=fun σ H=>D.nx (σ.set i none) H,rt:=D.rt }
noncomputable def SuiteN (X:Cx) (i:Nat) (C:Addr) (dx:Option Addr) (ss:List Stmt) (t:TS):Prop:=∀ (pins:List (Addr×Obj)) (σ:St) (H2:Hp) (a:Addr) (ob:Obj) (s7:Shared) (D:Ends),Jx C dx ob→H2 a=none→Inv (X.hand (.ref a)) ((a,ob)::pins) (σ.set i (some (.ref a))) H2 s7→t D σ H2 →
 wpAny (model X.prog X.w) (X.A.mark (some (.ref a))) (execs ss X.env) (SP (X.hand (.ref a)) ((a,ob)::pins) (Ends.less D i)) (fun _ _=>False) s7
theorem caught_as (hxe:X.xe=fun _ _=>False) (hst:X.stack=X.env::X.outer) (hfr:X.env.frame=some X.env.locals) (I:Inv X pins σ H1 s1) (T:Thrown X.prog X.w X.stack H1 H2 s1 s' a C dx B h₁)
  (hC:PySem.W.excIn X.K C bmV "ValueError.__new__"=true) (hL:PySem.W.excIn X.K L bmV "ValueError.__new__"=true) (hup:mroHas X.K C L=true) (hg:Gl X c) (hm:X.mg c=some (.ref L)) (hd:(c==("__debug__":Str))=false)
  (hN:X.N.Nodup) (hi:X.N[i]?=some n) (hk:X.env.scope.names.lookup n=some .local) {t:TS} (hs:SuiteN X i C dx (b₀::suite) t) (q:t D σ H2) :
  wpAny (model X.prog X.w) X.A (noteFrame (.ref a) X.env) (fun _ s₂=>wpAny (model X.prog X.w) X.A (setFlight (.ref a) none) (fun _ s₃ =>
   wpAny (model X.prog X.w) X.A (handleBy (.ref a) X.env (.ExceptHandler (some (.Name c np)) (some n) (b₀::suite) hpos::rest)) (SP X pins D) X.xe s₃) X.xe s₂) X.xe s':=by
 have land:∀ h,(∀ b o,B.get? b=some o→h.get? b=some o)→h₁.UpToSlots h→Inv X pins σ H2 { s' with heap:=h }:=fun h st us=>by
  obtain ⟨un,hok⟩:=T.land I.stack I.stkFree st us;have J:=I.call (h':=h) (g':=s'.gens) (d':=s'.drawn) (t':=s'.toks) (ch:=[]) un hok T.bare (fun b z=>absurd z (by simp));have e:=T.os;obtain ⟨hh,g,d,tk,os'⟩:=s';cases (show os'=s1.os from e);exact J
 have fly:FlyJ (Jx C dx) .none B (X.env::X.outer) a s'.heap:=by rw [← hst];exact T.fly
 have nf:∀ b,H2 b≠none→b ∉ frs X.stack:=fun b q hb=>by
  obtain ⟨_,o',ho,_⟩:=I.stack.mem hb;exact q (T.un.free b o' ho (I.stkFree b hb) (by simp))
 have ha:H2 a=none:=by
  cases q:H2 a with
  | none=>rfl
  | some u =>
   obtain ⟨o,e⟩:=ob_there (T.hok a u q);have:=T.kp a o e (nf a (by rw [q];simp)) (.inr (by rw [q];simp));rw [fly.2.1] at this;cases this
 refine note_next_J (Jx.steady C dx) (by rw [← hst];exact I.ok.frames) hfr fly fun h4 f4 m4=>?_
 refine land_J (.inr ⟨_,f4⟩) fun h5 f5 m5=>?_
 have u5:=(T.sl.trans m4).trans m5;have I5:=(land h5 f5.1 u5).hand (.ref a);obtain ⟨ob,hob,hoc⟩:=f5.there
 obtain ⟨bmC,NC,nmC,qC,bsC,hdC,snC,subC,abC,colC,ddC,j0,j1,j2,j3,j5,mNC,kC,_,_,TC⟩:=(exc_own (mg:=fun _=>some (.ref C)) (x := "") I.ok.mod.kin rfl hC).obj;obtain ⟨bmL,NL,nmL,qL,bsL,hdL,snL,subL,abL,colL,ddL,l0,l1,l2,l3,l5,mNL,kL,_,_,TL⟩:=(exc_own I.ok.mod.kin hm hL).obj;have hmro:(Value.ref C::bmC).contains (.ref L)=true:=by
  have z:=hup;unfold mroHas at z;split at z
  ·rename_i cd _ lk;have e:=(I.ok.mod.kin _ _ lk).symm.trans kC;unfold excClassObj at e;cases e;exact z
  ·cases z
 refine wpAny_handleBy_cons (codeAny_handlers_test (ld_glob I5 hg hm ?_ hd)) (by intro z;cases z);refine match_above (I5.bk _ _ kC) (I5.bk _ _ kL) hob hoc.1 (TL.hasType (by decide +kernel)) hmro (codeAny_handlers_suite_as ?_);refine land_J (.inr ⟨_,f5⟩) fun h6 f6 m6=>?_
 have I6:=land h6 f6.1 (u5.trans m6);obtain ⟨_,_,f63,oe,vs,TT,oT,ts,he,jx,hdat,_⟩:=f6;have apart:∀ b∈frs (X.env::X.outer),b≠a:=fun b hb e=>by
  obtain ⟨_,o2,e2,nd⟩:=f63.mem hb;rw [e,he] at e2;cases e2;exact nd vs hdat
 have I7:Inv (X.hand (.ref a)) ((a,oe)::pins) σ H2 { s' with heap:=h6 }:=(I6.hand (.ref a)).pins_of fun p hp=>by
  rcases List.mem_cons.mp hp with rfl | hp
  ·refine ⟨he,ha,fun e=>apart X.env.locals ?_ e.symm,fun e=>apart a ?_ rfl,fun v z=>?_⟩
   ·unfold frs;rw [List.filterMap_cons,hfr];exact List.mem_cons_self
   ·unfold frs;rw [List.filterMap_cons,hfr];exact List.mem_cons_of_mem _ e
   ·have:oe.data=.cell v:=z;rw [hdat] at this;cases this
  ·exact I6.pin p (List.mem_append_right _ hp)
 refine store_ok (X:=X.hand (.ref a)) (M:=model X.prog X.w) I7 hN hi (.inl hk) (show RelV (.ref a) (.ref a) from rfl) (fun s8 I8=>?_) (.inr hk);refine wpAny_mono (hs pins σ H2 a oe s8 D jx ha I8 q) (fun f s9 z=>?_) fun e9 s9 z=>z.elim
 have back:∀ {σ9:St} {H9:Hp},Inv (X.hand (.ref a)) ((a,oe)::pins) σ9 H9 s9→∀ {Q:Unit→Shared→Prop} {E:Value→Shared→Prop} {p:Pos},(∀ s10,Inv X pins (σ9.set i none) H9 s10→Q () s10)→wpAny (model X.prog X.w) X.A (do bindName X.env n .none;unbindBehindTheSuite X.env n p) Q E s9:=fun {σ9 H9} I9 {Q E p} k=>by
  have J9:Inv X pins σ9 H9 s9:=(I9.unhand I.ok).pins_of fun p hp=>I9.pin p (List.mem_append_right _ (List.mem_cons_of_mem _ hp))
  obtain ⟨m9,n9,_⟩:=id J9.loc;exact wpAny_nameGoes_keeps (show X.env.scope.names.lookup n=some .local from hk) n9 (by rw [I.ok.kind];rfl) fun h' v hn' hs'=>k _ (J9.less hN hi n9 hn' hs')
 cases f with
 | next=>obtain ⟨σ9,H9,I9,q9⟩:=z;exact back I9 fun s10 I10=>⟨_,H9,I10,q9⟩
 | brk=>obtain ⟨_,_,_,q⟩:=z;exact q.elim
 | cont=>obtain ⟨_,_,_,q⟩:=z;exact q.elim
 | ret u=>obtain ⟨v,σ9,H9,I9,r9,q9⟩:=z;exact back I9 fun s10 I10=>⟨v,_,H9,I10,r9,q9⟩
end
section
variable {X:Cx}{i k:Nat}{fd:FuncData}{ps:List Str}{sp:Sp}{C L fa:Addr}{dx:Option Addr}{x c n:Str}{e:Expr}{es:List Expr}{ta:TA}{b₀:Stmt}{suite:List Stmt}{rest:List ExceptHandler}{np hpos apos cpos epos tpos:Pos}
noncomputable def tTryAs (sp:Sp) (ta:TA) (C:Addr) (t:TS):TS:=fun D σ H=>ta σ H fun vs H1=>sp vs H1 (fun _ H2=>D.nx σ H2) fun z dx H2=>z=.ref C∧dx=none∧t D σ H2
theorem ps_try_as (hxe:X.xe=fun _ _=>False) (hst:X.stack=X.env::X.outer) (hfr:X.env.frame=some X.env.locals)
  (F:FnOk X.prog X.w X.K X.mg X.base (CXe X.prog X.w) k fa fd ps sp) (hr:Room k X.A) (hg:Gl X x) (hm:X.mg x=some (.ref fa)) (hk:PySem.W.keepIn X.K (.ref fa)=true) (hb:Binds X.K fd ps []) (ha:PA X (e::es) ta)
  (hC:PySem.W.excIn X.K C bmV "ValueError.__new__"=true) (hL:PySem.W.excIn X.K L bmV "ValueError.__new__"=true) (hup:mroHas X.K C L=true) (hgc:Gl X c) (hmc:X.mg c=some (.ref L)) (hdc:(c==("__debug__":Str))=false)
  (hN:X.N.Nodup) (hi:X.N[i]?=some n) (hn:X.env.scope.names.lookup n=some .local) {t:TS} (hs:SuiteN X i C none (b₀::suite) t)
  (hdb:(x==("__debug__":Str))=false) (he:starEach (e::es) X.env=(false,eval e X.env)::starEach es X.env) (hpl:(backTo cpos (starEach es X.env)).any (·.1)=false) (hsw:swapsWith (.Call (.Name x apos) (e::es) [] cpos) none epos.line X.env=pure false) :
  PS X (.Try [.Expr (.Call (.Name x apos) (e::es) [] cpos) epos] (.ExceptHandler (some (.Name c np)) (some n) (b₀::suite) hpos::rest) [] [] tpos) (tTryAs sp ta C t):=by
 intro pins s σ H D I h;refine wpAny_Try_except (wpAny_execs_cons ?_);refine wpAny_Expr_any (Q:=_) (thn (Q:=EP X pins σ fun _ H2=>D.nx σ H2) ?_ fun v s1 hz=>?_) I.quiet hsw
 ·refine wpAny_Call_Name_kw (ld_glob I hg hm ?_ hdb);have h2:=ha cpos pins s σ H _ I h;refine PySem.W.callWith_K (h₀:=X.base) I.ok.mod.kin hk (wpAny_mono h2 (fun us s1 hz=>?_) fun e7 s7 z=>?_) he hpl
  ·obtain ⟨vs,H1,I1,r,q⟩:=hz;refine ⟨I1.kIn,?_⟩;have hl:us.length=ps.length:=by rw [← r.length];exact F.len _ _ _ _ q
   have hb1:=hb s1 us I1.kIn (by rw [List.append_nil];exact hl);rw [List.append_nil] at hb1;refine wpAny_call (codeAny_mono (F.run X.A X.stack s1 H1 ⟨us,[]⟩ us vs _ _ hr I1.env0 hb1 r q) fun r s' hq=>?_);cases r with
   | error e =>
    obtain ⟨a,C',dx,B,h₁,H2,rfl,T,z1,z2,z3⟩:=hq;cases z1;cases z2;exact caught_as hxe hst hfr I1 T hC hL hup hgc hmc hdc hN hi hn hs z3
   | ok fl =>
    cases fl with
    | ret u=>exact I1.after hq
    | next=>exact False.elim hq
    | brk=>exact False.elim hq
    | cont=>exact False.elim hq
  ·have z:X.xe e7 s7:=z;rw [hxe] at z;exact z.elim
 ·obtain ⟨x1,H2,I2,r2,q2⟩:=hz;exact wpAny_execs_nil (wpAny_execs_nil ⟨σ,H2,I2,q2⟩)
end
section
variable {prog:Program}{w:World}{A:Around}{E:Value→Shared→Prop}{s:Shared}{x:Addr}{ox:Obj}{fs:Array Value}
end
noncomputable abbrev Cx.held (X:Cx) (a:Addr) (ob:Obj):Cx:={ X.hand (.ref a) with pn:=(a,ob)::X.pn }
section
variable {X:Cx}{pins:List (Addr×Obj)}{σ:St}{H:Hp}{s:Shared}{a C:Addr}{ob:Obj}
theorem Inv.held (I:Inv (X.hand (.ref a)) ((a,ob)::pins) σ H s):Inv (X.held a ob) pins σ H s :=
 ⟨⟨I.ok.mod,I.ok.kind,I.ok.glob,I.ok.blt,I.ok.above,I.ok.inj,I.ok.has,I.ok.cab,fun z=>(by cases z),I.ok.frames,I.ok.stk,I.ok.exf,I.ok.bs,I.ok.bsz,I.ok.noex,I.ok.exfs,I.ok.funs,I.ok.frf⟩,
  I.os,I.bare,I.base,I.loc,I.cell,I.free,I.freeC,fun p hp=>I.pin p (by
   rcases List.mem_append.mp hp with z | z
   ·rcases List.mem_cons.mp z with rfl | z
    ·exact List.mem_append_right _ List.mem_cons_self
    ·exact List.mem_append_left _ z
   ·exact List.mem_append_right _ (List.mem_cons_of_mem _ z)),I.hok,I.len⟩
theorem Inv.unheld (I0:Inv (X.hand (.ref a)) ((a,ob)::pins) σ H s) {σ':St}{H':Hp}{s':Shared}(I:Inv (X.held a ob) pins σ' H' s'):Inv (X.hand (.ref a)) ((a,ob)::pins) σ' H' s' :=
 ⟨I0.ok,I.os,I.bare,I.base,I.loc,I.cell,I.free,I.freeC,fun p hp=>I.pin p (by
   rcases List.mem_append.mp hp with z | z
   ·exact List.mem_append_left _ (List.mem_cons_of_mem _ z)
   ·rcases List.mem_cons.mp z with rfl | z
    ·exact List.mem_append_left _ List.mem_cons_self
    ·exact List.mem_append_right _ z),I.hok,I.len⟩
theorem call_isiE (hC:PySem.W.excIn X.K C bmV "ValueError.__new__"=true) (hN:excN X.K C=true) (hcls:ob.cls=.ref C) {c:V}{cv:Value}{b:Bool}(rc:∀ u,RelV c u→u=cv) (hk:PySem.W.kitOne X.K (.ref C) cv=some b) :
  CallR (X.held a ob) (.builtin "isinstance") (fun xs H Q=>xs=[.ref a,c]∧Q (.bl b) H):=by
 rintro pins s σ H xs us Q I r ⟨rfl,q⟩
 match us,r with
 | [u1,u2],.cons r1 (.cons r2 .nil) =>
  cases (show u1=Value.ref a from r1);cases rc u2 r2;have p:=(I.pin (a,ob) (List.mem_append_left _ List.mem_cons_self)).1;exact PySem.W.kia_one (kitx_exc hC hN) I.kIn ⟨ob,p,hcls⟩ hk (fun z=>nomatch z) fun tk=>⟨.bl b,H,I.tok _,rfl,q⟩
end
theorem PE_imp' {X:Cx}{e:Expr}{t t':TE}(h:PE X e t) (j:∀ σ H Q,t' σ H Q→t σ H Q):PE X e t':=fun pins s σ H Q I q=>h pins s σ H Q I (j σ H Q q)
section
variable {X:Cx}{a C:Addr}{ob:Obj}{i:Nat}{n c:Str}{p p2 p3 pos:Pos}{b:Bool}{ss:List Stmt}{t:TS}
noncomputable def tHeld (i:Nat) (a:Addr) (b:Bool):TE:=fun σ H Q=>σ[i]?=some (some (.ref a))∧Q (.bl b) H
theorem pe_isiE (hC:PySem.W.excIn X.K C bmV "ValueError.__new__"=true) (hN:excN X.K C=true) (hcls:ob.cls=.ref C) (hg:Gl X "isinstance") (hm:X.mg "isinstance"=none) (hi:X.N[i]?=some n) (hv:Vis X.env.scope n) (hd:(n==("__debug__":Str))=false) (hcd:(n==("__classdict__":Str))=false)
  {cv:V} {cu:Value} (pc:PE (X.held a ob) (.Name c p3) (tC cv)) (rc:∀ u,RelV cv u→u=cu) (hk:PySem.W.kitOne X.K (.ref C) cu=some b):PE (X.held a ob) (.Call (.Name "isinstance" p) [.Name n p2,.Name c p3] [] pos) (tHeld i a b):=by
 refine PE_imp' (pe_callB (X:=X.held a ob) (call_isiE hC hN hcls rc hk) hg hm boot_isinstance (pa_cons (pe_var (X:=X.held a ob) hi hv hd hcd) (pa_cons pc pa_nil))) ?_;rintro σ H Q ⟨h1,h2⟩;exact ⟨_,h1,rfl,h2⟩
theorem suiteN_of (hxe:X.xe=fun _ _=>False) {dx:Option Addr}{t:TS}(h:∀ a ob,Jx C dx ob→∃ tt,PSs (X.held a ob) ss tt∧∀ (σ:St) (H:Hp) (D:Ends),σ.length=X.N.length→t D σ H→tt (Ends.less D i) (σ.set i (some (.ref a))) H):SuiteN X i C dx ss t:=by
 intro pins σ H2 a ob s7 D oc _ I7 q;obtain ⟨tt,h1,h2⟩:=h a ob oc;have hlen:σ.length=X.N.length:=by have:=I7.len;simpa using this
 refine wpAny_mono (h1 pins s7 _ H2 _ I7.held (h2 σ H2 D hlen q)) (fun f s9 z=>?_) fun e9 s9 z=>?_
 ·cases f with
  | next=>obtain ⟨σ9,H9,I9,q9⟩:=z;exact ⟨σ9,H9,I7.unheld I9,q9⟩
  | brk=>obtain ⟨_,_,_,q⟩:=z;exact q.elim
  | cont=>obtain ⟨_,_,_,q⟩:=z;exact q.elim
  | ret u=>obtain ⟨v,σ9,H9,I9,r9,q9⟩:=z;exact ⟨v,σ9,H9,I7.unheld I9,r9,q9⟩
 ·have z:X.xe e9 s9:=z;rw [hxe] at z;exact z
end
end L2
namespace DL
open PySem PySem.Spec PyProof.Rows L2
noncomputable def tryN (ma:DM (List D)) (f:Fn) (r:Rn) (c:Str) (m:SM):SM:=fun loc mh=>match ma loc mh with
 | some (ds,h)=>(match r ds h with
  | some (c',h')=>if c'==c then m loc h' else none
  | none=>match f ds h with
   | some (_,h')=>some (.nx,loc,h')
   | none=>none)
 | none=>none
theorem ds_tryN {X:Cx}{k:Nat}{fa C L:Addr}{fd:FuncData}{ps:List Str}{f:Fn}{r:Rn}{x c c0 n:Str}{a:Expr}{es:List Expr}{ma:DM (List D)}{i:Nat}{m:SM}{b₀:Stmt}{suite:List Stmt}{apos cpos epos np hpos tpos:Pos}{rest:List ExceptHandler}
  (hxe:X.xe=fun _ _=>False) (hst:X.stack=X.env::X.outer) (hfr:X.env.frame=some X.env.locals)
  (F:FnOk X.prog X.w X.K X.mg X.base (CXe X.prog X.w) k fa fd ps (spR X.K X.mg ps.length f r)) (hr:Room k X.A) (hg:Gl X x) (hm:X.mg x=some (.ref fa)) (hk:PySem.W.keepIn X.K (.ref fa)=true) (hb:Binds X.K fd ps []) (ha:DA X (a::es) ma)
  (hf:∀ ds mh z,f ds mh=some z→ds.length=ps.length) (hrl:∀ ds mh z,r ds mh=some z→ds.length=ps.length)
  (hC:PySem.W.excIn X.K C bmV "ValueError.__new__"=true) (hL:PySem.W.excIn X.K L bmV "ValueError.__new__"=true) (hup:mroHas X.K C L=true) (hm0:X.mg c0=some (.ref C)) (hgc:Gl X c) (hmc:X.mg c=some (.ref L)) (hdc:(c==("__debug__":Str))=false)
  (hN:X.N.Nodup) (hi:X.N[i]?=some n) (hn:X.env.scope.names.lookup n=some .local) (hs:SuiteN X i C none (b₀::suite) (tS X.K m))
  (hdb:(x==("__debug__":Str))=false) (he:starEach (a::es) X.env=(false,eval a X.env)::starEach es X.env) (hpl:(backTo cpos (starEach es X.env)).any (·.1)=false) :
  DS X (.Try [.Expr (.Call (.Name x apos) (a::es) [] cpos) epos] (.ExceptHandler (some (.Name c np)) (some n) (b₀::suite) hpos::rest) [] [] tpos) (tryN ma f r c0 m):=by
 refine PS_imp (ps_try_as hxe hst hfr F hr hg hm hk hb ha.x hC hL hup hgc hmc hdc hN hi hn hs hdb he hpl (not_swapN rfl)) ?_;rintro N σ H ⟨loc,mh,ρ,fl,loc',mh',q,rl,rs,co⟩;unfold tryN at q;split at q
 ·rename_i ds h ea;refine ⟨loc,mh,ρ,ds,h,ea,rl,rs,fun H1 ρ1 vs e1 rs1 r1=>?_⟩;split at q
  ·rename_i c' h' er;split at q
   ·rename_i ec;exact ⟨by rw [← r1.length];exact hrl _ _ _ er,.inr ⟨ρ1,h,ds,c',h',er,rs1,r1,fun H2 ρ2 e2 rs2=>⟨C,by rw [eq_of_beq ec];exact hm0,rfl,rfl,loc,h',ρ2,fl,loc',mh',q,rl.mono (e1.trans e2),rs2,co.ev (e1.trans e2)⟩⟩⟩
   ·cases q
  ·split at q
   ·rename_i d h' ef;cases q;exact ⟨by rw [← r1.length];exact hf _ _ _ ef,.inl ⟨ρ1,h,ds,d,mh',ef,rs1,r1,fun H2 ρ2 v e2 rs2 _=>co H2 ρ2 σ (e1.trans e2) rs2 (rl.mono (e1.trans e2))⟩⟩
   ·cases q
 ·cases q
structure Td where
 x:Str
 c0:Str
 c:Str
 n:Str
 m:SM
 s0:Stmt
 su:List Stmt
noncomputable def suiteOf:Stmt→List Stmt
 | .Try _ hs _ _ _=>(match hs with | .ExceptHandler _ _ b _::_=>b | _=>[])
 | _=>[]
noncomputable def TryIs (q:Td) (s:Stmt):Prop:=∃ p1 a es p2 p3 p4 p8 p9,s=.Try [.Expr (.Call (.Name q.x p1) (a::es) [] p2) p3] [.ExceptHandler (some (.Name q.c p4)) (some q.n) (q.s0::q.su) p8] [] [] p9
noncomputable def TryL (q:Td):List Stmt→Prop
 | []=>True
 | s::r=>(isTry s=false∨TryIs q s)∧TryL q r
noncomputable def trySt (G:Gb) (ex:Ex) (q:Td) (n:Nat) (sc:SC) (as:List Expr):SM :=
 if glB sc.scope q.x&&!(q.x == "__debug__")&&as.all (fun e=>!isStar e)&&glB sc.scope q.c&&!(q.c == "__debug__") then (match ex q.x with
  | some (_,g,r)=>tryN (iA G n sc as) g r q.c0 q.m
  | none=>SM.bad) else SM.bad
noncomputable def tryB (G:Gb) (ex:Ex) (q:Td) (n:Nat) (sc:SC) (s:Stmt):SM:=if isTry s=true then trySt G ex q n sc (tryArgs s) else iS G n sc s
noncomputable def iB (G:Gb) (ex:Ex) (q:Td) (n:Nat) (sc:SC) (ss:List Stmt):SM:=ss.foldr (fun s r=>seqS (tryB G ex q n sc s) r) SM.nxt
noncomputable def SuOk (K:PySem.W.Frag) (mg:Str→Option Value) (sc:SC) (q:Td):Prop:=∃ C L i,mg q.c0=some (.ref C)∧mg q.c=some (.ref L)∧PySem.W.excIn K C bmV "ValueError.__new__"=true∧PySem.W.excIn K L bmV "ValueError.__new__"=true∧mroHas K C L=true∧sc.N[i]?=some q.n∧sc.scope.names.lookup q.n=some .local ∧
 ∀ (X:Cx) (k:Nat) (G:Gb),X.K=K→X.mg=mg→XOk X k G sc→SuiteN X i C none (q.s0::q.su) (tS X.K q.m)
theorem sndB (G:Gb) {ex:Ex}{q:Td}{n:Nat}{X:Cx}{k:Nat}{sc:SC}(O:XOk X k G sc) (hst:X.stack=X.env::X.outer) (hfr:X.env.frame=some X.env.locals) (xo:ExOk X.prog X.w X.K X.mg X.base k ex) (xs:SuOk X.K X.mg sc q) :
  ∀ ss:List Stmt,TryL q ss→DSs X ss (iB G ex q n sc ss):=by
 intro ss hss
 induction ss with
 | nil=>exact dss_nil
 | cons s r ih =>
  obtain ⟨hk,hr⟩:=hss;refine dss_cons (m1:=tryB G ex q n sc s) ?_ (ih hr);unfold tryB;rcases hk with ht | hk
  rotate_left
  ·obtain ⟨p1,a,es,p2,p3,p4,p8,p9,rfl⟩:=hk;show DS X _ (trySt G ex q n sc (a::es));unfold trySt
   by_cases hb:(glB sc.scope q.x&&!(q.x == "__debug__")&&(a::es).all (fun e=>!isStar e)&&glB sc.scope q.c&&!(q.c == "__debug__"))=true
   ·rw [if_pos hb];rw [Bool.and_eq_true,Bool.and_eq_true,Bool.and_eq_true,Bool.and_eq_true,List.all_cons,Bool.and_eq_true] at hb;obtain ⟨⟨⟨⟨h1,h2⟩,h3,h4⟩,h5⟩,h6⟩:=hb;cases ef:ex q.x with
    | none=>exact ds_bad
    | some z =>
     obtain ⟨ps,g,rr⟩:=z;obtain ⟨fa,fd,g1,g2,g3,g4,g5,g6⟩:=xo.fn _ _ _ _ ef;obtain ⟨C,L,i,m0,m1,m2,m3,m4,i1,i2,su⟩:=xs;exact ds_tryN O.xe hst hfr g4 O.room (O.gl h1) g1 g2 g3 ((snd G n).a O _) g5 g6 m2 m3 m4 m0 (O.gl h5) m1 (by simpa using h6) (by rw [O.N];exact O.nd) (by rw [O.N];exact i1) (by rw [O.sco];exact i2) (su X k G rfl rfl O) (by simpa using h2) (star1 (by simpa using h3)) (starAny h4)
   ·rw [if_neg hb];exact ds_bad
  ·rw [if_neg (by rw [ht];exact Bool.false_ne_true)];exact (sndS G n).1 O s
noncomputable def runB (G:Gb) (ex:Ex) (q:Td) (n:Nat) (f:FnI):Fn:=fun ds mh=>if ds.length=f.ps.length then (match iB G ex q n { N:=f.N,scope:=f.scope,own:=fun _=>true } f.body (ds.map some++List.replicate (f.N.length - ds.length) none) mh with
 | some (.rt d,_,mh')=>some (d,mh')
 | some (.nx,_,mh')=>some (.non,mh')
 | _=>none) else none
section
variable {P:Program}{w:World}{K:PySem.W.Frag}{mg:Str→Option Value}{base:Heap}{k:Nat}{G:Gb}{ex:Ex}{x qual:Str}{st:Stmt}{f:Addr}{fd:FuncData}{I:FnI}
theorem fn_okB {td:Td}(ht:TryL td I.body) (g:GOk P w K mg base k G) (xo:ExOk P w K mg base k ex) (xs:SuOk K mg { N:=I.N,scope:=I.scope,own:=fun _=>true } td) (F:Fun K x qual st f fd) (S:FnScope I.N I.ps (defScope st)) (hs:I.scope=defScope st) (hb:I.body=defBody st) (n:Nat) :
  FnOk P w K mg base CX0 (k+3) f fd I.ps (spD K I.ps.length (runB G ex td n I)):=by
 refine F.ok S (fun vs H Q E h=>h.1) fun cdv A outer s H vs Q E hr h=>?_
 obtain ⟨hl,ρ,mh,ds,d,mh',q,rs,r,co⟩:=h;refine ⟨_,sndB G (n:=n) (sc:={ N:=I.N,scope:=I.scope,own:=fun _=>true }) ⟨rfl,S.nd,hs.symm,fun _ _ _=>.inl rfl,rfl,rfl,hr,g⟩ rfl rfl xo xs (defBody st) (by rw [← hb];exact ht),?_⟩;unfold runB at q;split at q
 ·split at q
  ·rename_i d' loc' m' e;cases q;exact ⟨_,mh,ρ,.rt d,loc',mh',by rw [← hb];exact e,start_rl r,rs,co⟩
  ·rename_i loc' m' e;cases q;exact ⟨_,mh,ρ,.nx,loc',mh',by rw [← hb];exact e,start_rl r,rs,fun H' ρ' σ' e' rs' _=>co H' ρ' _ e' rs' .non⟩
  ·cases q
 ·cases q
theorem runB_len {td:Td}{n:Nat}{ds:List D}{mh:MH}{r:D×MH}(h:runB G ex td n I ds mh=some r):ds.length=I.ps.length:=by
 unfold runB at h;split at h
 ·assumption
 ·cases h
end
noncomputable def runX (G:Gb) (ex:Ex) (td:Option Td) (n:Nat) (I:FnI):Fn:=match td with
 | some q=>runB G ex q n I
 | none=>runF G n I
noncomputable def TdOk (K:PySem.W.Frag) (mg:Str→Option Value) (T:Tb) (tds:Str→Option Td):Prop:=∀ x q I,tds x=some q→T.tb x=some I→TryL q I.body∧SuOk K mg { N:=I.N,scope:=I.scope,own:=fun _=>true } q
noncomputable def GX (T:Tb) (xcl:Str→Bool) (tds:Str→Option Td):Nat→Gb×Ex
 | 0=>({ cal:=fun _=>none,con:=T.con,dic:=T.dic,fld:=T.fld,met:=fun _ _=>none,mkr:=T.mkr },fun _=>none)
 | k+1=>({ cal:=fun x=>(match T.tb x with | some I=>some (I.ps,runX (GX T xcl tds k).1 (GX T xcl tds k).2 (tds x) fuel I) | none=>none),con:=T.con,dic:=T.dic,fld:=T.fld,met:=fun c m=>(match T.tbm c m with | some I=>some (I.ps,runF (GX T xcl tds k).1 fuel I) | none=>none),mkr:=T.mkr },exOf T xcl (GX T xcl tds k).1)
theorem gokX {P:Program}{w:World}{K:PySem.W.Frag}{mg:Str→Option Value}{base:Heap}{T:Tb}{xcl:Str→Bool}{tds:Str→Option Td}(O:TbOk w K mg T) (xc:XcOk K mg xcl) (td:TdOk K mg T tds) (k:Nat):GOk P w K mg base k (GX T xcl tds k).1∧ExOk P w K mg base k (GX T xcl tds k).2:=by
 induction k with
 | zero=>exact ⟨⟨fun x ps f h=>(by cases h),O.con,O.blt,O.dic,O.fld,fun c m ps g h=>(by cases h),fun c f h=>by
   obtain ⟨C,fa,fd,ps,h1,h2,h3,h4,h5⟩:=O.mkr c f h
   exact ⟨C,fa,fd,ps,h1,h2,h3,h4,h5 _ _ _⟩⟩,⟨fun x ps f r h=>by cases h⟩⟩
 | succ k ih =>
  obtain ⟨ih,xo⟩:=ih
  refine ⟨⟨fun x ps f h=>?_,O.con,O.blt,O.dic,O.fld,fun c m ps g h=>?_,fun c f h=>by
   obtain ⟨C,fa,fd,ps,h1,h2,h3,h4,h5⟩:=O.mkr c f h
   exact ⟨C,fa,fd,ps,h1,h2,h3,h4,h5 _ _ _⟩⟩,⟨fun x ps f r h=>?_⟩⟩
  ·simp only [GX] at h;split at h
   ·rename_i I eI;cases h;obtain ⟨qual,st,fa,fd,h1,h2,h3,h4,h5,h6⟩:=O.fn x I eI;cases et:tds x with
    | some q=>exact ⟨fa,fd,h1,h2.kp,.all h6,fn_okB (td x q I et eI).1 ih xo (td x q I et eI).2 h2 h3 h4 h5 fuel,fun ds mh r hr=>runB_len hr⟩
    | none=>exact ⟨fa,fd,h1,h2.kp,.all h6,fn_ok ih h2 h3 h4 h5 fuel,fun ds mh r hr=>runF_len hr⟩
   ·cases h
  ·simp only [GX] at h;split at h
   ·rename_i I eI;cases h;obtain ⟨qual,st,C,fa,fd,g1,g2,g3,h2,h3,h4,h5,h6⟩:=O.met c m I eI;exact ⟨C,fa,fd,g1,g2,g3,.all h6,fn_ok ih h2 h3 h4 h5 fuel,fun ds mh r hr=>runF_len hr⟩
   ·cases h
  ·simp only [GX,exOf] at h;split at h
   ·rename_i I eI;cases h;obtain ⟨qual,st,fa,fd,h1,h2,h3,h4,h5,h6⟩:=O.fn x I eI;exact ⟨fa,fd,h1,h2.kp,.all h6,fn_okR ih xc h2 h3 h4 h5 fuel,fun ds mh r hr=>runF_len hr,fun ds mh r hr=>runR_len hr⟩
   ·cases h
theorem walkE {l:PySem.W.OpenLaw}{q:Program}{loose:List Str}{XP:(Str→Option Value)→Heap→Prop}{YP:World→Heap→Prop}{d:DefRec}{K:Params→PySem.W.Frag}{Tt:Tb}{xcl:Str→Bool}{tds:Str→Option Td}{I:FnI}{x:Str}(k:Nat)
  (hn:l.most=some 63) (hdf:d.params.defaults=[]) (hY:∀ (w:World) (h:Heap),YP w h→(K w.params).In h) (hr:Room (k+3) callerA)
  (hI:Tt.tb d.name=some I) (hps:I.ps=[x])
  (T:∀ (w:World) (mg:Str→Option Value) (h:Heap),(K w.params).In h→h.Ns mainGlobals mg→TbOk w (K w.params) mg Tt∧XcOk (K w.params) mg xcl∧TdOk (K w.params) mg Tt tds)
  (main:∀ ns:List Int,ns.length≤63→∃ mh',runF (GX Tt xcl tds k).1 fuel I [.rol (ns.map D.int)] []=some (.bl true,mh')) :
  PySem.W.WalkO q loose XP YP l.row.toRowW d [] (fun f vs=>PySem.call f vs):=by
 refine L2.walk_of (n:=63) (k:=k+3) (x:=x) (CX:=fun _=>CX0) (sp:=fun w=>spD (K w.params) 1 (runF (GX Tt xcl tds k).1 fuel I)) hn (by decide) hdf hr hY (fun w mg fa h hK hN hm=>?_) (fun w H a ns hl hO hS=>?_) fun _ _ _ _ _ z=>z
 ·obtain ⟨t1,t2,td⟩:=T w mg h hK hN;obtain ⟨qual,st,f,fd,h1,h2,h3,h4,h5,h6⟩:=t1.fn _ _ hI;rw [hm] at h1;cases h1;refine ⟨fd,fun s u=>.of_eq ?_,fun base hKb hNb=>?_⟩
  ·have:=h6 [u] (by rw [hps];rfl);rw [hps] at this;exact this
  ·have:=fn_ok (P:=l.prog) (w:=w) (base:=base) (gokX t1 t2 td k).1 h2 h3 h4 h5 fuel;rw [hps] at this;exact this
 ·obtain ⟨mh',e⟩:=main ns hl;have P:PermL (K w.params) H a (ns.map V.int):=by
   rcases hS with (h | h) | h
   ·rcases hO a with z | ⟨o,xs,z⟩
    ·rw [z] at h;cases h
    ·rw [z] at h;cases h
   ·exact .inl h
   ·exact .inr h
  refine ⟨rfl,[],[],[.rol (ns.map D.int)],.bl true,mh',e,⟨rfl,List.nodup_nil,fun n a o e=>by simp at e⟩,.cons (.rol P (RDs.ints ns)) .nil,fun H' ρ' v _ _ r=>by cases r;rfl⟩
end DL
namespace DL
open PySem L2
section
variable {loc:DL.Loc}{mh:MH}{ma mb:DM D}{mr:DM (List D)}{t u:DM Bool}{m1 m2:SM}
theorem vr_ap (i:Nat):vr i loc mh=(match loc[i]? with | some (some d)=>some (d,mh) | _=>none):=by kernel_rfl
theorem truM_ap:truM ma loc mh=(match ma loc mh with | none=>none | some (x,h)=>(match truD x h with | some k=>some (k,h) | none=>none)):=by kernel_rfl
theorem methM_ap (T:String) (f:D→List D→MH→Option (D×MH)):methM T f ma mr loc mh=(match ma loc mh with | none=>none | some (x,h)=>if tyOk T x h=true then (match mr loc h with | none=>none | some (ds,h2)=>f x ds h2) else none):=by kernel_rfl
theorem asgS_ap (g:GM):asgS ma g loc mh=(match ma loc mh with | some (d,h)=>(match g d loc h with | some (l,h')=>some (.nx,l,h') | none=>none) | none=>none):=by kernel_rfl
theorem ifS_ap:ifS t m1 m2 loc mh=(match t loc mh with | some (k,h)=>if k=true then m1 loc h else m2 loc h | none=>none):=by kernel_rfl
theorem retS_ap:retS ma loc mh=(match ma loc mh with | some (d,h)=>some (.rt d,loc,h) | none=>none):=by kernel_rfl
theorem dropS_ap:dropS ma loc mh=(match ma loc mh with | some (_,h)=>some (.nx,loc,h) | none=>none):=by kernel_rfl
theorem seqS_ap:seqS m1 m2 loc mh=(match m1 loc mh with | some (.nx,l,h)=>m2 l h | r=>r):=by kernel_rfl
theorem srcM_ap:srcM ma loc mh=(match ma loc mh with | none=>none | some (x,h)=>(match srcOf x h with | some s=>some (s,h) | none=>none)):=by kernel_rfl
theorem rngM_ap (f:List D→Option Src):rngM f mr loc mh=(match mr loc mh with | none=>none | some (ds,h)=>(match f ds with | some s=>some (s,h) | none=>none)):=by
 unfold rngM DM.bnd;cases mr loc mh with
 | none=>rfl
 | some p =>
  obtain ⟨ds,h⟩:=p;dsimp only;cases f ds <;> rfl
theorem partS_ap:partD (some ma) loc mh=(match ma loc mh with | some (.int i,h)=>some (some i,h) | _=>none):=by
 show (ma.bnd _) loc mh=_;unfold DM.bnd;cases ma loc mh with
 | none=>rfl
 | some p =>
  obtain ⟨x,h⟩:=p;cases x <;> rfl
end
theorem iop_ap (C:Int→Int→Bool) (g:Int→Int→Int) (i j:Int) (mh:MH):iop C g (.int i) (.int j) mh=if C i j=true then some (.int (g i j),mh) else none:=by kernel_rfl
theorem rng1_int {j:Int}(h0:0≤j) (h:j≤1000000):rng1 [.int j]=some (.seq (rangeL 0 j.toNat)):=by
 have e2:-(2 ^ 62)≤j∧j < 2 ^ 62:=by omega
 unfold rng1;dsimp only;rw [if_pos e2]
theorem rng1_nat {B:Nat}(h:B≤1000000):rng1 [.int B]=some (.seq (rangeL 0 B)):=by rw [rng1_int (by omega) (by omega),Int.toNat_natCast]
theorem rangeL_len (lo:Int) (n:Nat):(rangeL lo n).length=n:=by unfold rangeL;rw [List.length_map,List.length_range]
theorem le_size {n:Nat}(h:n≤1000000):n≤sizeLine:=by rw [sizeLine_eq];omega
theorem lt_size {n:Nat}(h:n≤1000000):n < sizeLine:=by rw [sizeLine_eq];omega
theorem mkTup_ok {ds:List D}{mh:MH}(h:ds.length≤1000000):mkTup ds mh=some (.tup ds,mh):=by unfold mkTup;rw [if_pos (le_size h)]
theorem mkLst_ok {ds:List D}{mh:MH}(h:ds.length≤1000000):mkLst ds mh=some (.ref mh.length,mh++[.lst ds]):=by unfold mkLst;rw [if_pos (le_size h)]
theorem appendD_ok {n:Nat}{ds:List D}{y:D}{mh:MH}(e:mh[n]?=some (.lst ds)) (h:ds.length≤1000000):appendD (.ref n) [y] mh=some (.non,mh.set n (.lst (ds++[y]))):=by
 simp only [appendD,e,if_pos (lt_size h)]
theorem addD_lst {n m:Nat}{xs ys:List D}{mh:MH}(e1:mh[n]?=some (.lst xs)) (e2:mh[m]?=some (.lst ys)) (h:xs.length+ys.length≤1000000):addD (.ref n) (.ref m) mh=some (.ref mh.length,mh++[.lst (xs++ys)]):=by
 simp only [addD,e1,e2,if_pos (le_size h)]
end DL
namespace DL
open PySem L2 PyProof.Rows
noncomputable abbrev natD (n:Nat):D:=.int (n:Int)
end DL
namespace DL
open PySem L2
noncomputable def wD {α:Type}(m:DM α) (loc:DL.Loc) (mh:MH) (P:α→MH→Prop):Prop:=∃ a h,m loc mh=some (a,h)∧P a h
noncomputable def wV (r:Option (D×MH)) (P:D→MH→Prop):Prop:=∃ d h,r=some (d,h)∧P d h
noncomputable def wG (r:Option (DL.Loc×MH)) (P:DL.Loc→MH→Prop):Prop:=∃ l h,r=some (l,h)∧P l h
noncomputable def wS (m:SM) (loc:DL.Loc) (mh:MH) (P:Fl→DL.Loc→MH→Prop):Prop:=∃ f l h,m loc mh=some (f,l,h)∧P f l h
section
variable {loc:DL.Loc}{mh:MH}{ma mb mc:DM D}{mr:DM (List D)}{t u:DM Bool}{P:D→MH→Prop}{B:Bool→MH→Prop}
theorem wD_mono {α:Type}{m:DM α}{P Q:α→MH→Prop}(h:wD m loc mh P) (i:∀ a h,P a h→Q a h):wD m loc mh Q:=let ⟨a,h',e,p⟩:=h;⟨a,h',e,i a h' p⟩
theorem wV_mono {r:Option (D×MH)}{P Q:D→MH→Prop}(h:wV r P) (i:∀ a h,P a h→Q a h):wV r Q:=let ⟨a,h',e,p⟩:=h;⟨a,h',e,i a h' p⟩
theorem wD_vr {i:Nat}{d:D}(e:loc[i]?=some (some d)) (h:P d mh):wD (vr i) loc mh P:=⟨d,mh,by rw [vr_ap,e],h⟩
theorem wD_ret {α:Type}{a:α}{P:α→MH→Prop}(h:P a mh):wD (DM.ret a) loc mh P:=⟨a,mh,rfl,h⟩
theorem wD_lift {f:MH→Option (D×MH)}(h:wV (f mh) P):wD (DM.lift f) loc mh P:=h
theorem wD_bnd {α β:Type}{m:DM α}{f:α→DM β}{P:β→MH→Prop}(h:wD m loc mh fun a h1=>wD (f a) loc h1 P):wD (m.bnd f) loc mh P:=by
 obtain ⟨a,h1,e1,b,h2,e2,p⟩:=h;exact ⟨b,h2,by unfold DM.bnd;rw [e1];exact e2,p⟩
theorem wD_op {f:D→D→MH→Option (D×MH)}(h:wD ma loc mh fun x h1=>wD mb loc h1 fun y h2=>wV (f x y h2) P):wD (dop f ma mb) loc mh P:=wD_bnd (wD_mono h fun _ _ q=>wD_bnd (wD_mono q fun _ _ z=>z))
theorem wD_cons {P:List D→MH→Prop}(h:wD ma loc mh fun x h1=>wD mr loc h1 fun xs h2=>P (x::xs) h2):wD (dCons ma mr) loc mh P:=wD_bnd (wD_mono h fun _ _ q=>wD_bnd (wD_mono q fun _ _ z=>wD_ret z))
theorem wD_cal {f:Fn}(h:wD mr loc mh fun ds h1=>wV (f ds h1) P):wD (calM f mr) loc mh P:=wD_bnd (wD_mono h fun _ _ q=>q)
theorem wD_tup (h:wD mr loc mh fun ds h1=>ds.length≤1000000∧P (.tup ds) h1):wD (tupM mr) loc mh P:=wD_bnd (wD_mono h fun _ _ q=>⟨_,_,mkTup_ok q.1,q.2⟩)
theorem wD_lst (h:wD mr loc mh fun ds h1=>ds.length≤1000000∧P (.ref h1.length) (h1++[.lst ds])):wD (lstM mr) loc mh P:=wD_bnd (wD_mono h fun _ _ q=>⟨_,_,mkLst_ok q.1,q.2⟩)
theorem wD_neg (h:wD ma loc mh fun x h1=>∃ i,x=.int i∧P (.int (-i)) h1):wD (negM ma) loc mh P:=wD_bnd (wD_mono h fun _ _ ⟨i,e,q⟩=>by subst e;exact ⟨_,_,rfl,q⟩)
theorem wD_isi {T:String}(h:wD ma loc mh fun x h1=>wV (isiD T x h1) P):wD (isiM T ma) loc mh P:=wD_bnd (wD_mono h fun _ _ q=>q)
theorem wD_rev (h:wD ma loc mh fun x h1=>wV (revD x h1) P):wD (revM ma) loc mh P:=wD_bnd (wD_mono h fun _ _ q=>q)
theorem wD_bool (h:wD ma loc mh fun x h1=>∃ k,x=.bl k∧B k h1):wD (boolD ma) loc mh B:=wD_bnd (wD_mono h fun _ _ ⟨k,e,q⟩=>by subst e;exact wD_ret q)
theorem wD_tru (h:wD ma loc mh fun x h1=>∃ k,truD x h1=some k∧B k h1):wD (truM ma) loc mh B:=by
 obtain ⟨x,h1,e,k,ek,q⟩:=h;exact ⟨k,h1,by rw [truM_ap,e];dsimp only;rw [ek],q⟩
theorem wD_notV (h:wD ma loc mh fun x h1=>∃ k,x=.bl k∧P (.bl (!k)) h1):wD (notV ma) loc mh P:=wD_bnd (wD_bool (wD_mono h fun _ _ ⟨k,e,q⟩=>⟨k,e,wD_ret q⟩))
theorem wD_notT (h:wD t loc mh fun k h1=>B (!k) h1):wD (dNotT t) loc mh B:=wD_bnd (wD_mono h fun _ _ q=>wD_ret q)
theorem wD_andT (h:wD t loc mh fun k h1=>(k=true→wD u loc h1 B)∧(k=false→B false h1)):wD (dAndT t u) loc mh B:=wD_bnd (wD_mono h fun k _ q=>by
 cases k with
 | true=>exact q.1 rfl
 | false=>exact wD_ret (q.2 rfl))
theorem wD_orT (h:wD t loc mh fun k h1=>(k=true→B true h1)∧(k=false→wD u loc h1 B)):wD (dOrT t u) loc mh B:=wD_bnd (wD_mono h fun k _ q=>by
 cases k with
 | true=>exact wD_ret (q.1 rfl)
 | false=>exact q.2 rfl)
theorem wD_andV (h:wD ma loc mh fun x h1=>∃ k,x=.bl k∧(k=true→wD mb loc h1 P)∧(k=false→P (.bl false) h1)):wD (dAndV ma mb) loc mh P:=wD_bnd (wD_bool (wD_mono h fun _ _ ⟨k,e,q⟩=>⟨k,e,by
 cases k with
 | true=>exact q.1 rfl
 | false=>exact wD_ret (q.2 rfl)⟩))
theorem wD_orV (h:wD ma loc mh fun x h1=>∃ k,x=.bl k∧(k=true→P (.bl true) h1)∧(k=false→wD mb loc h1 P)):wD (dOrV ma mb) loc mh P:=wD_bnd (wD_bool (wD_mono h fun _ _ ⟨k,e,q⟩=>⟨k,e,by
 cases k with
 | true=>exact wD_ret (q.1 rfl)
 | false=>exact q.2 rfl⟩))
theorem wD_chain {f f':D→D→MH→Option (D×MH)}(h:wD ma loc mh fun x h1=>wD mb loc h1 fun y h2=>wV (f x y h2) fun z h3=>∃ k,z=.bl k∧(k=true→wD mc loc h3 fun w h4=>wV (f' y w h4) P)∧(k=false→P (.bl false) h3)):wD (dchain f f' ma mb mc) loc mh P :=
 wD_bnd (wD_mono h fun _ _ q=>wD_bnd (wD_mono q fun _ _ z=>wD_bnd (wD_bool (wD_mono (wD_lift z) fun _ _ ⟨k,e,q⟩=>⟨k,e,by
  cases k with
  | true=>exact wD_bnd (wD_mono (q.1 rfl) fun _ _ w=>w)
  | false=>exact wD_ret (q.2 rfl)⟩))))
theorem wD_meth {T:String}{f:D→List D→MH→Option (D×MH)}(h:wD ma loc mh fun x h1=>tyOk T x h1=true∧wD mr loc h1 fun ds h2=>wV (f x ds h2) P):wD (methM T f ma mr) loc mh P:=by
 obtain ⟨x,h1,e1,ht,ds,h2,e2,d,h3,e3,p⟩:=h;exact ⟨d,h3,by rw [methM_ap,e1];dsimp only;rw [if_pos ht,e2];exact e3,p⟩
theorem wD_partN {O:Option Int→MH→Prop}(h:O none mh):wD (partD none) loc mh O:=⟨none,mh,rfl,h⟩
theorem wD_partS {O:Option Int→MH→Prop}(h:wD ma loc mh fun x h1=>∃ i,x=.int i∧O (some i) h1):wD (partD (some ma)) loc mh O:=by
 obtain ⟨x,h1,e,i,rfl,q⟩:=h;exact ⟨some i,h1,by rw [partS_ap,e],q⟩
theorem wD_sl {ml mu:Option (DM D)}(h:wD ma loc mh fun x h1=>wD (partD ml) loc h1 fun l h2=>wD (partD mu) loc h2 fun r h3=>wV (slD x l r h3) P):wD (dSl ma ml mu) loc mh P :=
 wD_bnd (wD_mono h fun _ _ q=>wD_bnd (wD_mono q fun _ _ z=>wD_bnd (wD_mono z fun _ _ w=>w)))
theorem wD_src {R:Src→MH→Prop}(h:wD ma loc mh fun x h1=>∃ s,srcOf x h1=some s∧R s h1):wD (srcM ma) loc mh R:=by
 obtain ⟨x,h1,e,s,es,q⟩:=h;exact ⟨s,h1,by rw [srcM_ap,e];dsimp only;rw [es],q⟩
theorem wD_rng {R:Src→MH→Prop}{f:List D→Option Src}(h:wD mr loc mh fun ds h1=>∃ s,f ds=some s∧R s h1):wD (rngM f mr) loc mh R:=by
 obtain ⟨x,h1,e,s,es,q⟩:=h;exact ⟨s,h1,by rw [rngM_ap,e];dsimp only;rw [es],q⟩
end
noncomputable def seqK (m2:SM) (P:Fl→DL.Loc→MH→Prop) (f:Fl) (l:DL.Loc) (h:MH):Prop:=match f with
 | .nx=>wS m2 l h P
 | f=>P f l h
section
variable {loc l:DL.Loc}{mh h1:MH}{me:DM D}{m1 m2:SM}{g:GM}{t:DM Bool}{P:Fl→DL.Loc→MH→Prop}
theorem wS_mono {m:SM}{P Q:Fl→DL.Loc→MH→Prop}(h:wS m loc mh P) (i:∀ f l h,P f l h→Q f l h):wS m loc mh Q:=let ⟨f,l,h',e,p⟩:=h;⟨f,l,h',e,i f l h' p⟩
theorem wS_seq (h:wS m1 loc mh (seqK m2 P)):wS (seqS m1 m2) loc mh P:=by
 obtain ⟨f,l,h1,e,q⟩:=h;cases f with
 | nx =>
  obtain ⟨f',l',h',e',p⟩:=q;exact ⟨f',l',h',by rw [seqS_ap,e];exact e',p⟩
 | _=>exact ⟨_,l,h1,by rw [seqS_ap,e],q⟩
theorem seqK_nx (h:wS m2 l h1 P):seqK m2 P .nx l h1:=h
theorem seqK_rt {d:D}(h:P (.rt d) l h1):seqK m2 P (.rt d) l h1:=h
theorem wS_nxt (h:P .nx loc mh):wS SM.nxt loc mh P:=⟨_,_,_,rfl,h⟩
theorem wS_asg (h:wD me loc mh fun d h1=>wG (g d loc h1) fun l h2=>P .nx l h2):wS (asgS me g) loc mh P:=by
 obtain ⟨d,h1,e1,l,h2,e2,p⟩:=h;exact ⟨.nx,l,h2,by rw [asgS_ap,e1];dsimp only;rw [e2],p⟩
theorem wS_ret (h:wD me loc mh fun d h1=>P (.rt d) loc h1):wS (retS me) loc mh P:=by
 obtain ⟨d,h1,e1,p⟩:=h;exact ⟨.rt d,loc,h1,by rw [retS_ap,e1],p⟩
theorem wS_drop (h:wD me loc mh fun _ h1=>P .nx loc h1):wS (dropS me) loc mh P:=by
 obtain ⟨d,h1,e1,p⟩:=h;exact ⟨.nx,loc,h1,by rw [dropS_ap,e1],p⟩
theorem wS_if (h:wD t loc mh fun k h1=>(k=true→wS m1 loc h1 P)∧(k=false→wS m2 loc h1 P)):wS (ifS t m1 m2) loc mh P:=by
 obtain ⟨k,h1,e1,a,b⟩:=h;cases k with
 | true =>
  obtain ⟨f,l,h',e,p⟩:=a rfl;exact ⟨f,l,h',by rw [ifS_ap,e1];exact e,p⟩
 | false =>
  obtain ⟨f,l,h',e,p⟩:=b rfl;exact ⟨f,l,h',by rw [ifS_ap,e1];exact e,p⟩
theorem wG_set {i:Nat}{d:D}{R:DL.Loc→MH→Prop}(h:R (loc.set i (some d)) mh):wG (gSet i d loc mh) R:=⟨_,_,rfl,h⟩
theorem wG_tup {is:List Nat}{ds:List D}{R:DL.Loc→MH→Prop}(hl:ds.length=is.length) (h:R (setAll is ds loc) mh):wG (gTupD is (.tup ds) loc mh) R:=⟨_,_,if_pos hl,h⟩
noncomputable def forK (J:DL.Loc→MH→Prop) (P:Fl→DL.Loc→MH→Prop) (f:Fl) (l:DL.Loc) (h:MH):Prop:=match f with
 | .nx=>J l h
 | .ct=>J l h
 | .bk=>P .nx l h
 | .rt d=>P (.rt d) l h
theorem forD_w {src:Src}{ds:List D}{body:SM}(J:Nat→DL.Loc→MH→Prop) (keep:∀ i l h,J i l h→src.ok h=true∧src.items h=ds)
  (step:∀ i d l h,ds[i]?=some d→J i l h→wG (g d l h) fun l1 h1=>wS body l1 h1 (forK (J (i+1)) P)) (fin:∀ l h,J ds.length l h→P .nx l h) :
  ∀ (k i:Nat) (l:DL.Loc) (h:MH),i+k=ds.length→J i l h→wS (forD src g body k i) l h P
 | 0,i,l,h,e,j=>by
  have e:i=ds.length:=by omega
  subst e;have s:src.stop h ds.length=true:=by
   unfold Src.stop;rw [(keep _ _ _ j).1,(keep _ _ _ j).2,Bool.true_and];exact decide_eq_true (Nat.le_refl _)
  exact ⟨.nx,l,h,by simp only [forD,s,if_true],fin _ _ j⟩
 | k+1,i,l,h,e,j=>by
  have hi:i < ds.length:=by omega
  have eg:src.get h i=some ds[i]:=by
   unfold Src.get;rw [(keep _ _ _ j).2,List.getElem?_eq_getElem hi]
  obtain ⟨l1,h1,e1,f,l2,h2,e2,q⟩:=step i ds[i] l h (List.getElem?_eq_getElem hi) j;cases f with
  | nx =>
   obtain ⟨f',l',h',e',p⟩:=forD_w J keep step fin k (i+1) l2 h2 (by omega) q;exact ⟨f',l',h',by simp only [forD,eg,e1,e2];exact e',p⟩
  | ct =>
   obtain ⟨f',l',h',e',p⟩:=forD_w J keep step fin k (i+1) l2 h2 (by omega) q;exact ⟨f',l',h',by simp only [forD,eg,e1,e2];exact e',p⟩
  | bk=>exact ⟨.nx,l2,h2,by simp only [forD,eg,e1,e2],q⟩
  | rt d=>exact ⟨.rt d,l2,h2,by simp only [forD,eg,e1,e2],q⟩
theorem wS_for {mi:DM Src}{body:SM}(h:wD mi loc mh fun src h0=>∃ ds,∃ J:Nat→DL.Loc→MH→Prop,J 0 loc h0∧(∀ i l h,J i l h→src.ok h=true∧src.items h=ds) ∧
  (∀ i d l h,ds[i]?=some d→J i l h→wG (g d l h) fun l1 h1=>wS body l1 h1 (forK (J (i+1)) P))∧∀ l h,J ds.length l h→P .nx l h):wS (forS mi g body) loc mh P:=by
 obtain ⟨src,h0,e,ds,J,j0,keep,step,fin⟩:=h;have el:(src.items h0).length=ds.length:=by rw [(keep _ _ _ j0).2]
 obtain ⟨f,l,h',e',p⟩:=forD_w J keep step fin ds.length 0 loc h0 (by omega) j0;refine ⟨f,l,h',?_,p⟩;unfold forS;rw [e];dsimp only;rw [el];exact e'
theorem compD_w {src:Src}{ds:List D}{tc:DM Bool}{e:DM D}{R:List D→MH→Prop}(J:Nat→List D→MH→Prop) (keep:∀ i acc h,J i acc h→src.ok h=true∧src.items h=ds) (hz:ds.length≤1000000) (small:∀ i acc h,J i acc h→acc.length≤i)
  (step:∀ i d acc h,ds[i]?=some d→J i acc h→wG (g d loc h) fun l1 h1=>wD tc l1 h1 fun c h2=>(c=true→wD e l1 h2 fun y h3=>J (i+1) (acc++[y]) h3)∧(c=false→J (i+1) acc h2)) (fin:∀ acc h,J ds.length acc h→R acc h) :
  ∀ (k i:Nat) (acc:List D) (h:MH),i+k=ds.length→J i acc h→∃ acc' h',compD src g tc e loc k i acc h=some (acc',h')∧R acc' h'
 | 0,i,acc,h,q,j=>by
  have q:i=ds.length:=by omega
  subst q;have s:src.stop h ds.length=true:=by
   unfold Src.stop;rw [(keep _ _ _ j).1,(keep _ _ _ j).2,Bool.true_and];exact decide_eq_true (Nat.le_refl _)
  exact ⟨acc,h,by simp only [compD,s,if_true],fin _ _ j⟩
 | k+1,i,acc,h,q,j=>by
  have hi:i < ds.length:=by omega
  have eg:src.get h i=some ds[i]:=by
   unfold Src.get;rw [(keep _ _ _ j).2,List.getElem?_eq_getElem hi]
  obtain ⟨l1,h1,e1,c,h2,e2,a,b⟩:=step i ds[i] acc h (List.getElem?_eq_getElem hi) j;cases c with
  | true =>
   obtain ⟨y,h3,e3,j3⟩:=a rfl;obtain ⟨acc',h',e',p⟩:=compD_w J keep hz small step fin k (i+1) _ h3 (by omega) j3;have hl:acc.length < sizeLine:=lt_size (by have:=small _ _ _ j;omega);exact ⟨acc',h',by simp only [compD,eg,e1,e2,if_true,e3,if_pos hl];exact e',p⟩
  | false =>
   obtain ⟨acc',h',e',p⟩:=compD_w J keep hz small step fin k (i+1) _ h2 (by omega) (b rfl);exact ⟨acc',h',by simp only [compD,eg,e1,e2,Bool.false_eq_true,if_false];exact e',p⟩
theorem wD_comp {mi:DM Src}{cs:List (Option Nat)}{tc:DM Bool}{e:DM D}{Q:D→MH→Prop}(h:wD mi loc mh fun src h0=>∃ ds,∃ J:Nat→List D→MH→Prop,ds.length≤1000000∧J 0 [] h0∧(∀ i acc h,J i acc h→src.ok h=true∧src.items h=ds)∧(∀ i acc h,J i acc h→acc.length≤i) ∧
  (∀ i d acc h,ds[i]?=some d→J i acc h→wG (g d (capD cs loc) h) fun l1 h1=>wD tc l1 h1 fun c h2=>(c=true→wD e l1 h2 fun y h3=>J (i+1) (acc++[y]) h3)∧(c=false→J (i+1) acc h2)) ∧
  ∀ acc h,J ds.length acc h→Q (.ref h.length) (h++[.lst acc])):wD (compM mi cs g tc e) loc mh Q:=by
 obtain ⟨src,h0,e0,ds,J,hz,j0,keep,small,step,fin⟩:=h;have el:(src.items h0).length=ds.length:=by rw [(keep _ _ _ j0).2]
 obtain ⟨acc,h',e',p⟩:=compD_w J keep hz small step fin ds.length 0 [] h0 (by omega) j0;refine ⟨.ref h'.length,h'++[.lst acc],?_,p⟩;unfold compM;rw [e0];dsimp only;rw [el,e']
end
noncomputable def retK (P:D→MH→Prop) (f:Fl) (_:DL.Loc) (h:MH):Prop:=match f with
 | .rt d=>P d h
 | .nx=>P .non h
 | _=>False
theorem wV_run {G:Gb}{n:Nat}{I:FnI}{b:SM}{ds:List D}{mh:MH}{np m:Nat}{P:D→MH→Prop}(hb:iSs G n { N:=I.N,scope:=I.scope,own:=fun _=>true } I.body=b) (hp:I.ps.length=np) (hN:I.N.length=m) (hl:ds.length=np)
  (h:wS b (ds.map some++List.replicate (m - np) none) mh (retK P)):wV (runF G n I ds mh) P:=by
 obtain ⟨f,l,h',e,p⟩:=h;cases f with
 | rt d=>exact ⟨d,h',by unfold runF;rw [if_pos (by rw [hp];exact hl),hb,hN,hl,e],p⟩
 | nx=>exact ⟨.non,h',by unfold runF;rw [if_pos (by rw [hp];exact hl),hb,hN,hl,e],p⟩
 | bk=>exact p.elim
 | ct=>exact p.elim
section
variable {mh:MH}{P:D→MH→Prop}
theorem wV_of {r:Option (D×MH)}{d:D}{h:MH}(e:r=some (d,h)) (p:P d h):wV r P:=⟨d,h,e,p⟩
theorem wV_iop {C:Int→Int→Bool}{g:Int→Int→Int}{i j:Int}(hC:C i j=true) (h:P (.int (g i j)) mh):wV (iop C g (.int i) (.int j) mh) P:=⟨_,_,by rw [iop_ap,if_pos hC],h⟩
theorem wV_sub {i j:Int}(h:P (.int (i - j)) mh):wV (subD (.int i) (.int j) mh) P:=wV_iop rfl h
theorem wV_mod {i j:Int}(hj:j≠0) (h:P (.int (i.fmod j)) mh):wV (modD (.int i) (.int j) mh) P:=wV_iop (decide_eq_true hj) h
theorem wV_fdiv {i j:Int}(hj:j≠0) (hb:j.natAbs < 10889035741470030830827987437816582766592) (h:P (.int (i.fdiv j)) mh):wV (fdivD (.int i) (.int j) mh) P:=wV_iop (by rw [decide_eq_true hj,decide_eq_true hb];rfl) h
theorem wV_mul {i j:Int}(hb:(-(2 ^ 64) < i∧i < 2 ^ 64)∨(-(2 ^ 64) < j∧j < 2 ^ 64)) (h:P (.int (i * j)) mh):wV (mulD (.int i) (.int j) mh) P:=show wV (iop cmulB (fun i j=>i * j) (.int i) (.int j) mh) P from wV_iop (by unfold cmulB;rw [Bool.or_eq_true,decide_eq_true_iff,decide_eq_true_iff];exact hb) h
theorem wV_icmp {g:Int→Int→Bool}{i j:Int}(h:P (.bl (g i j)) mh):wV (icmp g (.int i) (.int j) mh) P:=⟨_,_,rfl,h⟩
theorem wV_add {i j:Int}(h:P (.int (i+j)) mh):wV (addD (.int i) (.int j) mh) P:=⟨_,_,rfl,h⟩
theorem wV_eqI {i j:Int}(h:P (.bl (i==j)) mh):wV (eqD (.int i) (.int j) mh) P:=⟨_,_,rfl,h⟩
theorem wV_neI {i j:Int}(h:P (.bl (!(i==j))) mh):wV (neD (.int i) (.int j) mh) P:=⟨_,_,rfl,h⟩
theorem wV_eq {x y:D}{k:Bool}(e:eqB mh x y=some k) (h:P (.bl k) mh):wV (eqD x y mh) P:=⟨_,_,by unfold eqD;rw [e],h⟩
theorem wV_ne {x y:D}{k:Bool}(e:eqB mh x y=some k) (h:P (.bl (!k)) mh):wV (neD x y mh) P:=⟨_,_,by unfold neD;rw [e],h⟩
theorem wV_addL {n m:Nat}{xs ys:List D}(e1:mh[n]?=some (.lst xs)) (e2:mh[m]?=some (.lst ys)) (hz:xs.length+ys.length≤1000000) (h:P (.ref mh.length) (mh++[.lst (xs++ys)])):wV (addD (.ref n) (.ref m) mh) P:=⟨_,_,addD_lst e1 e2 hz,h⟩
theorem wV_addT {xs ys:List D}(hz:xs.length+ys.length≤1000000) (h:P (.tup (xs++ys)) mh):wV (addD (.tup xs) (.tup ys) mh) P:=⟨_,_,by simp only [addD,if_pos (le_size hz)],h⟩
theorem wV_ixT {ds:List D}{j:Nat}{d:D}(e:ds[j]?=some d) (h:P d mh):wV (ixD (.tup ds) (.int j) mh) P:=⟨d,mh,by simp only [ixD,dctOf,ixD0,seqD,atI_nat e],h⟩
theorem wV_ixR {ds:List D}{j:Nat}{d:D}(e:ds[j]?=some d) (h:P d mh):wV (ixD (.rol ds) (.int j) mh) P:=⟨d,mh,by simp only [ixD,dctOf,ixD0,seqD,atI_nat e],h⟩
theorem wV_ixL {n:Nat}{ds:List D}{j:Nat}{d:D}(e1:mh[n]?=some (.lst ds)) (e:ds[j]?=some d) (h:P d mh):wV (ixD (.ref n) (.int j) mh) P:=⟨d,mh,by simp only [ixD,dctOf_lst e1,ixD0,seqD,e1,atI_nat e],h⟩
theorem wV_append {n:Nat}{ds:List D}{y:D}(e:mh[n]?=some (.lst ds)) (hz:ds.length≤1000000) (h:P .non (mh.set n (.lst (ds++[y])))):wV (appendD (.ref n) [y] mh) P:=⟨_,_,appendD_ok e hz,h⟩
theorem wV_popAt {n k:Nat}{ds:List D}{y:D}(e:mh[n]?=some (.lst ds)) (hy:ds[k]?=some y) (hz:ds.length≤1000000) (h:P y (mh.set n (.lst (ds.eraseIdx k)))):wV (popAtD (.ref n) [.int k] mh) P:=by
 have hk:k < ds.length:=(List.getElem?_eq_some_iff.mp hy).1;have e2:ixN ds.length (k:Int)=some k:=by unfold ixN;rw [if_pos (by omega),if_pos (by omega)];simp
 have hb:-(2 ^ 63)≤(k:Int)∧(k:Int) < 2 ^ 63:=by omega
 exact ⟨_,_,by simp only [popAtD,e,if_pos hb,e2,hy],h⟩
theorem wV_len {x:D}{ds:List D}(hx:∀ z,x≠.str z) (e:seqD x mh=some ds) (h:P (.int ds.length) mh):wV (lenD [x] mh) P:=by
 refine ⟨_,_,?_,h⟩;cases x with
 | str z=>exact (hx z rfl).elim
 | _=>simp only [lenD,e]
theorem wV_listOf {x:D}{ds:List D}(e:seqD x mh=some ds) (h:P (.ref mh.length) (mh++[.lst ds])):wV (listD [x] mh) P:=⟨_,_,by simp only [listD,e],h⟩
end
structure Ext (W:List Nat) (a b:MH):Prop where
 len:a.length≤b.length
 old:∀ i o,i ∉ W→a[i]?=some o→b[i]?=some o
theorem Ext.refl {W:List Nat}{a:MH}:Ext W a a:=⟨Nat.le_refl _,fun _ _ _ e=>e⟩
theorem Ext.trans {W:List Nat}{a b c:MH}(x:Ext W a b) (y:Ext W b c):Ext W a c:=⟨Nat.le_trans x.len y.len,fun i o h e=>y.old i o h (x.old i o h e)⟩
theorem Ext.weak {W:List Nat}{a b:MH}(x:Ext [] a b):Ext W a b:=⟨x.len,fun i o _ e=>x.old i o (by simp) e⟩
theorem Ext.more {W:List Nat}{a g:MH}:Ext W a (a++g):=⟨by rw [List.length_append];omega,fun i o _ e=>by rw [List.getElem?_append_left (List.getElem?_eq_some_iff.mp e).1];exact e⟩
theorem Ext.set {n:Nat}{a:MH}{o:MO}:Ext [n] a (a.set n o):=⟨by rw [List.length_set];exact Nat.le_refl _,fun i o' h e=>by rw [List.getElem?_set_ne (fun z=>h (by simp [z]))];exact e⟩
theorem Ext.setNew {W:List Nat}{n:Nat}{a b:MH}{o:MO}(x:Ext W a b) (h:a.length≤n):Ext W a (b.set n o):=⟨by rw [List.length_set];exact x.len,fun i o' hi e=>by
 have:i < a.length:=(List.getElem?_eq_some_iff.mp e).1
 rw [List.getElem?_set_ne (by omega)];exact x.old i o' hi e⟩
theorem at_new {a:MH}{o:MO}:(a++[o])[a.length]?=some o:=by rw [List.getElem?_append_right (Nat.le_refl _),Nat.sub_self];rfl
theorem at_set {a:MH}{n:Nat}{o o':MO}(h:a[n]?=some o'):(a.set n o)[n]?=some o:=by
 rw [List.getElem?_set];simp [(List.getElem?_eq_some_iff.mp h).1]
theorem eqB_strs {a b:Str}{k:Bool}(ha:PyData.strOk a=true) (hb:PyData.strOk b=true) (e:(a==b)=k) (mh:MH):eqB mh (.str a) (.str b)=some k:=by
 unfold eqB;simp only [py,if_pos ha,if_pos hb,PyData.eqv,e]
section
variable {loc:DL.Loc}{mh:MH}{ma:DM D}{mr:DM (List D)}{P:D→MH→Prop}
theorem wD_dicIx {kvs:List (Str×D)}(h:wD ma loc mh fun x h1=>∃ k d,x=.str k∧kvs.lookup k=some d∧P d h1):wD (dicIx kvs ma) loc mh P:=wD_bnd (wD_mono h fun _ _ ⟨k,d,e,l,q⟩=>by
 subst e;show wD (match kvs.lookup k with | some d=>DM.ret d | none=>DM.bad) _ _ _
 rw [l];exact wD_ret q)
theorem wD_zip {R:Src→MH→Prop}(h:wD mr loc mh fun ds h1=>∃ x y s t,ds=[x,y]∧srcOf x h1=some s∧srcOf y h1=some t∧R (.zip s t) h1):wD (zipM mr) loc mh R:=wD_bnd (wD_mono h fun _ h1 ⟨x,y,s,t,e,e1,e2,q⟩=>by
 subst e
 exact ⟨_,h1,by simp only [zipS,e1,e2],q⟩)
theorem wV_pow {i j:Int}(h1:0≤j) (h2:j≤1000000) (h3:i.natAbs < 2 ^ 64) (h:P (.int (i ^ j.toNat)) mh):wV (powD (.int i) (.int j) mh) P:=wV_iop (by rw [decide_eq_true h1,decide_eq_true h2,decide_eq_true h3];rfl) h
theorem seqt {a b:Str}(ha:PyData.strOk a=true) (hb:PyData.strOk b=true) (e:(a==b)=true) (h:P (.bl true) mh):wV (eqD (.str a) (.str b) mh) P:=wV_eq (eqB_strs ha hb e mh) h
theorem seqf {a b:Str}(ha:PyData.strOk a=true) (hb:PyData.strOk b=true) (e:(a==b)=false) (h:P (.bl false) mh):wV (eqD (.str a) (.str b) mh) P:=wV_eq (eqB_strs ha hb e mh) h
end
noncomputable def pCons (x:Str) (me:DM D) (mr:DM (List (Key×D))):DM (List (Key×D)):=me.bnd fun d=>mr.bnd fun r=>DM.ret ((.inr x,d)::r)
section
variable {loc:DL.Loc}{mh:MH}{ma:DM D}{mr:DM (List D)}{P:D→MH→Prop}
theorem wD_get {kvs:List (Str×D)}(h:wD mr loc mh fun ds h1=>∃ d,getOf kvs ds=some d∧P d h1):wD (dicGet kvs mr) loc mh P:=wD_bnd (wD_mono h fun ds _ ⟨d,e,q⟩=>by
 show wD (match getOf kvs ds with | some d=>DM.ret d | none=>DM.bad) _ _ _
 rw [e];exact wD_ret q)
theorem wD_disp {ps:DM (List (Key×D))}(h:wD ps loc (mh++[.dct []]) fun kds m2=>m2[mh.length]?=some (.dct [])∧kds.length≤15∧P (.ref mh.length) (m2.set mh.length (.dct (mergeD [] kds)))):wD (dispM ps) loc mh P:=by
 obtain ⟨kds,m2,e,e1,e2,p⟩:=h;exact ⟨_,_,by unfold dispM;rw [e];dsimp only;rw [e1];dsimp only;rw [if_pos e2],p⟩
theorem wD_dispC {ps:DM (List (Key×D))}{kds:List (Key×D)}(e:∀ h,ps loc h=some (kds,h)) (hk:kds.length≤15) (h:P (.ref mh.length) (mh++[.dct (mergeD [] kds)])):wD (dispM ps) loc mh P :=
 wD_disp ⟨kds,_,e _,at_new,hk,by
  have:(mh++[MO.dct []]).set mh.length (.dct (mergeD [] kds))=mh++[.dct (mergeD [] kds)]:=by
   rw [List.set_append_right _ _ (Nat.le_refl _),Nat.sub_self];rfl
  rw [this];exact h⟩
theorem wV_inK {neg:Bool}{x:D}{k:Key}{n:Nat}{kvs:List (Key×D)}(e:mh[n]?=some (.dct kvs)) (ek:keyD x=some k) (h:P (.bl (if neg then !(valD kvs k).isSome else (valD kvs k).isSome)) mh):wV (inD neg x (.ref n) mh) P :=
 ⟨_,_,by unfold inD;rw [dctOf_dct e];dsimp only;rw [ek],h⟩
theorem wV_ixK {y:D}{k:Key}{n:Nat}{kvs:List (Key×D)}{d:D}(e:mh[n]?=some (.dct kvs)) (ek:keyD y=some k) (ed:valD kvs k=some d) (h:P d mh):wV (ixD (.ref n) y mh) P :=
 ⟨_,_,by unfold ixD;rw [dctOf_dct e];dsimp only;rw [ek];dsimp only;rw [ed],h⟩
end
theorem ex_bl {k:Bool}{B:Bool→Prop}(h:B k):∃ j,D.bl k=.bl j∧B j:=⟨k,rfl,h⟩
theorem ex_int {i:Int}{B:Int→Prop}(h:B i):∃ j,D.int i=.int j∧B j:=⟨i,rfl,h⟩
theorem when_t {p q:Prop}(h:p):((true=true)→p)∧((true=false)→q):=⟨fun _=>h,fun z=>by cases z⟩
theorem when_f {p q:Prop}(h:q):((false=true)→p)∧((false=false)→q):=⟨fun z=>(by cases z),fun _=>h⟩
theorem when_tt {k:Bool}{p q:Prop}(e:k=true) (h:p):(k=true→p)∧(k=false→q):=⟨fun _=>h,fun z=>by rw [e] at z;cases z⟩
theorem when_ff {k:Bool}{p q:Prop}(e:k=false) (h:q):(k=true→p)∧(k=false→q):=⟨fun z=>(by rw [e] at z;cases z),fun _=>h⟩
theorem when_of {k:Bool}{p q:Prop}(h1:k=true→p) (h2:k=false→q):(k=true→p)∧(k=false→q):=⟨h1,h2⟩
theorem tru_bl {k:Bool}{h:MH}{B:Bool→Prop}(q:B k):∃ j,truD (.bl k) h=some j∧B j:=⟨k,rfl,q⟩
theorem wV_isi {T t:String}{x:D}{b:Bool}{mh:MH}{P:D→MH→Prop}(e1:tyName x mh=some t) (e2:isiB t T=some b) (h:P (.bl b) mh):wV (isiD T x mh) P:=⟨_,_,by unfold isiD;rw [e1];dsimp only;rw [e2],h⟩
mutual
noncomputable def dat:Nat→D→Bool
 | _,.int _=>true
 | _,.bl _=>true
 | _,.non=>true
 | _,.str x=>PyData.strOk x
 | n+1,.tup ds=>dats n ds
 | _,_=>false
noncomputable def dats:Nat→List D→Bool
 | _,[]=>true
 | n,d::r=>dat n d&&dats n r
end
mutual
theorem dat_py (mh:MH):∀ (n:Nat) (d:D),dat n d=true→∃ a,py mh n d=some a∧a.canLay0=true
 | n,.int i,_=>⟨.int i,by cases n <;> rfl,rfl⟩
 | n,.bl i,_=>⟨.bool i,by cases n <;> rfl,rfl⟩
 | n,.non,_=>⟨.none,by cases n <;> rfl,rfl⟩
 | n,.str x,h=>by
  have h2:PyData.strOk x=true:=by cases n <;> exact h
  exact ⟨.str x,by cases n <;> (show (if PyData.strOk x=true then some (PyData.str x) else none)=_;rw [if_pos h2]),h2⟩
 | 0,.tup ds,h=>by simp [dat] at h
 | n+1,.tup ds,h=>by
  have h:dats n ds=true:=h;obtain ⟨as,e,l⟩:=dats_py mh n ds h;exact ⟨.tuple as,by simp only [py,e],by simpa [PyData.canLay0] using l⟩
 | 0,.ref _,h=>by simp [dat] at h
 | _+1,.ref _,h=>by simp [dat] at h
 | 0,.rol _,h=>by simp [dat] at h
 | _+1,.rol _,h=>by simp [dat] at h
 | 0,.obj ..,h=>by simp [dat] at h
 | _+1,.obj ..,h=>by simp [dat] at h
theorem dats_py (mh:MH):∀ (n:Nat) (ds:List D),dats n ds=true→∃ as,mapO (py mh n) ds=some as∧PyData.canLayAll0 as=true
 | n,[],_=>⟨[],rfl,rfl⟩
 | n,d::r,h=>by
  have h:(dat n d&&dats n r)=true:=by simpa [dats] using h
  rw [Bool.and_eq_true] at h;obtain ⟨a,e1,l1⟩:=dat_py mh n d h.1;obtain ⟨as,e2,l2⟩:=dats_py mh n r h.2;exact ⟨a::as,by simp only [mapO,e1,e2],by simp only [PyData.canLayAll0,l1,l2,Bool.and_self]⟩
end
theorem wV_sortI {n:Nat}{ns:List Int}{mh:MH}{P:D→MH→Prop}(e:mh[n]?=some (.lst (ns.map D.int))) (hz:ns.length < 64) (h:P (.ref mh.length) (mh++[.lst ((sortI ns).map D.int)])):wV (sortedA [.ref n] mh) P :=
 ⟨_,_,by show sortedD [.ref n] mh=_;simp only [sortedD,e,intsOf_map,if_pos hz],h⟩
theorem ty_list {a:Nat}{ds:List D}{mh:MH}(e:mh[a]?=some (.lst ds)):tyOk "list" (.ref a) mh=true:=by
 show (true&&(match mh[a]? with | some (.lst _)=>true | _=>false))=true;rw [e];rfl
end DL
namespace Lw
open PySem L2 DL
noncomputable def top (i:Nat):Stmt:=PySem.Challenge.pw_letterall_k45_claims_looked_over.main.body.getD i (.Pass ⟨0,0,0,0⟩)
noncomputable abbrev s1:Stmt:=top 1
noncomputable def f1:FnI:=mkFn s1
noncomputable abbrev s2:Stmt:=top 2
noncomputable def f2:FnI:=mkFn s2
noncomputable abbrev s4:Stmt:=top 4
noncomputable def f4:FnI:=mkFn s4
noncomputable abbrev s22:Stmt:=top 22
noncomputable def f22:FnI:=mkFn s22
noncomputable abbrev s23:Stmt:=top 23
noncomputable def f23:FnI:=mkFn s23
noncomputable abbrev s24:Stmt:=top 24
noncomputable def f24:FnI:=mkFn s24
noncomputable abbrev s25:Stmt:=top 25
noncomputable def f25:FnI:=mkFn s25
noncomputable abbrev s27:Stmt:=top 27
noncomputable def f27:FnI:=mkFn s27
noncomputable abbrev s29:Stmt:=top 29
noncomputable def f29:FnI:=mkFn s29
noncomputable abbrev s30:Stmt:=top 30
noncomputable def f30:FnI:=mkFn s30
noncomputable abbrev s31:Stmt:=top 31
noncomputable def f31:FnI:=mkFn s31
noncomputable abbrev s32:Stmt:=top 32
noncomputable def f32:FnI:=mkFn s32
noncomputable abbrev s33:Stmt:=top 33
noncomputable def f33:FnI:=mkFn s33
noncomputable abbrev s34:Stmt:=top 34
noncomputable def f34:FnI:=mkFn s34
noncomputable abbrev s35:Stmt:=top 35
noncomputable def f35:FnI:=mkFn s35
noncomputable abbrev s36:Stmt:=top 36
noncomputable def f36:FnI:=mkFn s36
noncomputable abbrev s37:Stmt:=top 37
noncomputable def f37:FnI:=mkFn s37
noncomputable abbrev s38:Stmt:=top 38
noncomputable def f38:FnI:=mkFn s38
noncomputable abbrev s39:Stmt:=top 39
noncomputable def f39:FnI:=mkFn s39
noncomputable abbrev s40:Stmt:=top 40
noncomputable def f40:FnI:=mkFn s40
noncomputable abbrev s41:Stmt:=top 41
noncomputable def f41:FnI:=mkFn s41
noncomputable abbrev s42:Stmt:=top 42
noncomputable def f42:FnI:=mkFn s42
noncomputable abbrev s43:Stmt:=top 43
noncomputable def f43:FnI:=mkFn s43
noncomputable abbrev s44:Stmt:=top 44
noncomputable def f44:FnI:=mkFn s44
noncomputable abbrev s45:Stmt:=top 45
noncomputable def f45:FnI:=mkFn s45
noncomputable abbrev s46:Stmt:=top 46
noncomputable def f46:FnI:=mkFn s46
noncomputable def tb46 (x:Str):Option FnI:=if x == "law" then some f46 else none
noncomputable def tb45 (x:Str):Option FnI:=if x == "_law_refused" then some f45 else tb46 x
noncomputable def tb44 (x:Str):Option FnI:=if x == "_law_is_claim" then some f44 else tb45 x
noncomputable def tb43 (x:Str):Option FnI:=if x == "_law_is_test" then some f43 else tb44 x
noncomputable def tb42 (x:Str):Option FnI:=if x == "_law_hand" then some f42 else tb43 x
noncomputable def tb41 (x:Str):Option FnI:=if x == "_law_form" then some f41 else tb42 x
noncomputable def tb40 (x:Str):Option FnI:=if x == "_law_bound" then some f40 else tb41 x
noncomputable def tb39 (x:Str):Option FnI:=if x == "_law_whole" then some f39 else tb40 x
noncomputable def tb38 (x:Str):Option FnI:=if x == "_law_spoiled" then some f38 else tb39 x
noncomputable def tb37 (x:Str):Option FnI:=if x == "_law_odd" then some f37 else tb38 x
noncomputable def tb36 (x:Str):Option FnI:=if x == "_law_turned" then some f36 else tb37 x
noncomputable def tb35 (x:Str):Option FnI:=if x == "_law_claim" then some f35 else tb36 x
noncomputable def tb34 (x:Str):Option FnI:=if x == "_law_test" then some f34 else tb35 x
noncomputable def tb33 (x:Str):Option FnI:=if x == "_law_hand_test" then some f33 else tb34 x
noncomputable def tb32 (x:Str):Option FnI:=if x == "_law_bounds" then some f32 else tb33 x
noncomputable def tb31 (x:Str):Option FnI:=if x == "_law_draws" then some f31 else tb32 x
noncomputable def tb30 (x:Str):Option FnI:=if x == "_law_mixed" then some f30 else tb31 x
noncomputable def tb29 (x:Str):Option FnI:=if x == "_law_cell_at" then some f29 else tb30 x
noncomputable def tb27 (x:Str):Option FnI:=if x == "look_over_claim" then some f27 else tb29 x
noncomputable def tb25 (x:Str):Option FnI:=if x == "fits" then some f25 else tb27 x
noncomputable def tb24 (x:Str):Option FnI:=if x == "has_form" then some f24 else tb25 x
noncomputable def tb23 (x:Str):Option FnI:=if x == "word_of" then some f23 else tb24 x
noncomputable def tb22 (x:Str):Option FnI:=if x == "is_claim" then some f22 else tb23 x
noncomputable def tb4 (x:Str):Option FnI:=if x == "is_bound" then some f4 else tb22 x
noncomputable def tb2 (x:Str):Option FnI:=if x == "is_between" then some f2 else tb4 x
noncomputable def tb1 (x:Str):Option FnI:=if x == "is_whole" then some f1 else tb2 x
noncomputable def tb (x:Str):Option FnI:=tb1 x
noncomputable def con (x:Str):Option D:=if x == "ROLES" then some (.int (2)) else none
noncomputable def dCLAIM_FORMS:List (Str×D):=[("never",(.tup [(.str "test")])),("behind",(.tup [(.str "test"),(.str "test")])),("comes",(.tup [(.str "test"),(.str "test")]))]
noncomputable def dTEST_FORMS:List (Str×D):=[("count",(.tup [(.str "role"),(.str "test of a hand"),(.str "share"),(.str "share")])),("letters",(.tup [(.str "kind"),(.str "amount"),(.str "amount")])),("not",(.tup [(.str "test")])),("both",(.tup [(.str "test"),(.str "test")])),("either",(.tup [(.str "test"),(.str "test")]))]
noncomputable def dHAND_FORMS:List (Str×D):=[("at",(.tup [(.str "place")])),("number",(.tup [(.str "box"),(.str "bound"),(.str "bound")])),("has",(.tup [(.str "box")])),("many",(.tup [(.str "set box"),(.str "members")])),("bell",(.tup [])),("fallen",(.tup [])),("not",(.tup [(.str "test of a hand")])),("both",(.tup [(.str "test of a hand"),(.str "test of a hand")])),("either",(.tup [(.str "test of a hand"),(.str "test of a hand")]))]
noncomputable def dRANGES:List (Str×D):=[("kind",(.tup [(.int (1)),(.int (12))])),("place",(.tup [(.int (0)),(.int (60))])),("box",(.tup [(.int (0)),(.int (2))])),("set box",(.tup [(.int (0)),(.int (1))])),("members",(.tup [(.int (0)),(.int (6))]))]
noncomputable def dic (x:Str):Option (List (Str×D)):=if x == "CLAIM_FORMS" then some dCLAIM_FORMS else if x == "TEST_FORMS" then some dTEST_FORMS else if x == "HAND_FORMS" then some dHAND_FORMS else if x == "RANGES" then some dRANGES else none
noncomputable def fld (_ _:Str):Bool:=false
noncomputable def tbm (_ _:Str):Option FnI:=none
noncomputable def mkr (_:Str):Option Str:=none
noncomputable def Tt:Tb:={ tb:=tb,con:=con,dic:=dic,fld:=fld,tbm:=tbm,mkr:=mkr }
theorem sc1:FnScope f1.N f1.ps (defScope s1):=⟨rfl,rfl,rfl,by decide +kernel,by decide +kernel,by decide +kernel,by decide +kernel⟩
theorem sc2:FnScope f2.N f2.ps (defScope s2):=⟨rfl,rfl,rfl,by decide +kernel,by decide +kernel,by decide +kernel,by decide +kernel⟩
theorem sc4:FnScope f4.N f4.ps (defScope s4):=⟨rfl,rfl,rfl,by decide +kernel,by decide +kernel,by decide +kernel,by decide +kernel⟩
theorem sc22:FnScope f22.N f22.ps (defScope s22):=⟨rfl,rfl,rfl,by decide +kernel,by decide +kernel,by decide +kernel,by decide +kernel⟩
theorem sc23:FnScope f23.N f23.ps (defScope s23):=⟨rfl,rfl,rfl,by decide +kernel,by decide +kernel,by decide +kernel,by decide +kernel⟩
theorem sc24:FnScope f24.N f24.ps (defScope s24):=⟨rfl,rfl,rfl,by decide +kernel,by decide +kernel,by decide +kernel,by decide +kernel⟩
theorem sc25:FnScope f25.N f25.ps (defScope s25):=⟨rfl,rfl,rfl,by decide +kernel,by decide +kernel,by decide +kernel,by decide +kernel⟩
theorem sc27:FnScope f27.N f27.ps (defScope s27):=⟨rfl,rfl,rfl,by decide +kernel,by decide +kernel,by decide +kernel,by decide +kernel⟩
theorem sc29:FnScope f29.N f29.ps (defScope s29):=⟨rfl,rfl,rfl,by decide +kernel,by decide +kernel,by decide +kernel,by decide +kernel⟩
theorem sc30:FnScope f30.N f30.ps (defScope s30):=⟨rfl,rfl,rfl,by decide +kernel,by decide +kernel,by decide +kernel,by decide +kernel⟩
theorem sc31:FnScope f31.N f31.ps (defScope s31):=⟨rfl,rfl,rfl,by decide +kernel,by decide +kernel,by decide +kernel,by decide +kernel⟩
theorem sc32:FnScope f32.N f32.ps (defScope s32):=⟨rfl,rfl,rfl,by decide +kernel,by decide +kernel,by decide +kernel,by decide +kernel⟩
theorem sc33:FnScope f33.N f33.ps (defScope s33):=⟨rfl,rfl,rfl,by decide +kernel,by decide +kernel,by decide +kernel,by decide +kernel⟩
theorem sc34:FnScope f34.N f34.ps (defScope s34):=⟨rfl,rfl,rfl,by decide +kernel,by decide +kernel,by decide +kernel,by decide +kernel⟩
theorem sc35:FnScope f35.N f35.ps (defScope s35):=⟨rfl,rfl,rfl,by decide +kernel,by decide +kernel,by decide +kernel,by decide +kernel⟩
theorem sc36:FnScope f36.N f36.ps (defScope s36):=⟨rfl,rfl,rfl,by decide +kernel,by decide +kernel,by decide +kernel,by decide +kernel⟩
theorem sc37:FnScope f37.N f37.ps (defScope s37):=⟨rfl,rfl,rfl,by decide +kernel,by decide +kernel,by decide +kernel,by decide +kernel⟩
theorem sc38:FnScope f38.N f38.ps (defScope s38):=⟨rfl,rfl,rfl,by decide +kernel,by decide +kernel,by decide +kernel,by decide +kernel⟩
theorem sc39:FnScope f39.N f39.ps (defScope s39):=⟨rfl,rfl,rfl,by decide +kernel,by decide +kernel,by decide +kernel,by decide +kernel⟩
theorem sc40:FnScope f40.N f40.ps (defScope s40):=⟨rfl,rfl,rfl,by decide +kernel,by decide +kernel,by decide +kernel,by decide +kernel⟩
theorem sc41:FnScope f41.N f41.ps (defScope s41):=⟨rfl,rfl,rfl,by decide +kernel,by decide +kernel,by decide +kernel,by decide +kernel⟩
theorem sc42:FnScope f42.N f42.ps (defScope s42):=⟨rfl,rfl,rfl,by decide +kernel,by decide +kernel,by decide +kernel,by decide +kernel⟩
theorem sc43:FnScope f43.N f43.ps (defScope s43):=⟨rfl,rfl,rfl,by decide +kernel,by decide +kernel,by decide +kernel,by decide +kernel⟩
theorem sc44:FnScope f44.N f44.ps (defScope s44):=⟨rfl,rfl,rfl,by decide +kernel,by decide +kernel,by decide +kernel,by decide +kernel⟩
theorem sc45:FnScope f45.N f45.ps (defScope s45):=⟨rfl,rfl,rfl,by decide +kernel,by decide +kernel,by decide +kernel,by decide +kernel⟩
theorem sc46:FnScope f46.N f46.ps (defScope s46):=⟨rfl,rfl,rfl,by decide +kernel,by decide +kernel,by decide +kernel,by decide +kernel⟩
theorem lenP1:f1.ps.length=1:=by decide +kernel
theorem lenP2:f2.ps.length=3:=by decide +kernel
theorem lenP4:f4.ps.length=1:=by decide +kernel
theorem lenP22:f22.ps.length=2:=by decide +kernel
theorem lenP23:f23.ps.length=1:=by decide +kernel
theorem lenP24:f24.ps.length=3:=by decide +kernel
theorem lenP25:f25.ps.length=3:=by decide +kernel
theorem lenP27:f27.ps.length=2:=by decide +kernel
theorem lenP29:f29.ps.length=2:=by decide +kernel
theorem lenP30:f30.ps.length=2:=by decide +kernel
theorem lenP31:f31.ps.length=3:=by decide +kernel
theorem lenP32:f32.ps.length=3:=by decide +kernel
theorem lenP33:f33.ps.length=2:=by decide +kernel
theorem lenP34:f34.ps.length=3:=by decide +kernel
theorem lenP35:f35.ps.length=2:=by decide +kernel
theorem lenP36:f36.ps.length=2:=by decide +kernel
theorem lenP37:f37.ps.length=2:=by decide +kernel
theorem lenP38:f38.ps.length=3:=by decide +kernel
theorem lenP39:f39.ps.length=3:=by decide +kernel
theorem lenP40:f40.ps.length=3:=by decide +kernel
theorem lenP41:f41.ps.length=2:=by decide +kernel
theorem lenP42:f42.ps.length=1:=by decide +kernel
theorem lenP43:f43.ps.length=2:=by decide +kernel
theorem lenP44:f44.ps.length=2:=by decide +kernel
theorem lenP45:f45.ps.length=2:=by decide +kernel
theorem lenP46:f46.ps.length=1:=by decide +kernel
theorem tbok {w:World}{K:PySem.W.Frag}{h:Heap}{mg:Str→Option Value}(X:K.In h) (G:h.Ns mainGlobals mg)
  {f1':Addr} {od1 an1:Option Addr} {sl1:Array (Option Value)} {oc1 kV1 dc1 pm1 cd1 ct1:Value}
  {f2':Addr} {od2 an2:Option Addr} {sl2:Array (Option Value)} {oc2 kV2 dc2 pm2 cd2 ct2:Value}
  {f4':Addr} {od4 an4:Option Addr} {sl4:Array (Option Value)} {oc4 kV4 dc4 pm4 cd4 ct4:Value}
  {f22':Addr} {od22 an22:Option Addr} {sl22:Array (Option Value)} {oc22 kV22 dc22 pm22 cd22 ct22:Value}
  {f23':Addr} {od23 an23:Option Addr} {sl23:Array (Option Value)} {oc23 kV23 dc23 pm23 cd23 ct23:Value}
  {f24':Addr} {od24 an24:Option Addr} {sl24:Array (Option Value)} {oc24 kV24 dc24 pm24 cd24 ct24:Value}
  {f25':Addr} {od25 an25:Option Addr} {sl25:Array (Option Value)} {oc25 kV25 dc25 pm25 cd25 ct25:Value}
  {f27':Addr} {od27 an27:Option Addr} {sl27:Array (Option Value)} {oc27 kV27 dc27 pm27 cd27 ct27:Value}
  {f29':Addr} {od29 an29:Option Addr} {sl29:Array (Option Value)} {oc29 kV29 dc29 pm29 cd29 ct29:Value}
  {f30':Addr} {od30 an30:Option Addr} {sl30:Array (Option Value)} {oc30 kV30 dc30 pm30 cd30 ct30:Value}
  {f31':Addr} {od31 an31:Option Addr} {sl31:Array (Option Value)} {oc31 kV31 dc31 pm31 cd31 ct31:Value}
  {f32':Addr} {od32 an32:Option Addr} {sl32:Array (Option Value)} {oc32 kV32 dc32 pm32 cd32 ct32:Value}
  {f33':Addr} {od33 an33:Option Addr} {sl33:Array (Option Value)} {oc33 kV33 dc33 pm33 cd33 ct33:Value}
  {f34':Addr} {od34 an34:Option Addr} {sl34:Array (Option Value)} {oc34 kV34 dc34 pm34 cd34 ct34:Value}
  {f35':Addr} {od35 an35:Option Addr} {sl35:Array (Option Value)} {oc35 kV35 dc35 pm35 cd35 ct35:Value}
  {f36':Addr} {od36 an36:Option Addr} {sl36:Array (Option Value)} {oc36 kV36 dc36 pm36 cd36 ct36:Value}
  {f37':Addr} {od37 an37:Option Addr} {sl37:Array (Option Value)} {oc37 kV37 dc37 pm37 cd37 ct37:Value}
  {f38':Addr} {od38 an38:Option Addr} {sl38:Array (Option Value)} {oc38 kV38 dc38 pm38 cd38 ct38:Value}
  {f39':Addr} {od39 an39:Option Addr} {sl39:Array (Option Value)} {oc39 kV39 dc39 pm39 cd39 ct39:Value}
  {f40':Addr} {od40 an40:Option Addr} {sl40:Array (Option Value)} {oc40 kV40 dc40 pm40 cd40 ct40:Value}
  {f41':Addr} {od41 an41:Option Addr} {sl41:Array (Option Value)} {oc41 kV41 dc41 pm41 cd41 ct41:Value}
  {f42':Addr} {od42 an42:Option Addr} {sl42:Array (Option Value)} {oc42 kV42 dc42 pm42 cd42 ct42:Value}
  {f43':Addr} {od43 an43:Option Addr} {sl43:Array (Option Value)} {oc43 kV43 dc43 pm43 cd43 ct43:Value}
  {f44':Addr} {od44 an44:Option Addr} {sl44:Array (Option Value)} {oc44 kV44 dc44 pm44 cd44 ct44:Value}
  {f45':Addr} {od45 an45:Option Addr} {sl45:Array (Option Value)} {oc45 kV45 dc45 pm45 cd45 ct45:Value}
  {f46':Addr} {od46 an46:Option Addr} {sl46:Array (Option Value)} {oc46 kV46 dc46 pm46 cd46 ct46:Value}
  {tk0:Tok}
  {da0:Addr} {es0:Array DictEntry} {ep0:Nat}
  {da1:Addr} {es1:Array DictEntry} {ep1:Nat}
  {da2:Addr} {es2:Array DictEntry} {ep2:Nat}
  {da3:Addr} {es3:Array DictEntry} {ep3:Nat}
  (a1:PySem.W.nsIn K mainGlobals "is_whole"=some (some (.ref f1')))
  (l1:K.lookup f1'=some ⟨oc1,od1,.func (PySem.W.fnOf "is_whole" "is_whole" (defArgs s1) (defBody s1) (defScope s1) .none kV1 dc1 pm1 an1 cd1 ct1),sl1⟩)
  (c1:PySem.W.codeIn K cd1 "is_whole"=true)
  (k1:PySem.W.keepIn K (.ref f1')=true)
  (a2:PySem.W.nsIn K mainGlobals "is_between"=some (some (.ref f2')))
  (l2:K.lookup f2'=some ⟨oc2,od2,.func (PySem.W.fnOf "is_between" "is_between" (defArgs s2) (defBody s2) (defScope s2) .none kV2 dc2 pm2 an2 cd2 ct2),sl2⟩)
  (c2:PySem.W.codeIn K cd2 "is_between"=true)
  (k2:PySem.W.keepIn K (.ref f2')=true)
  (a4:PySem.W.nsIn K mainGlobals "is_bound"=some (some (.ref f4')))
  (l4:K.lookup f4'=some ⟨oc4,od4,.func (PySem.W.fnOf "is_bound" "is_bound" (defArgs s4) (defBody s4) (defScope s4) .none kV4 dc4 pm4 an4 cd4 ct4),sl4⟩)
  (c4:PySem.W.codeIn K cd4 "is_bound"=true)
  (k4:PySem.W.keepIn K (.ref f4')=true)
  (a22:PySem.W.nsIn K mainGlobals "is_claim"=some (some (.ref f22')))
  (l22:K.lookup f22'=some ⟨oc22,od22,.func (PySem.W.fnOf "is_claim" "is_claim" (defArgs s22) (defBody s22) (defScope s22) .none kV22 dc22 pm22 an22 cd22 ct22),sl22⟩)
  (c22:PySem.W.codeIn K cd22 "is_claim"=true)
  (k22:PySem.W.keepIn K (.ref f22')=true)
  (a23:PySem.W.nsIn K mainGlobals "word_of"=some (some (.ref f23')))
  (l23:K.lookup f23'=some ⟨oc23,od23,.func (PySem.W.fnOf "word_of" "word_of" (defArgs s23) (defBody s23) (defScope s23) .none kV23 dc23 pm23 an23 cd23 ct23),sl23⟩)
  (c23:PySem.W.codeIn K cd23 "word_of"=true)
  (k23:PySem.W.keepIn K (.ref f23')=true)
  (a24:PySem.W.nsIn K mainGlobals "has_form"=some (some (.ref f24')))
  (l24:K.lookup f24'=some ⟨oc24,od24,.func (PySem.W.fnOf "has_form" "has_form" (defArgs s24) (defBody s24) (defScope s24) .none kV24 dc24 pm24 an24 cd24 ct24),sl24⟩)
  (c24:PySem.W.codeIn K cd24 "has_form"=true)
  (k24:PySem.W.keepIn K (.ref f24')=true)
  (a25:PySem.W.nsIn K mainGlobals "fits"=some (some (.ref f25')))
  (l25:K.lookup f25'=some ⟨oc25,od25,.func (PySem.W.fnOf "fits" "fits" (defArgs s25) (defBody s25) (defScope s25) .none kV25 dc25 pm25 an25 cd25 ct25),sl25⟩)
  (c25:PySem.W.codeIn K cd25 "fits"=true)
  (k25:PySem.W.keepIn K (.ref f25')=true)
  (a27:PySem.W.nsIn K mainGlobals "look_over_claim"=some (some (.ref f27')))
  (l27:K.lookup f27'=some ⟨oc27,od27,.func (PySem.W.fnOf "look_over_claim" "look_over_claim" (defArgs s27) (defBody s27) (defScope s27) .none kV27 dc27 pm27 an27 cd27 ct27),sl27⟩)
  (c27:PySem.W.codeIn K cd27 "look_over_claim"=true)
  (k27:PySem.W.keepIn K (.ref f27')=true)
  (a29:PySem.W.nsIn K mainGlobals "_law_cell_at"=some (some (.ref f29')))
  (l29:K.lookup f29'=some ⟨oc29,od29,.func (PySem.W.fnOf "_law_cell_at" "_law_cell_at" (defArgs s29) (defBody s29) (defScope s29) .none kV29 dc29 pm29 an29 cd29 ct29),sl29⟩)
  (c29:PySem.W.codeIn K cd29 "_law_cell_at"=true)
  (k29:PySem.W.keepIn K (.ref f29')=true)
  (a30:PySem.W.nsIn K mainGlobals "_law_mixed"=some (some (.ref f30')))
  (l30:K.lookup f30'=some ⟨oc30,od30,.func (PySem.W.fnOf "_law_mixed" "_law_mixed" (defArgs s30) (defBody s30) (defScope s30) .none kV30 dc30 pm30 an30 cd30 ct30),sl30⟩)
  (c30:PySem.W.codeIn K cd30 "_law_mixed"=true)
  (k30:PySem.W.keepIn K (.ref f30')=true)
  (a31:PySem.W.nsIn K mainGlobals "_law_draws"=some (some (.ref f31')))
  (l31:K.lookup f31'=some ⟨oc31,od31,.func (PySem.W.fnOf "_law_draws" "_law_draws" (defArgs s31) (defBody s31) (defScope s31) .none kV31 dc31 pm31 an31 cd31 ct31),sl31⟩)
  (c31:PySem.W.codeIn K cd31 "_law_draws"=true)
  (k31:PySem.W.keepIn K (.ref f31')=true)
  (a32:PySem.W.nsIn K mainGlobals "_law_bounds"=some (some (.ref f32')))
  (l32:K.lookup f32'=some ⟨oc32,od32,.func (PySem.W.fnOf "_law_bounds" "_law_bounds" (defArgs s32) (defBody s32) (defScope s32) .none kV32 dc32 pm32 an32 cd32 ct32),sl32⟩)
  (c32:PySem.W.codeIn K cd32 "_law_bounds"=true)
  (k32:PySem.W.keepIn K (.ref f32')=true)
  (a33:PySem.W.nsIn K mainGlobals "_law_hand_test"=some (some (.ref f33')))
  (l33:K.lookup f33'=some ⟨oc33,od33,.func (PySem.W.fnOf "_law_hand_test" "_law_hand_test" (defArgs s33) (defBody s33) (defScope s33) .none kV33 dc33 pm33 an33 cd33 ct33),sl33⟩)
  (c33:PySem.W.codeIn K cd33 "_law_hand_test"=true)
  (k33:PySem.W.keepIn K (.ref f33')=true)
  (a34:PySem.W.nsIn K mainGlobals "_law_test"=some (some (.ref f34')))
  (l34:K.lookup f34'=some ⟨oc34,od34,.func (PySem.W.fnOf "_law_test" "_law_test" (defArgs s34) (defBody s34) (defScope s34) .none kV34 dc34 pm34 an34 cd34 ct34),sl34⟩)
  (c34:PySem.W.codeIn K cd34 "_law_test"=true)
  (k34:PySem.W.keepIn K (.ref f34')=true)
  (a35:PySem.W.nsIn K mainGlobals "_law_claim"=some (some (.ref f35')))
  (l35:K.lookup f35'=some ⟨oc35,od35,.func (PySem.W.fnOf "_law_claim" "_law_claim" (defArgs s35) (defBody s35) (defScope s35) .none kV35 dc35 pm35 an35 cd35 ct35),sl35⟩)
  (c35:PySem.W.codeIn K cd35 "_law_claim"=true)
  (k35:PySem.W.keepIn K (.ref f35')=true)
  (a36:PySem.W.nsIn K mainGlobals "_law_turned"=some (some (.ref f36')))
  (l36:K.lookup f36'=some ⟨oc36,od36,.func (PySem.W.fnOf "_law_turned" "_law_turned" (defArgs s36) (defBody s36) (defScope s36) .none kV36 dc36 pm36 an36 cd36 ct36),sl36⟩)
  (c36:PySem.W.codeIn K cd36 "_law_turned"=true)
  (k36:PySem.W.keepIn K (.ref f36')=true)
  (a37:PySem.W.nsIn K mainGlobals "_law_odd"=some (some (.ref f37')))
  (l37:K.lookup f37'=some ⟨oc37,od37,.func (PySem.W.fnOf "_law_odd" "_law_odd" (defArgs s37) (defBody s37) (defScope s37) .none kV37 dc37 pm37 an37 cd37 ct37),sl37⟩)
  (c37:PySem.W.codeIn K cd37 "_law_odd"=true)
  (k37:PySem.W.keepIn K (.ref f37')=true)
  (a38:PySem.W.nsIn K mainGlobals "_law_spoiled"=some (some (.ref f38')))
  (l38:K.lookup f38'=some ⟨oc38,od38,.func (PySem.W.fnOf "_law_spoiled" "_law_spoiled" (defArgs s38) (defBody s38) (defScope s38) .none kV38 dc38 pm38 an38 cd38 ct38),sl38⟩)
  (c38:PySem.W.codeIn K cd38 "_law_spoiled"=true)
  (k38:PySem.W.keepIn K (.ref f38')=true)
  (a39:PySem.W.nsIn K mainGlobals "_law_whole"=some (some (.ref f39')))
  (l39:K.lookup f39'=some ⟨oc39,od39,.func (PySem.W.fnOf "_law_whole" "_law_whole" (defArgs s39) (defBody s39) (defScope s39) .none kV39 dc39 pm39 an39 cd39 ct39),sl39⟩)
  (c39:PySem.W.codeIn K cd39 "_law_whole"=true)
  (k39:PySem.W.keepIn K (.ref f39')=true)
  (a40:PySem.W.nsIn K mainGlobals "_law_bound"=some (some (.ref f40')))
  (l40:K.lookup f40'=some ⟨oc40,od40,.func (PySem.W.fnOf "_law_bound" "_law_bound" (defArgs s40) (defBody s40) (defScope s40) .none kV40 dc40 pm40 an40 cd40 ct40),sl40⟩)
  (c40:PySem.W.codeIn K cd40 "_law_bound"=true)
  (k40:PySem.W.keepIn K (.ref f40')=true)
  (a41:PySem.W.nsIn K mainGlobals "_law_form"=some (some (.ref f41')))
  (l41:K.lookup f41'=some ⟨oc41,od41,.func (PySem.W.fnOf "_law_form" "_law_form" (defArgs s41) (defBody s41) (defScope s41) .none kV41 dc41 pm41 an41 cd41 ct41),sl41⟩)
  (c41:PySem.W.codeIn K cd41 "_law_form"=true)
  (k41:PySem.W.keepIn K (.ref f41')=true)
  (a42:PySem.W.nsIn K mainGlobals "_law_hand"=some (some (.ref f42')))
  (l42:K.lookup f42'=some ⟨oc42,od42,.func (PySem.W.fnOf "_law_hand" "_law_hand" (defArgs s42) (defBody s42) (defScope s42) .none kV42 dc42 pm42 an42 cd42 ct42),sl42⟩)
  (c42:PySem.W.codeIn K cd42 "_law_hand"=true)
  (k42:PySem.W.keepIn K (.ref f42')=true)
  (a43:PySem.W.nsIn K mainGlobals "_law_is_test"=some (some (.ref f43')))
  (l43:K.lookup f43'=some ⟨oc43,od43,.func (PySem.W.fnOf "_law_is_test" "_law_is_test" (defArgs s43) (defBody s43) (defScope s43) .none kV43 dc43 pm43 an43 cd43 ct43),sl43⟩)
  (c43:PySem.W.codeIn K cd43 "_law_is_test"=true)
  (k43:PySem.W.keepIn K (.ref f43')=true)
  (a44:PySem.W.nsIn K mainGlobals "_law_is_claim"=some (some (.ref f44')))
  (l44:K.lookup f44'=some ⟨oc44,od44,.func (PySem.W.fnOf "_law_is_claim" "_law_is_claim" (defArgs s44) (defBody s44) (defScope s44) .none kV44 dc44 pm44 an44 cd44 ct44),sl44⟩)
  (c44:PySem.W.codeIn K cd44 "_law_is_claim"=true)
  (k44:PySem.W.keepIn K (.ref f44')=true)
  (a45:PySem.W.nsIn K mainGlobals "_law_refused"=some (some (.ref f45')))
  (l45:K.lookup f45'=some ⟨oc45,od45,.func (PySem.W.fnOf "_law_refused" "_law_refused" (defArgs s45) (defBody s45) (defScope s45) .none kV45 dc45 pm45 an45 cd45 ct45),sl45⟩)
  (c45:PySem.W.codeIn K cd45 "_law_refused"=true)
  (k45:PySem.W.keepIn K (.ref f45')=true)
  (a46:PySem.W.nsIn K mainGlobals "law"=some (some (.ref f46')))
  (l46:K.lookup f46'=some ⟨oc46,od46,.func (PySem.W.fnOf "law" "law" (defArgs s46) (defBody s46) (defScope s46) .none kV46 dc46 pm46 an46 cd46 ct46),sl46⟩)
  (c46:PySem.W.codeIn K cd46 "law"=true)
  (k46:PySem.W.keepIn K (.ref f46')=true)
  (z0:PySem.W.nsIn K mainGlobals "len"=some none)
  (z1:PySem.W.nsIn K mainGlobals "list"=some none)
  (z2:PySem.W.nsIn K mainGlobals "tuple"=some none)
  (z3:PySem.W.nsIn K mainGlobals "range"=some none)
  (z4:PySem.W.nsIn K mainGlobals "isinstance"=some none)
  (z5:PySem.W.nsIn K mainGlobals "int"=some none)
  (z6:PySem.W.nsIn K mainGlobals "bool"=some none)
  (z7:PySem.W.nsIn K mainGlobals "str"=some none)
  (z8:PySem.W.nsIn K mainGlobals "dict"=some none)
  (z9:PySem.W.nsIn K mainGlobals "set"=some none)
  (z10:PySem.W.nsIn K mainGlobals "sorted"=some none)
  (z11:PySem.W.nsIn K mainGlobals "all"=some none)
  (z12:PySem.W.nsIn K mainGlobals "any"=some none)
  (z13:PySem.W.nsIn K mainGlobals "max"=some none)
  (z14:PySem.W.nsIn K mainGlobals "min"=some none)
  (z15:PySem.W.nsIn K mainGlobals "enumerate"=some none)
  (z16:PySem.W.nsIn K mainGlobals "zip"=some none)
  (z17:PySem.W.nsIn K mainGlobals "sum"=some none)
  (n0:PySem.W.nsIn K mainGlobals "ROLES"=some (some (.int (2) tk0)))
  (d0:PySem.W.nsIn K mainGlobals "CLAIM_FORMS"=some (some (.ref da0)))
  (e0:K.lookup da0=some ⟨.type "dict",none,.dict es0 ep0,#[]⟩)
  (g0:(da0==sysModules)=false)
  (h0:es0.toList.map (rehash w)=es0.toList)
  (r0:rdE K 60 es0.toList=some dCLAIM_FORMS)
  (d1:PySem.W.nsIn K mainGlobals "TEST_FORMS"=some (some (.ref da1)))
  (e1:K.lookup da1=some ⟨.type "dict",none,.dict es1 ep1,#[]⟩)
  (g1:(da1==sysModules)=false)
  (h1:es1.toList.map (rehash w)=es1.toList)
  (r1:rdE K 60 es1.toList=some dTEST_FORMS)
  (d2:PySem.W.nsIn K mainGlobals "HAND_FORMS"=some (some (.ref da2)))
  (e2:K.lookup da2=some ⟨.type "dict",none,.dict es2 ep2,#[]⟩)
  (g2:(da2==sysModules)=false)
  (h2:es2.toList.map (rehash w)=es2.toList)
  (r2:rdE K 60 es2.toList=some dHAND_FORMS)
  (d3:PySem.W.nsIn K mainGlobals "RANGES"=some (some (.ref da3)))
  (e3:K.lookup da3=some ⟨.type "dict",none,.dict es3 ep3,#[]⟩)
  (g3:(da3==sysModules)=false)
  (h3:es3.toList.map (rehash w)=es3.toList)
  (r3:rdE K 60 es3.toList=some dRANGES):TbOk w K mg Tt:=by
 refine ⟨fun x I hx=>?_,fun x d hx=>?_,fun b hb=>?_,fun x kvs hx=>?_,fun c f hx=>?_,fun c m I hx=>?_,fun c f hx=>?_⟩
 ·show FnRow K mg x I;change tb x=some I at hx;unfold tb at hx;refine tb_step (P:=FnRow K mg) (a:=f1) hx ⟨_,s1,_,_,PySem.W.mg_of X G a1,fun_mk (st:=s1) l1 c1 k1,sc1,rfl,rfl,ln1 fun _=>rfl⟩ fun hx=>?_
  refine tb_step (P:=FnRow K mg) (a:=f2) hx ⟨_,s2,_,_,PySem.W.mg_of X G a2,fun_mk (st:=s2) l2 c2 k2,sc2,rfl,rfl,ln3 fun _ _ _=>rfl⟩ fun hx=>?_
  refine tb_step (P:=FnRow K mg) (a:=f4) hx ⟨_,s4,_,_,PySem.W.mg_of X G a4,fun_mk (st:=s4) l4 c4 k4,sc4,rfl,rfl,ln1 fun _=>rfl⟩ fun hx=>?_
  refine tb_step (P:=FnRow K mg) (a:=f22) hx ⟨_,s22,_,_,PySem.W.mg_of X G a22,fun_mk (st:=s22) l22 c22 k22,sc22,rfl,rfl,ln2 fun _ _=>rfl⟩ fun hx=>?_
  refine tb_step (P:=FnRow K mg) (a:=f23) hx ⟨_,s23,_,_,PySem.W.mg_of X G a23,fun_mk (st:=s23) l23 c23 k23,sc23,rfl,rfl,ln1 fun _=>rfl⟩ fun hx=>?_
  refine tb_step (P:=FnRow K mg) (a:=f24) hx ⟨_,s24,_,_,PySem.W.mg_of X G a24,fun_mk (st:=s24) l24 c24 k24,sc24,rfl,rfl,ln3 fun _ _ _=>rfl⟩ fun hx=>?_
  refine tb_step (P:=FnRow K mg) (a:=f25) hx ⟨_,s25,_,_,PySem.W.mg_of X G a25,fun_mk (st:=s25) l25 c25 k25,sc25,rfl,rfl,ln3 fun _ _ _=>rfl⟩ fun hx=>?_
  refine tb_step (P:=FnRow K mg) (a:=f27) hx ⟨_,s27,_,_,PySem.W.mg_of X G a27,fun_mk (st:=s27) l27 c27 k27,sc27,rfl,rfl,ln2 fun _ _=>rfl⟩ fun hx=>?_
  refine tb_step (P:=FnRow K mg) (a:=f29) hx ⟨_,s29,_,_,PySem.W.mg_of X G a29,fun_mk (st:=s29) l29 c29 k29,sc29,rfl,rfl,ln2 fun _ _=>rfl⟩ fun hx=>?_
  refine tb_step (P:=FnRow K mg) (a:=f30) hx ⟨_,s30,_,_,PySem.W.mg_of X G a30,fun_mk (st:=s30) l30 c30 k30,sc30,rfl,rfl,ln2 fun _ _=>rfl⟩ fun hx=>?_
  refine tb_step (P:=FnRow K mg) (a:=f31) hx ⟨_,s31,_,_,PySem.W.mg_of X G a31,fun_mk (st:=s31) l31 c31 k31,sc31,rfl,rfl,ln3 fun _ _ _=>rfl⟩ fun hx=>?_
  refine tb_step (P:=FnRow K mg) (a:=f32) hx ⟨_,s32,_,_,PySem.W.mg_of X G a32,fun_mk (st:=s32) l32 c32 k32,sc32,rfl,rfl,ln3 fun _ _ _=>rfl⟩ fun hx=>?_
  refine tb_step (P:=FnRow K mg) (a:=f33) hx ⟨_,s33,_,_,PySem.W.mg_of X G a33,fun_mk (st:=s33) l33 c33 k33,sc33,rfl,rfl,ln2 fun _ _=>rfl⟩ fun hx=>?_
  refine tb_step (P:=FnRow K mg) (a:=f34) hx ⟨_,s34,_,_,PySem.W.mg_of X G a34,fun_mk (st:=s34) l34 c34 k34,sc34,rfl,rfl,ln3 fun _ _ _=>rfl⟩ fun hx=>?_
  refine tb_step (P:=FnRow K mg) (a:=f35) hx ⟨_,s35,_,_,PySem.W.mg_of X G a35,fun_mk (st:=s35) l35 c35 k35,sc35,rfl,rfl,ln2 fun _ _=>rfl⟩ fun hx=>?_
  refine tb_step (P:=FnRow K mg) (a:=f36) hx ⟨_,s36,_,_,PySem.W.mg_of X G a36,fun_mk (st:=s36) l36 c36 k36,sc36,rfl,rfl,ln2 fun _ _=>rfl⟩ fun hx=>?_
  refine tb_step (P:=FnRow K mg) (a:=f37) hx ⟨_,s37,_,_,PySem.W.mg_of X G a37,fun_mk (st:=s37) l37 c37 k37,sc37,rfl,rfl,ln2 fun _ _=>rfl⟩ fun hx=>?_
  refine tb_step (P:=FnRow K mg) (a:=f38) hx ⟨_,s38,_,_,PySem.W.mg_of X G a38,fun_mk (st:=s38) l38 c38 k38,sc38,rfl,rfl,ln3 fun _ _ _=>rfl⟩ fun hx=>?_
  refine tb_step (P:=FnRow K mg) (a:=f39) hx ⟨_,s39,_,_,PySem.W.mg_of X G a39,fun_mk (st:=s39) l39 c39 k39,sc39,rfl,rfl,ln3 fun _ _ _=>rfl⟩ fun hx=>?_
  refine tb_step (P:=FnRow K mg) (a:=f40) hx ⟨_,s40,_,_,PySem.W.mg_of X G a40,fun_mk (st:=s40) l40 c40 k40,sc40,rfl,rfl,ln3 fun _ _ _=>rfl⟩ fun hx=>?_
  refine tb_step (P:=FnRow K mg) (a:=f41) hx ⟨_,s41,_,_,PySem.W.mg_of X G a41,fun_mk (st:=s41) l41 c41 k41,sc41,rfl,rfl,ln2 fun _ _=>rfl⟩ fun hx=>?_
  refine tb_step (P:=FnRow K mg) (a:=f42) hx ⟨_,s42,_,_,PySem.W.mg_of X G a42,fun_mk (st:=s42) l42 c42 k42,sc42,rfl,rfl,ln1 fun _=>rfl⟩ fun hx=>?_
  refine tb_step (P:=FnRow K mg) (a:=f43) hx ⟨_,s43,_,_,PySem.W.mg_of X G a43,fun_mk (st:=s43) l43 c43 k43,sc43,rfl,rfl,ln2 fun _ _=>rfl⟩ fun hx=>?_
  refine tb_step (P:=FnRow K mg) (a:=f44) hx ⟨_,s44,_,_,PySem.W.mg_of X G a44,fun_mk (st:=s44) l44 c44 k44,sc44,rfl,rfl,ln2 fun _ _=>rfl⟩ fun hx=>?_
  refine tb_step (P:=FnRow K mg) (a:=f45) hx ⟨_,s45,_,_,PySem.W.mg_of X G a45,fun_mk (st:=s45) l45 c45 k45,sc45,rfl,rfl,ln2 fun _ _=>rfl⟩ fun hx=>?_
  refine tb_step (P:=FnRow K mg) (a:=f46) hx ⟨_,s46,_,_,PySem.W.mg_of X G a46,fun_mk (st:=s46) l46 c46 k46,sc46,rfl,rfl,ln1 fun _=>rfl⟩ fun hx=>?_
  cases hx
 ·show ConRow K mg x d;change con x=some d at hx;unfold con at hx;refine tb_step (P:=ConRow K mg) hx ⟨_,.int (2),PySem.W.mg_of X G n0,⟨_,rfl⟩,fun _ _=>.int _⟩ fun hx=>?_
  cases hx
 ·simp only [bltNames,List.mem_cons,List.mem_nil_iff,or_false] at hb;rcases hb with rfl | rfl | rfl | rfl | rfl | rfl | rfl | rfl | rfl | rfl | rfl | rfl | rfl | rfl | rfl | rfl | rfl | rfl
  ·exact PySem.W.mg_none_of X G z0
  ·exact PySem.W.mg_none_of X G z1
  ·exact PySem.W.mg_none_of X G z2
  ·exact PySem.W.mg_none_of X G z3
  ·exact PySem.W.mg_none_of X G z4
  ·exact PySem.W.mg_none_of X G z5
  ·exact PySem.W.mg_none_of X G z6
  ·exact PySem.W.mg_none_of X G z7
  ·exact PySem.W.mg_none_of X G z8
  ·exact PySem.W.mg_none_of X G z9
  ·exact PySem.W.mg_none_of X G z10
  ·exact PySem.W.mg_none_of X G z11
  ·exact PySem.W.mg_none_of X G z12
  ·exact PySem.W.mg_none_of X G z13
  ·exact PySem.W.mg_none_of X G z14
  ·exact PySem.W.mg_none_of X G z15
  ·exact PySem.W.mg_none_of X G z16
  ·exact PySem.W.mg_none_of X G z17
 ·change dic x=some kvs at hx;unfold dic at hx;split at hx
  ·rename_i e;rw [eq_of_beq e];cases hx;exact ⟨_,PySem.W.mg_of X G d0,dic_ok g0 e0 h0 r0⟩
  ·
   split at hx
   ·rename_i e;rw [eq_of_beq e];cases hx;exact ⟨_,PySem.W.mg_of X G d1,dic_ok g1 e1 h1 r1⟩
   ·
    split at hx
    ·rename_i e;rw [eq_of_beq e];cases hx;exact ⟨_,PySem.W.mg_of X G d2,dic_ok g2 e2 h2 r2⟩
    ·
     split at hx
     ·rename_i e;rw [eq_of_beq e];cases hx;exact ⟨_,PySem.W.mg_of X G d3,dic_ok g3 e3 h3 r3⟩
     ·cases hx
 ·cases hx
 ·cases hx
 ·cases hx
noncomputable def xcl (c:Str):Bool:=c == "NoClaim"
theorem xcok {K:PySem.W.Frag}{h:Heap}{mg:Str→Option Value}(X:K.In h) (G:h.Ns mainGlobals mg) {X0:Addr}(a0:PySem.W.nsIn K mainGlobals "NoClaim"=some (some (.ref X0))) (b0:PySem.W.excIn K X0 bmV "ValueError.__new__"=true):XcOk K mg xcl:=by
 intro c hc;unfold xcl at hc;rw [eq_of_beq hc];exact ⟨_,PySem.W.mg_of X G a0,b0⟩
noncomputable def bls (n:Nat):List D:=List.replicate n (.bl false)
noncomputable def suM:SM:=fun loc mh=>some (.nx,((loc.set 3 none).set 4 none).set 2 (some (.bl true)),(((mh++[.lst (bls 4)])++[.lst (bls 3)])++[.lst ((bls 4++bls 3)++bls 1)]))
noncomputable def su45:List Stmt:=suiteOf (f45.body.getD 1 (.Pass ⟨0,0,0,0⟩))
noncomputable def td0:Td:=⟨"look_over_claim", "NoClaim", "LetterError", "e",suM,su45.headD (.Pass ⟨0,0,0,0⟩),su45.drop 1⟩
noncomputable def tds (x:Str):Option Td:=if x == "_law_refused" then some td0 else none
theorem tdok {K:PySem.W.Frag}{mg:Str→Option Value}(su:SuOk K mg { N:=f45.N,scope:=f45.scope,own:=fun _=>true } td0):TdOk K mg Tt tds:=by
 intro x q I h1 h2;unfold tds at h1;split at h1
 ·rename_i e;rw [eq_of_beq e] at h2;cases h1
  have e2:Tt.tb "_law_refused"=some f45:=by kernel_rfl
  rw [e2] at h2;cases h2;refine ⟨?_,su⟩;exact And.intro (.inl rfl) (And.intro (.inr ⟨_,_,_,_,_,_,_,_,rfl⟩) (And.intro (.inl rfl) (trivial)))
 ·cases h1
noncomputable def Gk (k:Nat):Gb:=(GX Tt xcl tds k).1
noncomputable def Ek (k:Nat):Ex:=(GX Tt xcl tds k).2
theorem lenN1:f1.N.length=1:=by decide +kernel
noncomputable def b1 (k:Nat):SM :=
 (seqS (retS (dAndV (isiM "int" (vr 0)) (notV (isiM "bool" (vr 0)))))
 SM.nxt)
theorem b1_eq (k:Nat):iSs (Gk (k+1)) fuel { N:=f1.N,scope:=f1.scope,own:=fun _=>true } f1.body=b1 k:=by kernel_rfl
theorem lenN2:f2.N.length=3:=by decide +kernel
noncomputable def b2 (k:Nat):SM :=
 (seqS (retS (dAndV (calM (runF (Gk k) fuel f1) (dCons (vr 0) (DM.ret []))) (dchain leD leD (vr 1) (vr 0) (vr 2))))
 SM.nxt)
theorem b2_eq (k:Nat):iSs (Gk (k+1)) fuel { N:=f2.N,scope:=f2.scope,own:=fun _=>true } f2.body=b2 k:=by kernel_rfl
theorem lenN4:f4.N.length=1:=by decide +kernel
noncomputable def b4 (k:Nat):SM :=
 (seqS (retS (dOrV (dop (isD false) (vr 0) (DM.ret .non)) (calM (runF (Gk k) fuel f1) (dCons (vr 0) (DM.ret [])))))
 SM.nxt)
theorem b4_eq (k:Nat):iSs (Gk (k+1)) fuel { N:=f4.N,scope:=f4.scope,own:=fun _=>true } f4.body=b4 k:=by kernel_rfl
theorem lenN22:f22.N.length=2:=by decide +kernel
noncomputable def b22 (k:Nat):SM :=
 (seqS (retS (calM (runF (Gk k) fuel f24) (dCons (vr 0) (dCons (dicGet dCLAIM_FORMS (dCons (calM (runF (Gk k) fuel f23) (dCons (vr 0) (DM.ret []))) (DM.ret []))) (dCons (vr 1) (DM.ret []))))))
 SM.nxt)
theorem b22_eq (k:Nat):iSs (Gk (k+1)) fuel { N:=f22.N,scope:=f22.scope,own:=fun _=>true } f22.body=b22 k:=by kernel_rfl
theorem lenN23:f23.N.length=1:=by decide +kernel
noncomputable def b23 (k:Nat):SM :=
 (seqS (ifS (dAndT (truM (isiM "tuple" (vr 0))) (dAndT (boolD (dop gtD (calM lenD (dCons (vr 0) (DM.ret []))) (DM.ret (.int 0)))) (truM (isiM "str" (dop ixD (vr 0) (DM.ret (.int 0)))))))
 (seqS (retS (dop ixD (vr 0) (DM.ret (.int 0))))
  SM.nxt)
 SM.nxt)
 (seqS (retS (DM.ret .non))
 SM.nxt))
theorem b23_eq (k:Nat):iSs (Gk (k+1)) fuel { N:=f23.N,scope:=f23.scope,own:=fun _=>true } f23.body=b23 k:=by kernel_rfl
theorem lenN24:f24.N.length=5:=by decide +kernel
noncomputable def b24 (k:Nat):SM :=
 (seqS (ifS (dOrT (boolD (dop (isD false) (vr 1) (DM.ret .non))) (boolD (dop neD (calM lenD (dCons (vr 0) (DM.ret []))) (dop addD (DM.ret (.int 1)) (calM lenD (dCons (vr 1) (DM.ret [])))))))
 (seqS (retS (DM.ret (.bl false)))
  SM.nxt)
 SM.nxt)
 (seqS (forS (zipM (dCons (vr 1) (dCons (dSl (vr 0) (some (DM.ret (.int 1))) none) (DM.ret [])))) (gTupD [3,4])
 (seqS (ifS (dNotT (truM (calM (runF (Gk k) fuel f25) (dCons (vr 3) (dCons (vr 4) (dCons (vr 2) (DM.ret [])))))))
  (seqS (retS (DM.ret (.bl false)))
   SM.nxt)
  SM.nxt)
  SM.nxt))
 (seqS (retS (DM.ret (.bl true)))
 SM.nxt)))
theorem b24_eq (k:Nat):iSs (Gk (k+1)) fuel { N:=f24.N,scope:=f24.scope,own:=fun _=>true } f24.body=b24 k:=by kernel_rfl
theorem lenN25:f25.N.length=4:=by decide +kernel
noncomputable def b25 (k:Nat):SM :=
 (seqS (ifS (boolD (dop eqD (vr 0) (DM.ret (.str "test"))))
 (seqS (retS (calM (runF (Gk k) fuel f24) (dCons (vr 1) (dCons (dicGet dTEST_FORMS (dCons (calM (runF (Gk k) fuel f23) (dCons (vr 1) (DM.ret []))) (DM.ret []))) (dCons (vr 2) (DM.ret []))))))
  SM.nxt)
 SM.nxt)
 (seqS (ifS (boolD (dop eqD (vr 0) (DM.ret (.str "test of a hand"))))
 (seqS (retS (calM (runF (Gk k) fuel f24) (dCons (vr 1) (dCons (dicGet dHAND_FORMS (dCons (calM (runF (Gk k) fuel f23) (dCons (vr 1) (DM.ret []))) (DM.ret []))) (dCons (vr 2) (DM.ret []))))))
  SM.nxt)
 SM.nxt)
 (seqS (ifS (boolD (dop eqD (vr 0) (DM.ret (.str "role"))))
 (seqS (retS (calM (runF (Gk k) fuel f2) (dCons (vr 1) (dCons (DM.ret (.int 0)) (dCons (dop subD (vr 2) (DM.ret (.int 1))) (DM.ret []))))))
  SM.nxt)
 SM.nxt)
 (seqS (ifS (boolD (dop eqD (vr 0) (DM.ret (.str "bound"))))
 (seqS (retS (calM (runF (Gk k) fuel f4) (dCons (vr 1) (DM.ret []))))
  SM.nxt)
 SM.nxt)
 (seqS (ifS (boolD (dop eqD (vr 0) (DM.ret (.str "share"))))
 (seqS (retS (dOrV (dop (isD false) (vr 1) (DM.ret .non)) (calM (runF (Gk k) fuel f2) (dCons (vr 1) (dCons (DM.ret (.int 0)) (dCons (DM.ret (.int 6)) (DM.ret [])))))))
  SM.nxt)
 SM.nxt)
 (seqS (ifS (boolD (dop eqD (vr 0) (DM.ret (.str "amount"))))
 (seqS (retS (dOrV (dop (isD false) (vr 1) (DM.ret .non)) (dAndV (calM (runF (Gk k) fuel f1) (dCons (vr 1) (DM.ret []))) (dop geD (vr 1) (DM.ret (.int 0))))))
  SM.nxt)
 SM.nxt)
 (seqS (asgS (dicIx dRANGES (vr 0)) (gSet 3))
 (seqS (retS (calM (runF (Gk k) fuel f2) (dCons (vr 1) (dCons (dop ixD (vr 3) (DM.ret (.int 0))) (dCons (dop ixD (vr 3) (DM.ret (.int 1))) (DM.ret []))))))
 SM.nxt))))))))
theorem b25_eq (k:Nat):iSs (Gk (k+1)) fuel { N:=f25.N,scope:=f25.scope,own:=fun _=>true } f25.body=b25 k:=by kernel_rfl
theorem lenN27:f27.N.length=2:=by decide +kernel
noncomputable def r27 (k:Nat):RM :=
 (rIf (dNotT (truM (calM (runF (Gk k) fuel f22) (dCons (vr 1) (dCons (calM lenD (dCons (dop ixD (vr 0) (DM.ret (.int (2)))) (DM.ret []))) (DM.ret [])))))) (rOr (rRaise "NoClaim" (dCons (DM.ret (.str "no claim of the program")) (DM.ret []))) (seqS SM.bad
 SM.nxt) rBad) (rOr rBad SM.nxt rBad))
theorem r27_eq (k:Nat):iR (Gk (k+1)) xcl fuel { N:=f27.N,scope:=f27.scope,own:=fun _=>true } f27.body=r27 k:=by kernel_rfl
noncomputable def b27 (k:Nat):SM :=
 (seqS (ifS (dNotT (truM (calM (runF (Gk k) fuel f22) (dCons (vr 1) (dCons (calM lenD (dCons (dop ixD (vr 0) (DM.ret (.int (2)))) (DM.ret []))) (DM.ret []))))))
 (seqS SM.bad
  SM.nxt)
 SM.nxt)
 SM.nxt)
theorem b27_eq (k:Nat):iSs (Gk (k+1)) fuel { N:=f27.N,scope:=f27.scope,own:=fun _=>true } f27.body=b27 k:=by kernel_rfl
theorem lenN29:f29.N.length=2:=by decide +kernel
noncomputable def b29 (k:Nat):SM :=
 (seqS (ifS (boolD (dop ltD (vr 1) (calM lenD (dCons (vr 0) (DM.ret [])))))
 (seqS (retS (dop ixD (vr 0) (vr 1)))
  SM.nxt)
 SM.nxt)
 (seqS (retS (DM.ret (.int 0)))
 SM.nxt))
theorem b29_eq (k:Nat):iSs (Gk (k+1)) fuel { N:=f29.N,scope:=f29.scope,own:=fun _=>true } f29.body=b29 k:=by kernel_rfl
theorem lenN30:f30.N.length=3:=by decide +kernel
noncomputable def b30 (k:Nat):SM :=
 (seqS (asgS (dop modD (dop mulD (dop addD (dop addD (dop modD (vr 0) (DM.ret (.int 2147483647))) (dop mulD (DM.ret (.int 7919)) (vr 1))) (DM.ret (.int 1))) (DM.ret (.int 48271))) (DM.ret (.int 2147483647))) (gSet 2))
 (seqS (retS (dop modD (dop mulD (vr 2) (dop addD (dop fdivD (vr 2) (DM.ret (.int 1009))) (DM.ret (.int 69621)))) (DM.ret (.int 2147483647))))
 SM.nxt))
theorem b30_eq (k:Nat):iSs (Gk (k+1)) fuel { N:=f30.N,scope:=f30.scope,own:=fun _=>true } f30.body=b30 k:=by kernel_rfl
theorem lenN31:f31.N.length=7:=by decide +kernel
noncomputable def b31 (k:Nat):SM :=
 (seqS (asgS (lstM (DM.ret [])) (gSet 3))
 (seqS (asgS (dop fdivD (vr 0) (DM.ret (.int 2))) (gSet 4))
 (seqS (forS (rngM rng1 (dCons (vr 1) (DM.ret []))) (gSet 5)
 (seqS (ifS (dAndT (boolD (dop eqD (dop modD (vr 0) (DM.ret (.int 2))) (DM.ret (.int 0)))) (boolD (dop gtD (vr 4) (DM.ret (.int 0)))))
  (seqS (dropS (methM "list" appendD (vr 3) (dCons (dop modD (vr 4) (vr 2)) (DM.ret []))))
   (seqS (asgS (dop fdivD (vr 4) (vr 2)) (gSet 4))
   SM.nxt))
  (seqS (asgS (calM (runF (Gk k) fuel f30) (dCons (vr 0) (dCons (vr 5) (DM.ret [])))) (gSet 6))
   (seqS (dropS (methM "list" appendD (vr 3) (dCons (dop modD (dop mulD (vr 6) (dop addD (dop fdivD (vr 6) (DM.ret (.int 613))) (DM.ret (.int 40692)))) (DM.ret (.int 2147483399))) (DM.ret []))))
   SM.nxt)))
  SM.nxt))
 (seqS (retS (vr 3))
 SM.nxt))))
theorem b31_eq (k:Nat):iSs (Gk (k+1)) fuel { N:=f31.N,scope:=f31.scope,own:=fun _=>true } f31.body=b31 k:=by kernel_rfl
theorem lenN32:f32.N.length=4:=by decide +kernel
noncomputable def b32 (k:Nat):SM :=
 (seqS (asgS (calM sortedA (dCons (lstM (dCons (dop addD (vr 1) (dop modD (dop fdivD (vr 0) (DM.ret (.int 4))) (dop addD (dop subD (vr 2) (vr 1)) (DM.ret (.int 1))))) (dCons (dop addD (vr 1) (dop modD (dop fdivD (vr 0) (DM.ret (.int 64))) (dop addD (dop subD (vr 2) (vr 1)) (DM.ret (.int 1))))) (DM.ret [])))) (DM.ret []))) (gSet 3))
 (seqS (ifS (boolD (dop eqD (dop modD (vr 0) (DM.ret (.int 16))) (DM.ret (.int 15))))
 (seqS (asgS (revM (vr 3)) (gSet 3))
  SM.nxt)
 SM.nxt)
 (seqS (retS (dop ixD (lstM (dCons (tupM (dCons (dop ixD (vr 3) (DM.ret (.int 0))) (dCons (dop ixD (vr 3) (DM.ret (.int 1))) (DM.ret [])))) (dCons (tupM (dCons (dop ixD (vr 3) (DM.ret (.int 0))) (dCons (DM.ret .non) (DM.ret [])))) (dCons (tupM (dCons (DM.ret .non) (dCons (dop ixD (vr 3) (DM.ret (.int 1))) (DM.ret [])))) (dCons (tupM (dCons (dop ixD (vr 3) (DM.ret (.int 0))) (dCons (dop addD (dop ixD (vr 3) (DM.ret (.int 1))) (DM.ret (.int 1))) (DM.ret [])))) (DM.ret [])))))) (dop modD (vr 0) (DM.ret (.int 4)))))
 SM.nxt)))
theorem b32_eq (k:Nat):iSs (Gk (k+1)) fuel { N:=f32.N,scope:=f32.scope,own:=fun _=>true } f32.body=b32 k:=by kernel_rfl
theorem lenN33:f33.N.length=8:=by decide +kernel
noncomputable def b33 (k:Nat):SM :=
 (seqS (asgS (methM "list" popAtD (vr 0) (dCons (DM.ret (.int 0)) (DM.ret []))) (gSet 2))
 (seqS (ifS (dAndT (boolD (dop gtD (vr 1) (DM.ret (.int 0)))) (boolD (dop eqD (dop modD (vr 2) (DM.ret (.int 3))) (DM.ret (.int 0)))))
 (seqS (asgS (dop ixD (lstM (dCons (DM.ret (.str "not")) (dCons (DM.ret (.str "both")) (dCons (DM.ret (.str "either")) (dCons (DM.ret (.str "both")) (DM.ret [])))))) (dop modD (dop fdivD (vr 2) (DM.ret (.int 3))) (DM.ret (.int 4)))) (gSet 3))
  (seqS (ifS (boolD (dop eqD (vr 3) (DM.ret (.str "not"))))
  (seqS (retS (tupM (dCons (vr 3) (dCons (calM (runF (Gk k) fuel f33) (dCons (vr 0) (dCons (dop subD (vr 1) (DM.ret (.int 1))) (DM.ret [])))) (DM.ret [])))))
   SM.nxt)
  SM.nxt)
  (seqS (retS (tupM (dCons (vr 3) (dCons (calM (runF (Gk k) fuel f33) (dCons (vr 0) (dCons (dop subD (vr 1) (DM.ret (.int 1))) (DM.ret [])))) (dCons (calM (runF (Gk k) fuel f33) (dCons (vr 0) (dCons (dop subD (vr 1) (DM.ret (.int 1))) (DM.ret [])))) (DM.ret []))))))
  SM.nxt)))
 SM.nxt)
 (seqS (asgS (calM (runF (Gk k) fuel f32) (dCons (dop fdivD (vr 2) (DM.ret (.int 18))) (dCons (negM (DM.ret (.int 4))) (dCons (DM.ret (.int 4)) (DM.ret []))))) (gTupD [4,5]))
 (seqS (asgS (dop eqD (dop modD (dop fdivD (vr 2) (DM.ret (.int 5))) (DM.ret (.int 3))) (DM.ret (.int 2))) (gSet 6))
 (seqS (asgS (lstM (dCons (tupM (dCons (DM.ret (.str "at")) (dCons (dop modD (dop fdivD (vr 2) (DM.ret (.int 18))) (dop ixD (lstM (dCons (DM.ret (.int 7)) (dCons (DM.ret (.int 61)) (DM.ret [])))) (calM intD (dCons (vr 6) (DM.ret []))))) (DM.ret [])))) (dCons (tupM (dCons (DM.ret (.str "number")) (dCons (dop modD (dop fdivD (vr 2) (DM.ret (.int 18))) (DM.ret (.int 3))) (dCons (vr 4) (dCons (vr 5) (DM.ret [])))))) (dCons (tupM (dCons (DM.ret (.str "has")) (dCons (dop modD (dop fdivD (vr 2) (DM.ret (.int 18))) (DM.ret (.int 3))) (DM.ret [])))) (DM.ret []))))) (gSet 7))
 (seqS (retS (dop ixD (dop addD (vr 7) (lstM (dCons (tupM (dCons (DM.ret (.str "fallen")) (DM.ret []))) (dCons (tupM (dCons (DM.ret (.str "many")) (dCons (dop modD (dop fdivD (vr 2) (DM.ret (.int 18))) (DM.ret (.int 2))) (dCons (dop modD (dop fdivD (vr 2) (DM.ret (.int 36))) (DM.ret (.int 7))) (DM.ret []))))) (dCons (tupM (dCons (DM.ret (.str "bell")) (DM.ret []))) (DM.ret [])))))) (dop modD (dop fdivD (vr 2) (DM.ret (.int 3))) (DM.ret (.int 6)))))
 SM.nxt))))))
theorem b33_eq (k:Nat):iSs (Gk (k+1)) fuel { N:=f33.N,scope:=f33.scope,own:=fun _=>true } f33.body=b33 k:=by kernel_rfl
theorem lenN34:f34.N.length=7:=by decide +kernel
noncomputable def b34 (k:Nat):SM :=
 (seqS (asgS (methM "list" popAtD (vr 0) (dCons (DM.ret (.int 0)) (DM.ret []))) (gSet 3))
 (seqS (ifS (dAndT (boolD (dop gtD (vr 2) (DM.ret (.int 0)))) (boolD (dop eqD (dop modD (vr 3) (DM.ret (.int 3))) (DM.ret (.int 0)))))
 (seqS (asgS (dop ixD (lstM (dCons (DM.ret (.str "not")) (dCons (DM.ret (.str "both")) (dCons (DM.ret (.str "either")) (dCons (DM.ret (.str "either")) (DM.ret [])))))) (dop modD (dop fdivD (vr 3) (DM.ret (.int 3))) (DM.ret (.int 4)))) (gSet 4))
  (seqS (ifS (boolD (dop eqD (vr 4) (DM.ret (.str "not"))))
  (seqS (retS (tupM (dCons (vr 4) (dCons (calM (runF (Gk k) fuel f34) (dCons (vr 0) (dCons (vr 1) (dCons (dop subD (vr 2) (DM.ret (.int 1))) (DM.ret []))))) (DM.ret [])))))
   SM.nxt)
  SM.nxt)
  (seqS (retS (tupM (dCons (vr 4) (dCons (calM (runF (Gk k) fuel f34) (dCons (vr 0) (dCons (vr 1) (dCons (dop subD (vr 2) (DM.ret (.int 1))) (DM.ret []))))) (dCons (calM (runF (Gk k) fuel f34) (dCons (vr 0) (dCons (vr 1) (dCons (dop subD (vr 2) (DM.ret (.int 1))) (DM.ret []))))) (DM.ret []))))))
  SM.nxt)))
 SM.nxt)
 (seqS (asgS (calM (runF (Gk k) fuel f32) (dCons (dop fdivD (vr 3) (DM.ret (.int 30))) (dCons (DM.ret (.int 0)) (dCons (dop ixD (lstM (dCons (DM.ret (.int 3)) (dCons (DM.ret (.int 5)) (DM.ret [])))) (dop modD (dop fdivD (vr 3) (DM.ret (.int 7))) (DM.ret (.int 2)))) (DM.ret []))))) (gTupD [5,6]))
 (seqS (ifS (boolD (dop eqD (dop modD (dop fdivD (vr 3) (DM.ret (.int 3))) (DM.ret (.int 3))) (DM.ret (.int 0))))
 (seqS (retS (tupM (dCons (DM.ret (.str "letters")) (dCons (dop addD (DM.ret (.int 1)) (dop modD (dop fdivD (vr 3) (DM.ret (.int 9))) (DM.ret (.int 3)))) (dCons (vr 5) (dCons (vr 6) (DM.ret [])))))))
  SM.nxt)
 SM.nxt)
 (seqS (retS (tupM (dCons (DM.ret (.str "count")) (dCons (dop modD (dop fdivD (vr 3) (DM.ret (.int 9))) (vr 1)) (dCons (calM (runF (Gk k) fuel f33) (dCons (vr 0) (dCons (DM.ret (.int 2)) (DM.ret [])))) (dCons (vr 5) (dCons (vr 6) (DM.ret []))))))))
 SM.nxt)))))
theorem b34_eq (k:Nat):iSs (Gk (k+1)) fuel { N:=f34.N,scope:=f34.scope,own:=fun _=>true } f34.body=b34 k:=by kernel_rfl
theorem lenN35:f35.N.length=4:=by decide +kernel
noncomputable def b35 (k:Nat):SM :=
 (seqS (asgS (calM (runF (Gk k) fuel f31) (dCons (dop fdivD (vr 0) (DM.ret (.int 3))) (dCons (DM.ret (.int 60)) (dCons (dop powD (DM.ret (.int 10)) (DM.ret (.int 6))) (DM.ret []))))) (gSet 2))
 (seqS (asgS (dop ixD (lstM (dCons (DM.ret (.str "never")) (dCons (DM.ret (.str "behind")) (dCons (DM.ret (.str "comes")) (DM.ret []))))) (dop modD (vr 0) (DM.ret (.int 3)))) (gSet 3))
 (seqS (ifS (boolD (dop eqD (vr 3) (DM.ret (.str "never"))))
 (seqS (retS (tupM (dCons (vr 3) (dCons (calM (runF (Gk k) fuel f34) (dCons (vr 2) (dCons (vr 1) (dCons (DM.ret (.int 1)) (DM.ret []))))) (DM.ret [])))))
  SM.nxt)
 SM.nxt)
 (seqS (retS (tupM (dCons (vr 3) (dCons (calM (runF (Gk k) fuel f34) (dCons (vr 2) (dCons (vr 1) (dCons (DM.ret (.int 1)) (DM.ret []))))) (dCons (calM (runF (Gk k) fuel f34) (dCons (vr 2) (dCons (vr 1) (dCons (DM.ret (.int 1)) (DM.ret []))))) (DM.ret []))))))
 SM.nxt))))
theorem b35_eq (k:Nat):iSs (Gk (k+1)) fuel { N:=f35.N,scope:=f35.scope,own:=fun _=>true } f35.body=b35 k:=by kernel_rfl
theorem lenN36:f36.N.length=3:=by decide +kernel
noncomputable def b36 (k:Nat):SM :=
 (seqS (forS (rngM rng1 (dCons (vr 1) (DM.ret []))) (gSet 2)
 (seqS (asgS (tupM (dCons (DM.ret (.str "not")) (dCons (vr 0) (DM.ret [])))) (gSet 0))
  SM.nxt))
 (seqS (retS (vr 0))
 SM.nxt))
theorem b36_eq (k:Nat):iSs (Gk (k+1)) fuel { N:=f36.N,scope:=f36.scope,own:=fun _=>true } f36.body=b36 k:=by kernel_rfl
theorem lenN37:f37.N.length=3:=by decide +kernel
noncomputable def b37 (k:Nat):SM :=
 (seqS (ifS (truM (isiM "tuple" (vr 0)))
 (seqS (asgS (lstM (dCons (calM listD (dCons (vr 0) (DM.ret []))) (dCons (dop addD (vr 0) (tupM (dCons (DM.ret (.int 1)) (DM.ret [])))) (dCons (dSl (vr 0) none (some (negM (DM.ret (.int 1))))) (dCons (dSl (vr 0) none (some (DM.ret (.int 1)))) (dCons (tupM (DM.ret [])) (dCons (DM.ret .non) (dCons (dSl (vr 0) (some (DM.ret (.int 1))) none) (dCons (dop addD (vr 0) (dSl (vr 0) (some (negM (DM.ret (.int 1)))) none)) (DM.ret [])))))))))) (gSet 2))
  (seqS (retS (dop ixD (vr 2) (dop modD (vr 1) (DM.ret (.int 8)))))
  SM.nxt))
 SM.nxt)
 (seqS (ifS (truM (isiM "str" (vr 0)))
 (seqS (retS (dop ixD (lstM (dCons (DM.ret (.str "never")) (dCons (DM.ret (.str "letters")) (dCons (DM.ret (.str "count")) (dCons (DM.ret (.str "not")) (dCons (DM.ret (.str "bell")) (dCons (DM.ret (.str "fallen")) (dCons (DM.ret (.str "")) (dCons (DM.ret (.int 1)) (dCons (DM.ret (.str "Both")) (dCons (DM.ret (.str "has")) (DM.ret [])))))))))))) (dop modD (vr 1) (DM.ret (.int 10)))))
  SM.nxt)
 SM.nxt)
 (seqS (retS (dop ixD (lstM (dCons (DM.ret (.int 61)) (dCons (negM (DM.ret (.int 1))) (dCons (DM.ret (.bl true)) (dCons (DM.ret .non) (dCons (DM.ret (.str "1")) (dCons (tupM (dCons (DM.ret (.int 0)) (DM.ret []))) (dCons (DM.ret (.int 7)) (dCons (DM.ret (.int 13)) (dCons (DM.ret (.int 0)) (dCons (DM.ret (.int 2)) (DM.ret [])))))))))))) (dop modD (vr 1) (DM.ret (.int 10)))))
 SM.nxt)))
theorem b37_eq (k:Nat):iSs (Gk (k+1)) fuel { N:=f37.N,scope:=f37.scope,own:=fun _=>true } f37.body=b37 k:=by kernel_rfl
theorem lenN38:f38.N.length=5:=by decide +kernel
noncomputable def b38 (k:Nat):SM :=
 (seqS (asgS (methM "list" popAtD (vr 1) (dCons (DM.ret (.int 0)) (DM.ret []))) (gSet 3))
 (seqS (ifS (dAndT (boolD (dop gtD (vr 2) (DM.ret (.int 0)))) (dAndT (truM (isiM "tuple" (vr 0))) (dAndT (boolD (dop neD (vr 0) (tupM (DM.ret [])))) (boolD (dop gtD (dop modD (vr 3) (DM.ret (.int 4))) (DM.ret (.int 0)))))))
 (seqS (asgS (dop modD (dop fdivD (vr 3) (DM.ret (.int 4))) (calM lenD (dCons (vr 0) (DM.ret [])))) (gSet 4))
  (seqS (retS (dop addD (dop addD (dSl (vr 0) none (some (vr 4))) (tupM (dCons (calM (runF (Gk k) fuel f38) (dCons (dop ixD (vr 0) (vr 4)) (dCons (vr 1) (dCons (dop subD (vr 2) (DM.ret (.int 1))) (DM.ret []))))) (DM.ret [])))) (dSl (vr 0) (some (dop addD (vr 4) (DM.ret (.int 1)))) none)))
  SM.nxt))
 SM.nxt)
 (seqS (retS (calM (runF (Gk k) fuel f37) (dCons (vr 0) (dCons (dop fdivD (vr 3) (DM.ret (.int 4))) (DM.ret [])))))
 SM.nxt)))
theorem b38_eq (k:Nat):iSs (Gk (k+1)) fuel { N:=f38.N,scope:=f38.scope,own:=fun _=>true } f38.body=b38 k:=by kernel_rfl
theorem lenN39:f39.N.length=3:=by decide +kernel
noncomputable def b39 (k:Nat):SM :=
 (seqS (ifS (dOrT (dNotT (truM (isiM "int" (vr 0)))) (truM (isiM "bool" (vr 0))))
 (seqS (retS (DM.ret (.bl false)))
  SM.nxt)
 SM.nxt)
 (seqS (retS (dAndV (dOrV (dop (isD false) (vr 1) (DM.ret .non)) (dop geD (vr 0) (vr 1))) (dOrV (dop (isD false) (vr 2) (DM.ret .non)) (dop leD (vr 0) (vr 2)))))
 SM.nxt))
theorem b39_eq (k:Nat):iSs (Gk (k+1)) fuel { N:=f39.N,scope:=f39.scope,own:=fun _=>true } f39.body=b39 k:=by kernel_rfl
theorem lenN40:f40.N.length=3:=by decide +kernel
noncomputable def b40 (k:Nat):SM :=
 (seqS (retS (dOrV (dop (isD false) (vr 0) (DM.ret .non)) (calM (runF (Gk k) fuel f39) (dCons (vr 0) (dCons (vr 1) (dCons (vr 2) (DM.ret [])))))))
 SM.nxt)
theorem b40_eq (k:Nat):iSs (Gk (k+1)) fuel { N:=f40.N,scope:=f40.scope,own:=fun _=>true } f40.body=b40 k:=by kernel_rfl
theorem lenN41:f41.N.length=2:=by decide +kernel
noncomputable def b41 (k:Nat):SM :=
 (seqS (ifS (dOrT (dNotT (truM (isiM "tuple" (vr 0)))) (dOrT (boolD (dop eqD (vr 0) (tupM (DM.ret [])))) (dOrT (dNotT (truM (isiM "str" (dop ixD (vr 0) (DM.ret (.int 0)))))) (boolD (dop (inD true) (dop ixD (vr 0) (DM.ret (.int 0))) (vr 1))))))
 (seqS (retS (DM.ret (.bl false)))
  SM.nxt)
 SM.nxt)
 (seqS (retS (dop eqD (calM lenD (dCons (vr 0) (DM.ret []))) (dop ixD (vr 1) (dop ixD (vr 0) (DM.ret (.int 0))))))
 SM.nxt))
theorem b41_eq (k:Nat):iSs (Gk (k+1)) fuel { N:=f41.N,scope:=f41.scope,own:=fun _=>true } f41.body=b41 k:=by kernel_rfl
theorem lenN42:f42.N.length=2:=by decide +kernel
noncomputable def b42 (k:Nat):SM :=
 (seqS (asgS (dispM (pCons "at" (DM.ret (.int 2)) (pCons "number" (DM.ret (.int 4)) (pCons "has" (DM.ret (.int 2)) (pCons "many" (DM.ret (.int 3)) (pCons "bell" (DM.ret (.int 1)) (pCons "fallen" (DM.ret (.int 1)) (pCons "not" (DM.ret (.int 2)) (pCons "both" (DM.ret (.int 3)) (pCons "either" (DM.ret (.int 3)) (DM.ret []))))))))))) (gSet 1))
 (seqS (ifS (dNotT (truM (calM (runF (Gk k) fuel f41) (dCons (vr 0) (dCons (vr 1) (DM.ret []))))))
 (seqS (retS (DM.ret (.bl false)))
  SM.nxt)
 SM.nxt)
 (seqS (ifS (boolD (dop (inD false) (dop ixD (vr 0) (DM.ret (.int 0))) (tupM (dCons (DM.ret (.str "not")) (dCons (DM.ret (.str "both")) (dCons (DM.ret (.str "either")) (DM.ret [])))))))
 (seqS (retS (dop eqD (compM (srcM (dSl (vr 0) (some (DM.ret (.int 1))) none)) [none,none] (gSet 1) (dNotT (truM (calM (runF (Gk k) fuel f42) (dCons (vr 1) (DM.ret []))))) (vr 1)) (lstM (DM.ret []))))
  SM.nxt)
 SM.nxt)
 (seqS (ifS (boolD (dop eqD (dop ixD (vr 0) (DM.ret (.int 0))) (DM.ret (.str "at"))))
 (seqS (retS (calM (runF (Gk k) fuel f39) (dCons (dop ixD (vr 0) (DM.ret (.int 1))) (dCons (DM.ret (.int 0)) (dCons (DM.ret (.int 60)) (DM.ret []))))))
  SM.nxt)
 SM.nxt)
 (seqS (ifS (boolD (dop eqD (dop ixD (vr 0) (DM.ret (.int 0))) (DM.ret (.str "number"))))
 (seqS (retS (dAndV (calM (runF (Gk k) fuel f39) (dCons (dop ixD (vr 0) (DM.ret (.int 1))) (dCons (DM.ret (.int 0)) (dCons (DM.ret (.int 2)) (DM.ret []))))) (dAndV (calM (runF (Gk k) fuel f40) (dCons (dop ixD (vr 0) (DM.ret (.int 2))) (dCons (DM.ret .non) (dCons (DM.ret .non) (DM.ret []))))) (calM (runF (Gk k) fuel f40) (dCons (dop ixD (vr 0) (DM.ret (.int 3))) (dCons (DM.ret .non) (dCons (DM.ret .non) (DM.ret []))))))))
  SM.nxt)
 SM.nxt)
 (seqS (ifS (boolD (dop eqD (dop ixD (vr 0) (DM.ret (.int 0))) (DM.ret (.str "has"))))
 (seqS (retS (calM (runF (Gk k) fuel f39) (dCons (dop ixD (vr 0) (DM.ret (.int 1))) (dCons (DM.ret (.int 0)) (dCons (DM.ret (.int 2)) (DM.ret []))))))
  SM.nxt)
 SM.nxt)
 (seqS (retS (dOrV (dop neD (dop ixD (vr 0) (DM.ret (.int 0))) (DM.ret (.str "many"))) (dAndV (calM (runF (Gk k) fuel f39) (dCons (dop ixD (vr 0) (DM.ret (.int 1))) (dCons (DM.ret (.int 0)) (dCons (DM.ret (.int 1)) (DM.ret []))))) (calM (runF (Gk k) fuel f39) (dCons (dop ixD (vr 0) (DM.ret (.int 2))) (dCons (DM.ret (.int 0)) (dCons (DM.ret (.int 6)) (DM.ret []))))))))
 SM.nxt)))))))
theorem b42_eq (k:Nat):iSs (Gk (k+1)) fuel { N:=f42.N,scope:=f42.scope,own:=fun _=>true } f42.body=b42 k:=by kernel_rfl
theorem lenN43:f43.N.length=3:=by decide +kernel
noncomputable def b43 (k:Nat):SM :=
 (seqS (ifS (dNotT (truM (calM (runF (Gk k) fuel f41) (dCons (vr 0) (dCons (dispM (pCons "count" (DM.ret (.int 5)) (pCons "letters" (DM.ret (.int 4)) (pCons "not" (DM.ret (.int 2)) (pCons "both" (DM.ret (.int 3)) (pCons "either" (DM.ret (.int 3)) (DM.ret []))))))) (DM.ret []))))))
 (seqS (retS (DM.ret (.bl false)))
  SM.nxt)
 SM.nxt)
 (seqS (ifS (boolD (dop eqD (dop ixD (vr 0) (DM.ret (.int 0))) (DM.ret (.str "letters"))))
 (seqS (retS (dAndV (calM (runF (Gk k) fuel f39) (dCons (dop ixD (vr 0) (DM.ret (.int 1))) (dCons (DM.ret (.int 1)) (dCons (DM.ret (.int 12)) (DM.ret []))))) (dAndV (calM (runF (Gk k) fuel f40) (dCons (dop ixD (vr 0) (DM.ret (.int 2))) (dCons (DM.ret (.int 0)) (dCons (DM.ret .non) (DM.ret []))))) (calM (runF (Gk k) fuel f40) (dCons (dop ixD (vr 0) (DM.ret (.int 3))) (dCons (DM.ret (.int 0)) (dCons (DM.ret .non) (DM.ret []))))))))
  SM.nxt)
 SM.nxt)
 (seqS (ifS (boolD (dop eqD (dop ixD (vr 0) (DM.ret (.int 0))) (DM.ret (.str "count"))))
 (seqS (asgS (dAndV (calM (runF (Gk k) fuel f39) (dCons (dop ixD (vr 0) (DM.ret (.int 1))) (dCons (DM.ret (.int 0)) (dCons (dop subD (vr 1) (DM.ret (.int 1))) (DM.ret []))))) (calM (runF (Gk k) fuel f42) (dCons (dop ixD (vr 0) (DM.ret (.int 2))) (DM.ret [])))) (gSet 2))
  (seqS (retS (dAndV (vr 2) (dAndV (calM (runF (Gk k) fuel f40) (dCons (dop ixD (vr 0) (DM.ret (.int 3))) (dCons (DM.ret (.int 0)) (dCons (DM.ret (.int 6)) (DM.ret []))))) (calM (runF (Gk k) fuel f40) (dCons (dop ixD (vr 0) (DM.ret (.int 4))) (dCons (DM.ret (.int 0)) (dCons (DM.ret (.int 6)) (DM.ret []))))))))
  SM.nxt))
 SM.nxt)
 (seqS (retS (dop eqD (compM (srcM (dSl (vr 0) (some (DM.ret (.int 1))) none)) [none,none,some 1] (gSet 1) (dNotT (truM (calM (runF (Gk k) fuel f43) (dCons (vr 1) (dCons (vr 2) (DM.ret [])))))) (vr 1)) (lstM (DM.ret []))))
 SM.nxt))))
theorem b43_eq (k:Nat):iSs (Gk (k+1)) fuel { N:=f43.N,scope:=f43.scope,own:=fun _=>true } f43.body=b43 k:=by kernel_rfl
theorem lenN44:f44.N.length=2:=by decide +kernel
noncomputable def b44 (k:Nat):SM :=
 (seqS (ifS (dNotT (truM (calM (runF (Gk k) fuel f41) (dCons (vr 0) (dCons (dispM (pCons "never" (DM.ret (.int 2)) (pCons "behind" (DM.ret (.int 3)) (pCons "comes" (DM.ret (.int 3)) (DM.ret []))))) (DM.ret []))))))
 (seqS (retS (DM.ret (.bl false)))
  SM.nxt)
 SM.nxt)
 (seqS (retS (dop eqD (compM (srcM (dSl (vr 0) (some (DM.ret (.int 1))) none)) [none,none,some 1] (gSet 1) (dNotT (truM (calM (runF (Gk k) fuel f43) (dCons (vr 1) (dCons (vr 2) (DM.ret [])))))) (vr 1)) (lstM (DM.ret []))))
 SM.nxt))
theorem b44_eq (k:Nat):iSs (Gk (k+1)) fuel { N:=f44.N,scope:=f44.scope,own:=fun _=>true } f44.body=b44 k:=by kernel_rfl
theorem lenN45:f45.N.length=5:=by decide +kernel
noncomputable def bB45 (k:Nat):SM :=
 (seqS (asgS (DM.ret (.bl false)) (gSet 2))
 (seqS (tryN (dCons (vr 0) (dCons (vr 1) (DM.ret []))) (runF (Gk k) fuel f27) (runR (Gk k) xcl fuel f27) "NoClaim" suM)
 (seqS (retS (vr 2))
 SM.nxt)))
theorem bB45_eq (k:Nat):iB (Gk (k+1)) (Ek (k+1)) td0 fuel { N:=f45.N,scope:=f45.scope,own:=fun _=>true } f45.body=bB45 k:=by kernel_rfl
theorem lenN46:f46.N.length=7:=by decide +kernel
noncomputable def b46 (k:Nat):SM :=
 (seqS (asgS (dop addD (DM.ret (.int 1)) (dop modD (calM (runF (Gk k) fuel f29) (dCons (vr 0) (dCons (DM.ret (.int 0)) (DM.ret [])))) (DM.ret (.int 3)))) (gSet 1))
 (seqS (asgS (tupM (dCons (DM.ret (.int 1)) (dCons (tupM (dCons (DM.ret (.int 0)) (dCons (DM.ret (.int 0)) (DM.ret [])))) (dCons (dop mulD (tupM (dCons (tupM (DM.ret [])) (DM.ret []))) (vr 1)) (dCons (tupM (dCons (DM.ret (.int 0)) (DM.ret []))) (DM.ret [])))))) (gSet 2))
 (seqS (forS (rngM rng3 (dCons (DM.ret (.int 1)) (dCons (calM maxD2 (dCons (DM.ret (.int 3)) (dCons (calM minD3 (dCons (DM.ret (.int 61)) (dCons (calM lenD (dCons (vr 0) (DM.ret []))) (DM.ret [])))) (DM.ret [])))) (dCons (DM.ret (.int 2)) (DM.ret []))))) (gSet 3)
 (seqS (asgS (calM (runF (Gk k) fuel f35) (dCons (calM (runF (Gk k) fuel f29) (dCons (vr 0) (dCons (vr 3) (DM.ret [])))) (dCons (vr 1) (DM.ret [])))) (gSet 4))
  (seqS (ifS (boolD (dop (isD true) (calM (runF (Gk k) fuel f27) (dCons (vr 2) (dCons (vr 4) (DM.ret [])))) (DM.ret .non)))
  (seqS (retS (DM.ret (.bl false)))
   SM.nxt)
  SM.nxt)
  (seqS (asgS (calM (runF (Gk k) fuel f29) (dCons (vr 0) (dCons (dop addD (vr 3) (DM.ret (.int 1))) (DM.ret [])))) (gSet 5))
  (seqS (ifS (boolD (dop (isD true) (calM (runF (Gk k) fuel f27) (dCons (vr 2) (dCons (dop addD (tupM (dCons (dop ixD (vr 4) (DM.ret (.int 0))) (dCons (calM (runF (Gk k) fuel f36) (dCons (dop ixD (vr 4) (DM.ret (.int 1))) (dCons (dop modD (vr 5) (DM.ret (.int 23))) (DM.ret [])))) (DM.ret [])))) (dSl (vr 4) (some (DM.ret (.int 2))) none)) (DM.ret [])))) (DM.ret .non)))
  (seqS (retS (DM.ret (.bl false)))
   SM.nxt)
  SM.nxt)
  (seqS (asgS (dop ixD (lstM (dCons (DM.ret .non) (dCons (DM.ret (.int 7)) (dCons (DM.ret (.str "never")) (dCons (lstM (DM.ret [])) (dCons (tupM (DM.ret [])) (dCons (lstM (dCons (DM.ret (.str "never")) (dCons (dop ixD (vr 4) (DM.ret (.int 1))) (DM.ret [])))) (dCons (tupM (dCons (vr 4) (DM.ret []))) (dCons (dop ixD (vr 4) (DM.ret (.int 1))) (DM.ret [])))))))))) (dop modD (dop fdivD (vr 5) (DM.ret (.int 2))) (DM.ret (.int 8)))) (gSet 6))
  (seqS (ifS (boolD (dop eqD (dop modD (vr 5) (DM.ret (.int 2))) (DM.ret (.int 1))))
  (seqS (asgS (calM (runF (Gk k) fuel f38) (dCons (vr 4) (dCons (calM (runF (Gk k) fuel f31) (dCons (dop fdivD (vr 5) (DM.ret (.int 2))) (dCons (DM.ret (.int 8)) (dCons (dop powD (DM.ret (.int 10)) (DM.ret (.int 6))) (DM.ret []))))) (dCons (DM.ret (.int 6)) (DM.ret []))))) (gSet 6))
   SM.nxt)
  SM.nxt)
  (seqS (ifS (dNotT (truM (calM (runF (Gk k) fuel f44) (dCons (vr 6) (dCons (vr 1) (DM.ret []))))))
  (seqS (ifS (dOrT (dNotT (truM (calM (runB (Gk k) (Ek k) td0 fuel f45) (dCons (vr 2) (dCons (vr 6) (DM.ret [])))))) (dNotT (truM (calM (runB (Gk k) (Ek k) td0 fuel f45) (dCons (vr 2) (dCons (vr 6) (DM.ret [])))))))
   (seqS (retS (DM.ret (.bl false)))
    SM.nxt)
   SM.nxt)
   SM.nxt)
  (seqS (ifS (boolD (dop (isD true) (calM (runF (Gk k) fuel f27) (dCons (vr 2) (dCons (vr 6) (DM.ret [])))) (DM.ret .non)))
   (seqS (retS (DM.ret (.bl false)))
    SM.nxt)
   SM.nxt)
   SM.nxt))
  SM.nxt))))))))
 (seqS (retS (DM.ret (.bl true)))
 SM.nxt))))
theorem b46_eq (k:Nat):iSs (Gk (k+1)) fuel { N:=f46.N,scope:=f46.scope,own:=fun _=>true } f46.body=b46 k:=by kernel_rfl
theorem rl_end {K:PySem.W.Frag}{H:Hp}{ρ:List Addr}{loc:DL.Loc}{σ:DL.St}(rl:RL K H ρ loc σ) (h5:σ.length=5) (v1 v2 v3:Option V):RL K H ρ (((loc.set 3 none).set 4 none).set 2 (some (.bl true))) (((((σ.set 3 v1).set 4 v2).set 4 v3).set 2 (some (.bl true))).set 3 none):=by
 refine ⟨by simp only [List.length_set];exact rl.1,fun j d e=>?_⟩;have l6:loc.length=5:=rl.1.trans h5
 by_cases j3:j=2
 ·subst j3;rw [List.getElem?_set_self (by simp only [List.length_set];omega)] at e;cases e;exact ⟨.bl true,by rw [List.getElem?_set_ne (by decide),List.getElem?_set_self (by simp only [List.length_set];omega)],.bl true⟩
 ·rw [List.getElem?_set_ne (Ne.symm j3)] at e
  by_cases j5:j=4
  ·subst j5;rw [List.getElem?_set_self (by simp only [List.length_set];omega)] at e;cases e
  ·rw [List.getElem?_set_ne (Ne.symm j5)] at e
   by_cases j4:j=3
   ·subst j4;rw [List.getElem?_set_self (by omega)] at e;cases e
   ·rw [List.getElem?_set_ne (Ne.symm j4)] at e;obtain ⟨v,e1,r⟩:=rl.2 j d e;exact ⟨v,by rw [List.getElem?_set_ne (Ne.symm j4),List.getElem?_set_ne (Ne.symm j3),List.getElem?_set_ne (Ne.symm j5),List.getElem?_set_ne (Ne.symm j5),List.getElem?_set_ne (Ne.symm j4)];exact e1,r⟩
theorem rds_bls {K:PySem.W.Frag}{H:Hp}{ρ:List Addr}:∀ n,RDs K H ρ (bls n) (List.replicate n (V.bl false))
 | 0=>.nil
 | n+1=>.cons (.bl false) (rds_bls n)
theorem not_in {m:MH}{n:Nat}(e:m[n]?=some (.lst ((bls 4++bls 3)++bls 1))):inD true (.bl true) (.ref n) m=some (.bl true,m):=by
 have e1:py m 60 (.bl true)=some (.bool true):=rfl;have e2:py m 60 (.ref n)=some (.list (List.replicate 8 (.bool false))):=by
  show (match m[n]? with | some (.lst o)=>(match mapO (py m 59) o with | some xs=>some (PyData.list xs) | none=>none) | _=>none)=_;rw [e];rfl
 simp only [inD,dctOf_lst e,inD0,inB,e1,e2];rfl
theorem suok {K:PySem.W.Frag}{h:Heap}{mg:Str→Option Value}(Y:K.In h) (N:h.Ns mainGlobals mg) {C L A0 A1 A2 A3 A4 A5 A7 A8 A9:Addr}
  (qa:PySem.W.nsIn K mainGlobals "NoClaim"=some (some (.ref C))) (qb:PySem.W.excIn K C bmV "ValueError.__new__"=true)
  (qc:PySem.W.nsIn K mainGlobals "LetterError"=some (some (.ref L))) (qd:PySem.W.excIn K L bmV "ValueError.__new__"=true)
  (qe:mroHas K C L=true) (qf:excN K C=true) (qi:PySem.W.nsIn K mainGlobals "isinstance"=some none)
  (g0:PySem.W.nsIn K mainGlobals "NoStep"=some (some (.ref A0))) (h0:PySem.W.kitOne K (.ref C) (.ref A0)=some false)
  (g1:PySem.W.nsIn K mainGlobals "NoProgram"=some (some (.ref A1))) (h1:PySem.W.kitOne K (.ref C) (.ref A1)=some false)
  (g2:PySem.W.nsIn K mainGlobals "NoMove"=some (some (.ref A2))) (h2:PySem.W.kitOne K (.ref C) (.ref A2)=some false)
  (g3:PySem.W.nsIn K mainGlobals "NoText"=some (some (.ref A3))) (h3:PySem.W.kitOne K (.ref C) (.ref A3)=some false)
  (g4:PySem.W.nsIn K mainGlobals "NoLine"=some (some (.ref A4))) (h4:PySem.W.kitOne K (.ref C) (.ref A4)=some false)
  (g5:PySem.W.nsIn K mainGlobals "NoClaim"=some (some (.ref A5))) (h5:PySem.W.kitOne K (.ref C) (.ref A5)=some true)
  (g6:PySem.W.nsIn K mainGlobals "ValueError"=some none) (h6:PySem.W.kitOne K (.ref C) (.type "ValueError")=some true)
  (g7:PySem.W.nsIn K mainGlobals "NoRenaming"=some (some (.ref A7))) (h7:PySem.W.kitOne K (.ref C) (.ref A7)=some false)
  (g8:PySem.W.nsIn K mainGlobals "NoTalk"=some (some (.ref A8))) (h8:PySem.W.kitOne K (.ref C) (.ref A8)=some false)
  (g9:PySem.W.nsIn K mainGlobals "CantKnow"=some (some (.ref A9))) (h9:PySem.W.kitOne K (.ref C) (.ref A9)=some false) :
  SuOk K mg { N:=f45.N,scope:=f45.scope,own:=fun _=>true } td0:=by
 refine ⟨C,L,3,PySem.W.mg_of Y N qa,PySem.W.mg_of Y N qc,qb,qd,qe,by kernel_rfl,by kernel_rfl,fun X k G hK hM O=>?_⟩
 have n3:X.N[3]?=some ("e":Str):=by rw [O.N];kernel_rfl
 have n4:X.N[4]?=some ("_law_kinds":Str):=by rw [O.N];kernel_rfl
 have n2:X.N[2]?=some ("_law_right":Str):=by rw [O.N];kernel_rfl
 have nd:X.N.Nodup:=by rw [O.N];exact O.nd
 have nl:X.N.length=5:=by rw [O.N];exact lenN45
 have ve:Vis X.env.scope "e":=O.vis (by kernel_rfl)
 have vo:Vis X.env.scope "_law_kinds":=O.vis (by kernel_rfl)
 have lo:X.env.scope.names.lookup ("_law_kinds":Str)=some .local:=by rw [O.sco];kernel_rfl
 have lf:X.env.scope.names.lookup ("_law_right":Str)=some .local:=by rw [O.sco];kernel_rfl
 have gi:Gl X "isinstance":=O.gl (by kernel_rfl)
 have mi:X.mg "isinstance"=none:=by rw [hM];exact PySem.W.mg_none_of Y N qi
 subst hK;refine suiteN_of O.xe fun a ob jx=>?_
 have un:(X.held a ob).A.units+64 < cLine:=O.units
 have own:∀ {c:Str} {A:Addr} {b:Bool} {p p2 p3 pos:Pos},Gl X c→X.mg c=some (.ref A)→(c==("__debug__":Str))=false→PySem.W.kitOne X.K (.ref C) (.ref A)=some b→PE (X.held a ob) (.Call (.Name "isinstance" p) [.Name "e" p2,.Name c p3] [] pos) (tHeld 3 a b):=fun hg hm hd hk =>
  pe_isiE qb qf jx.1 gi mi n3 ve (by decide) (by decide) (cv:=.ref _) (pe_glob (X:=X.held a ob) hg hm rfl hd) (fun u r=>r) hk
 have mgo:∀ {c:Str} {A:Addr},PySem.W.nsIn X.K mainGlobals c=some (some (.ref A))→X.mg c=some (.ref A):=fun g=>by rw [hM];exact PySem.W.mg_of Y N g
 have c0:=fun {p p2 p3 pos}=>own (p:=p) (p2:=p2) (p3:=p3) (pos:=pos) (O.gl (x := "NoStep") (by kernel_rfl)) (mgo g0) (by decide) h0
 have c1:=fun {p p2 p3 pos}=>own (p:=p) (p2:=p2) (p3:=p3) (pos:=pos) (O.gl (x := "NoProgram") (by kernel_rfl)) (mgo g1) (by decide) h1
 have c2:=fun {p p2 p3 pos}=>own (p:=p) (p2:=p2) (p3:=p3) (pos:=pos) (O.gl (x := "NoMove") (by kernel_rfl)) (mgo g2) (by decide) h2
 have c3:=fun {p p2 p3 pos}=>own (p:=p) (p2:=p2) (p3:=p3) (pos:=pos) (O.gl (x := "NoText") (by kernel_rfl)) (mgo g3) (by decide) h3
 have c4:=fun {p p2 p3 pos}=>own (p:=p) (p2:=p2) (p3:=p3) (pos:=pos) (O.gl (x := "NoLine") (by kernel_rfl)) (mgo g4) (by decide) h4
 have c5:=fun {p p2 p3 pos}=>own (p:=p) (p2:=p2) (p3:=p3) (pos:=pos) (O.gl (x := "NoClaim") (by kernel_rfl)) (mgo g5) (by decide) h5
 have c7:=fun {p p2 p3 pos}=>own (p:=p) (p2:=p2) (p3:=p3) (pos:=pos) (O.gl (x := "NoRenaming") (by kernel_rfl)) (mgo g7) (by decide) h7
 have c8:=fun {p p2 p3 pos}=>own (p:=p) (p2:=p2) (p3:=p3) (pos:=pos) (O.gl (x := "NoTalk") (by kernel_rfl)) (mgo g8) (by decide) h8
 have c9:=fun {p p2 p3 pos}=>own (p:=p) (p2:=p2) (p3:=p3) (pos:=pos) (O.gl (x := "CantKnow") (by kernel_rfl)) (mgo g9) (by decide) h9
 have c6:∀ {p p2 p3 pos:Pos},PE (X.held a ob) (.Call (.Name "isinstance" p) [.Name "e" p2,.Name "ValueError" p3] [] pos) (tHeld 3 a true):=fun {p p2 p3 pos} =>
  pe_isiE qb qf jx.1 gi mi n3 ve (by decide) (by decide) (cv:=.ty "ValueError") (pe_bltn (X:=X.held a ob) (O.gl (x := "ValueError") (by kernel_rfl)) (by rw [hM];exact PySem.W.mg_none_of Y N g6) (u:=.type "ValueError") (by decide +kernel) rfl) (fun u r=>r) h6
 have po:∀ {pos:Pos},PE (X.held a ob) (.Name "_law_kinds" pos) (tVar 4):=fun {pos}=>pe_var (X:=X.held a ob) n4 vo
 have so:∀ {pos:Pos},PG (X.held a ob) (.Name "_law_kinds" pos) (gName 4):=fun {pos}=>pg_name (X:=X.held a ob) nd n4 (.inl lo) (.inr lo)
 have sf:∀ {pos:Pos},PG (X.held a ob) (.Name "_law_right" pos) (gName 2):=fun {pos}=>pg_name (X:=X.held a ob) nd n2 (.inl lf) (.inr lf)
 refine ⟨_,pss_cons (ps_asg (pe_lst (pa_cons c0 (pa_cons c1 (pa_cons c2 (pa_cons c3 pa_nil))))) so)
  (pss_cons (ps_asg (pe_op (op_addD (X:=X.held a ob)) po (pe_lst (pa_cons c7 (pa_cons c8 (pa_cons c9 pa_nil))))) so)
   (pss_cons (ps_expr (pe_bm PySem.F.plainAttrs_list PySem.F.slot_list_append PySem.F.type_list_append (mt_appendD (X:=X.held a ob)) po (pa_cons c4 pa_nil)))
    (pss_cons (ps_asg (pe_and c5 (pe_and c6 (pe_one (pe_cmpR (op_notInD (X:=X.held a ob) un) pe_bl po rfl)))) sf) pss_nil))),fun σ H D hl q=>?_⟩
 obtain ⟨loc,mh,ρ,fl,loc',mh',q,rl,rs,co⟩:=q;cases q;rw [nl] at hl;have e4:(σ.set 3 (some (.ref a)))[3]?=some (some (V.ref a)):=List.getElem?_set_self (by omega);refine ⟨e4,e4,e4,e4,by decide,fun p1 hp1=>?_⟩;have rs1:=rs.newL hp1 (rds_bls 4);have ev1:Ev X.K H ρ (upd H p1 (.lst (List.replicate 4 (V.bl false)))) (ρ++[p1]):=Ev.newL hp1;have r1:RD X.K (upd H p1 (.lst (List.replicate 4 (V.bl false)))) (ρ++[p1]) (.ref mh.length) (.ref p1):=.ref (rs.last p1);have s1:((σ.set 3 (some (V.ref a))).set 4 (some (.ref p1)))[4]?=some (some (V.ref p1)):=List.getElem?_set_self (by rw [List.length_set];omega);have e41:((σ.set 3 (some (V.ref a))).set 4 (some (.ref p1)))[3]?=some (some (V.ref a)):=by rw [List.getElem?_set_ne (by decide)];exact e4
 refine ⟨_,s1,e41,e41,e41,by decide,fun p2 hp2=>?_⟩;have rs2:=rs1.newL hp2 (rds_bls 3);have ev2:Ev X.K (upd H p1 (.lst (List.replicate 4 (V.bl false)))) (ρ++[p1]) (upd (upd H p1 (.lst (List.replicate 4 (V.bl false)))) p2 (.lst (List.replicate 3 (V.bl false)))) ((ρ++[p1])++[p2]):=Ev.newL hp2;have r2:RD X.K (upd (upd H p1 (.lst (List.replicate 4 (V.bl false)))) p2 (.lst (List.replicate 3 (V.bl false)))) ((ρ++[p1])++[p2]) (.ref (mh++[MO.lst (bls 4)]).length) (.ref p2):=.ref (rs1.last p2);refine ⟨(ρ++[p1])++[p2],_,_,_,_,_,addD_lst (n:=mh.length) (m:=(mh++[MO.lst (bls 4)]).length) (xs:=bls 4) (ys:=bls 3) (by rw [List.getElem?_append_left (by simp)];exact at_new) at_new (by decide),rs2,r1.mono ev2,r2,fun H3 ρ3 v3 ev3 rs3 r3=>?_⟩;have s3:(((σ.set 3 (some (V.ref a))).set 4 (some (.ref p1))).set 4 (some v3))[4]?=some (some v3):=List.getElem?_set_self (by rw [List.length_set,List.length_set];omega);have e43:(((σ.set 3 (some (V.ref a))).set 4 (some (.ref p1))).set 4 (some v3))[3]?=some (some (V.ref a)):=by rw [List.getElem?_set_ne (by decide)];exact e41
 have at3:(((mh++[MO.lst (bls 4)])++[MO.lst (bls 3)])++[MO.lst (bls 4++bls 3)])[((mh++[MO.lst (bls 4)])++[MO.lst (bls 3)]).length]?=some (.lst (bls 4++bls 3)):=at_new
 have ty3:tyV X.K "list" v3 H3:=tyOk_V rs3 r3 (ty_list at3)
 refine ⟨_,s3,ty3,e43,?_⟩;refine ⟨ρ3,_,_,[.bl false],_,_,appendD_ok at3 (by decide),rs3,r3,.cons (.bl false) .nil,fun H4 ρ4 v4 ev4 rs4 r4=>?_⟩;refine ⟨e43,true,rfl,iteT ⟨e43,true,rfl,iteT ⟨_,s3,?_⟩⟩⟩;have em:((((mh++[MO.lst (bls 4)])++[MO.lst (bls 3)])++[MO.lst (bls 4++bls 3)]).set ((mh++[MO.lst (bls 4)])++[MO.lst (bls 3)]).length (MO.lst ((bls 4++bls 3)++[.bl false])))=(((mh++[MO.lst (bls 4)])++[MO.lst (bls 3)])++[MO.lst ((bls 4++bls 3)++bls 1)]):=by
  rw [List.set_append_right _ _ (Nat.le_refl _),Nat.sub_self];rfl
 rw [em] at rs4;refine ⟨ρ4,_,.bl true,_,_,_,not_in at_new,rs4,.bl true,r3.mono ev4,fun H6 ρ6 v6 ev6 rs6 r6=>?_⟩;cases r6;exact co H6 ρ6 _ ((((ev1.trans ev2).trans ev3).trans ev4).trans ev6) rs6 (rl_end (rl.mono ((((ev1.trans ev2).trans ev3).trans ev4).trans ev6)) hl _ _ _)
local macro_rules | `(tactic| walk_at "s") => `(tactic| first
 | (with_reducible refine wS_seq ?_) | (with_reducible refine wS_asg ?_) | (with_reducible refine wS_ret ?_) | (with_reducible refine wS_drop ?_) | (with_reducible refine wS_if ?_) | (with_reducible refine wS_nxt ?_) | (with_reducible refine seqK_nx ?_) | (with_reducible refine seqK_rt ?_)
 | (with_reducible refine wD_vr (by with_unfolding_all rfl) ?_) | (with_reducible refine wD_ret ?_) | (with_reducible refine wD_op ?_) | (with_reducible refine wD_cons ?_) | (with_reducible refine wD_cal ?_) | (with_reducible refine wD_tup ?_) | (with_reducible refine wD_lst ?_) | (with_reducible refine wD_neg ?_)
 | (with_reducible refine wD_isi ?_) | (with_reducible refine wD_listRng ?_) | (with_reducible refine wD_tupRng ?_) | (with_reducible refine wD_lenSet ?_) | (with_reducible refine wD_sortSet ?_) | (with_reducible refine wD_mk ?_) | (with_reducible refine wD_attr ?_) | (with_reducible refine wD_obj ?_) | (with_reducible refine wD_dicIn ?_) | (with_reducible refine wD_dicIx ?_) | (with_reducible refine wD_zip ?_) | (with_reducible refine wS_par ?_) | (with_reducible refine wD_bool ?_) | (with_reducible refine wD_tru ?_) | (with_reducible refine wD_notV ?_) | (with_reducible refine wD_notT ?_)
 | (with_reducible refine wD_andT ?_) | (with_reducible refine wD_orT ?_) | (with_reducible refine wD_andV ?_) | (with_reducible refine wD_orV ?_) | (with_reducible refine wD_if ?_) | (with_reducible refine wD_chain ?_) | (with_reducible refine wD_meth ?_) | (with_reducible refine wD_sl ?_) | (with_reducible refine wD_partN ?_) | (with_reducible refine wD_partS ?_)
 | (with_reducible refine wD_src ?_) | (with_reducible refine wD_enum ?_) | (with_reducible refine wD_rng ?_) | (with_reducible refine wG_set ?_) | (with_reducible refine wG_sub ?_) | (with_reducible refine ex_bl ?_) | (with_reducible refine ex_int ?_) | (with_reducible refine when_t ?_) | (with_reducible refine when_f ?_) | (with_reducible refine when_tt (by with_unfolding_all rfl) ?_) | (with_reducible refine when_ff (by with_unfolding_all rfl) ?_) | (with_reducible refine tru_bl ?_)
 | (with_reducible refine wV_add ?_) | (with_reducible refine wV_sub ?_) | (with_reducible refine wV_icmp ?_) | (with_reducible refine wV_eqI ?_) | (with_reducible refine wV_neI ?_) | (with_reducible refine wV_isi (by with_unfolding_all rfl) (by with_unfolding_all rfl) ?_))
local macro_rules | `(tactic| walk_at "r") => `(tactic| repeat walk_at "s")
theorem and_len {ds:List D}{q:Prop}(h:ds.length≤1000000) (hq:q):ds.length≤1000000∧q:=⟨h,hq⟩
theorem fm_lo (i:Int) {j:Int}(h:0 < j):0≤i.fmod j:=Int.fmod_nonneg_of_pos i h
theorem fm_hi (i:Int) {j:Int}(h:0 < j):i.fmod j < j:=Int.fmod_lt_of_pos i h
theorem fm_nat (i:Int) (n:Nat) (h:0 < n):∃ r:Nat,r < n∧i.fmod (n:Int)=(r:Int):=by
 have l1:=fm_lo i (j:=(n:Int)) (by omega);have l2:=fm_hi i (j:=(n:Int)) (by omega);exact ⟨(i.fmod n).toNat,by omega,by omega⟩
theorem rangeL_nat (n:Nat):rangeL 0 n=(List.range n).map natD:=List.map_congr_left fun x _=>by show D.int (0+(x:Int))=D.int (x:Int);rw [Int.zero_add]
theorem wV_ixAny {n:Nat}{ds:List D}{j:Nat}{mh:MH}{P:D→MH→Prop}(e1:mh[n]?=some (.lst ds)) (hj:j < ds.length) (h:∀ d∈ds,P d mh):wV (ixD (.ref n) (.int j) mh) P:=wV_ixL e1 (List.getElem?_eq_getElem hj) (h _ (List.getElem_mem hj))
theorem run_cell (k:Nat) (ns:List Int) (i:Nat) (mh:MH) {P:D→MH→Prop}(h:∀ v:Int,P (.int v) mh):wV (runF (Gk (k+1)) fuel f29 [.rol (ns.map D.int),.int i] mh) P:=by
 refine wV_run (b29_eq k) lenP29 lenN29 rfl ?_;show wS (b29 k) [some (.rol (ns.map D.int)),some (.int i)] mh _;unfold b29;walk_at "r"
 refine wV_len (by intro z;simp) rfl ?_;walk_at "r"
 refine when_of (fun hk=>?_) fun hk=>?_
 ·walk_at "r"
  rw [decide_eq_true_iff,List.length_map] at hk;have hi:i < ns.length:=by omega
  refine wV_ixR (d:=.int ns[i]) (by rw [List.getElem?_map,List.getElem?_eq_getElem hi];rfl) ?_;exact h _
 ·walk_at "r"
  exact h _
noncomputable def IsI (h:MH) (j:Nat) (ns:List Int):Prop:=h[j]?=some (.lst (ns.map D.int))
theorem IsI.ext {h h':MH}{j:Nat}{ns:List Int}(g:IsI h j ns) (x:Ext [] h h'):IsI h' j ns:=x.old _ _ (by simp) g
theorem lt3 {a:Nat}(h:a < 3):a=0∨a=1∨a=2:=by omega
theorem run_mixed (k:Nat) (c i:Int) (mh:MH) {P:D→MH→Prop}(h:∀ v:Int,0≤v→v < 2147483647→P (.int v) mh):wV (runF (Gk (k+1)) fuel f30 [.int c,.int i] mh) P:=by
 refine wV_run (b30_eq k) lenP30 lenN30 rfl ?_;show wS (b30 k) [some (.int c),some (.int i),none] mh _;unfold b30;walk_at "r"
 refine wV_mod (by decide) ?_;walk_at "r"
 refine wV_mul (.inl ⟨by decide,by decide⟩) ?_;walk_at "r"
 refine wV_mul (.inr ⟨by decide,by decide⟩) ?_;walk_at "r"
 refine wV_mod (by decide) ?_;generalize ((c.fmod 2147483647+7919 * i+1) * 48271)=y;have l1:=fm_lo y (j:=2147483647) (by decide);have l2:=fm_hi y (j:=2147483647) (by decide);generalize y.fmod 2147483647=z at l1 l2;walk_at "r"
 refine wV_fdiv (by decide) (by decide) ?_;walk_at "r"
 refine wV_mul (.inl ⟨by omega,by omega⟩) ?_;walk_at "r"
 refine wV_mod (by decide) ?_;exact h _ (fm_lo _ (by decide)) (fm_hi _ (by decide))
local macro_rules | `(tactic| walk_at "x0") => `(tactic| repeat (first | walk_at "s" | with_reducible refine and_len (by simp) ?_ | with_reducible refine wV_fdiv (by decide) (by decide) ?_ | with_reducible refine wV_mod (by first | decide | omega) ?_))
theorem run_draws (k:Nat) (c:Int) (n:Nat) (hn:n≤1000) (B:Int) (hB:0 < B) (hB2:B≤1000000) (mh:MH) {P:D→MH→Prop}(h:∀ (vs:List Int) (j:Nat) (h':MH),vs.length=n→(∀ v∈vs,0≤v∧v < 2147483647)→mh.length≤j→Ext [] mh h'→h'[j]?=some (.lst (vs.map D.int))→P (.ref j) h') :
  wV (runF (Gk (k+2)) fuel f31 [.int c,.int n,.int B] mh) P:=by
 refine wV_run (b31_eq (k+1)) lenP31 lenN31 rfl ?_;show wS (b31 (k+1)) [some (.int c),some (.int n),some (.int B),none,none,none,none] mh _;unfold b31
 walk_at "x0"
 refine wS_for ?_;walk_at "r"
 refine ⟨_,rng1_nat (by omega),rangeL 0 n,fun i l h=>∃ (r:Int) (x5 x6:Option D) (vs:List Int),l=[some (.int c),some (.int n),some (.int B),some (.ref mh.length),some (.int r),x5,x6]∧vs.length=i∧(∀ v∈vs,0≤v∧v < 2147483647)∧h[mh.length]?=some (.lst (vs.map D.int))∧Ext [] mh h,
  ⟨_,none,none,[],rfl,rfl,fun _ z=>absurd z (by simp),at_new,Ext.more⟩,fun _ _ _ _=>⟨rfl,rfl⟩,?_,?_⟩
 ·rintro i d l h ed ⟨r,x5,x6,vs,rfl,hl,hv,g,x⟩;have li:=(List.getElem?_eq_some_iff.mp ed).1;rw [rangeL_len] at li;rw [rangeL_nat] at ed;obtain ⟨i',_,rfl⟩:=List.mem_map.mp (List.mem_of_getElem? ed);have add:∀ (v r:Int) (x5 x6:Option D),0≤v∧v < 2147483647→∃ (r':Int) (x5' x6':Option D) (vs':List Int),[some (D.int c),some (D.int n),some (D.int B),some (D.ref mh.length),some (D.int r),x5,x6]=[some (D.int c),some (D.int n),some (D.int B),some (D.ref mh.length),some (D.int r'),x5',x6']∧vs'.length=i+1∧(∀ v∈vs',0≤v∧v < 2147483647)∧(h.set mh.length (.lst (vs.map D.int++[.int v])))[mh.length]?=some (.lst (vs'.map D.int))∧Ext [] mh (h.set mh.length (.lst (vs.map D.int++[.int v]))):=fun v r x5 x6 h0=>by
   refine ⟨r,x5,x6,vs++[v],rfl,by rw [List.length_append,hl];rfl,fun w hw=>?_,?_,x.setNew (Nat.le_refl _)⟩
   ·rcases List.mem_append.mp hw with z | z
    ·exact hv w z
    ·rw [List.mem_singleton.mp z];exact h0
   ·rw [at_set g,List.map_append];rfl
  have mixed:wS (seqS (asgS (calM (runF (Gk (k+1)) fuel f30) (dCons (vr 0) (dCons (vr 5) (DM.ret [])))) (gSet 6))
   (seqS (dropS (methM "list" appendD (vr 3) (dCons (dop modD (dop mulD (vr 6) (dop addD (dop fdivD (vr 6) (DM.ret (.int 613))) (DM.ret (.int 40692)))) (DM.ret (.int 2147483399))) (DM.ret []))))
   SM.nxt)) [some (.int c),some (.int n),some (.int B),some (.ref mh.length),some (.int r),some (natD i'),x6] h fun f l h'=>f=.nx∧∃ (r:Int) (x5 x6:Option D) (vs:List Int),l=[some (.int c),some (.int n),some (.int B),some (.ref mh.length),some (.int r),x5,x6]∧vs.length=i+1∧(∀ v∈vs,0≤v∧v < 2147483647)∧h'[mh.length]?=some (.lst (vs.map D.int))∧Ext [] mh h':=by
   walk_at "r"
   refine run_mixed k _ _ _ fun w w1 w2=>?_
   walk_at "r"
   refine ⟨ty_list g,?_⟩;walk_at "r"
   refine wV_fdiv (by decide) (by decide) ?_;walk_at "r"
   refine wV_mul (.inl ⟨by omega,by omega⟩) ?_;walk_at "r"
   refine wV_mod (by decide) ?_;walk_at "r"
   refine wV_append g (by rw [List.length_map];omega) ?_;walk_at "r"
   exact ⟨rfl,add _ _ _ _ ⟨fm_lo _ (by decide),Int.lt_trans (fm_hi _ (by decide)) (by decide)⟩⟩
  have mixed':=wS_mono mixed (Q:=seqK SM.nxt (forK (fun l h=>∃ (r:Int) (x5 x6:Option D) (vs:List Int),l=[some (D.int c),some (D.int n),some (D.int B),some (D.ref mh.length),some (D.int r),x5,x6]∧vs.length=i+1∧(∀ v∈vs,0≤v∧v < 2147483647)∧h[mh.length]?=some (.lst (vs.map D.int))∧Ext [] mh h) (seqK (seqS (retS (vr 3)) SM.nxt) (retK P)))) (by
   rintro f l h' ⟨rfl,q⟩
   exact seqK_nx (wS_nxt q))
  walk_at "r"
  refine wV_mod (by decide) ?_;walk_at "r"
  refine when_of (fun e1=>?_) fun e1=>?_
  ·walk_at "r"
   refine when_of (fun e2=>?_) fun e2=>?_
   ·walk_at "r"
    refine ⟨ty_list g,?_⟩;walk_at "r"
    refine wV_mod (by omega) ?_;walk_at "r"
    refine wV_append g (by rw [List.length_map];omega) ?_;walk_at "r"
    refine wV_fdiv (by omega) (by omega) ?_;walk_at "r"
    exact add _ _ _ _ ⟨fm_lo _ hB,by have:=fm_hi r hB;omega⟩
   ·exact mixed'
  ·exact when_f mixed'
 ·rintro l h2 ⟨r,x5,x6,vs,rfl,hl,hv,g,x⟩;rw [rangeL_len] at hl;walk_at "r"
  exact h vs _ _ hl hv (Nat.le_refl _) x g
noncomputable def obIn (lo hi:Int) (x:Option Int):Prop:=∀ i,x=some i→lo≤i∧i≤hi
theorem obIn.no {lo hi:Int}:obIn lo hi none:=fun i e=>by cases e
theorem obIn.so {lo hi i:Int}(h1:lo≤i) (h2:i≤hi):obIn lo hi (some i):=fun j e=>by cases e;exact ⟨h1,h2⟩
noncomputable def ob:Option Int→D
 | none=>.non
 | some i=>.int i
theorem two_of {l:List Int}(h:l.length=2):∃ a b,l=[a,b]:=by
 match l,h with
 | [a,b],_=>exact ⟨a,b,rfl⟩
theorem wV_rev {n:Nat}{ds:List D}{mh:MH}{P:D→MH→Prop}(g:mh[n]?=some (.lst ds)) (h:P (.ref mh.length) (mh++[.lst ds.reverse])):wV (revD (.ref n) mh) P:=by
 refine ⟨_,_,?_,h⟩;show (match mh[n]? with | some (.lst o)=>some (D.ref mh.length,mh++[MO.lst o.reverse]) | _=>none)=_;rw [g]
theorem run_bounds (k:Nat) (v lo hi:Int) (hl:lo≤hi) (mh:MH) {P:D→MH→Prop}(h:∀ (x y:Option Int) h',obIn lo (hi+1) x→obIn lo (hi+1) y→Ext [] mh h'→P (.tup [ob x,ob y]) h'):wV (runF (Gk (k+1)) fuel f32 [.int v,.int lo,.int hi] mh) P:=by
 refine wV_run (b32_eq k) lenP32 lenN32 rfl ?_;show wS (b32 k) [some (.int v),some (.int lo),some (.int hi),none] mh _;unfold b32
 walk_at "x0"
 refine wV_sortI (ns:=[lo+(v.fdiv 4).fmod (hi - lo+1),lo+(v.fdiv 64).fmod (hi - lo+1)]) at_new (by simp) ?_;obtain ⟨a,b,eab⟩:=two_of (l:=sortI [lo+(v.fdiv 4).fmod (hi - lo+1),lo+(v.fdiv 64).fmod (hi - lo+1)]) (by rw [(sortI_perm _).length_eq];rfl);have inn:∀ z∈sortI [lo+(v.fdiv 4).fmod (hi - lo+1),lo+(v.fdiv 64).fmod (hi - lo+1)],lo≤z∧z≤hi:=fun z hz=>by
  have q:=(sortI_perm _).mem_iff.mp hz;have z1:=fm_lo (v.fdiv 4) (j:=hi - lo+1) (by omega);have z2:=fm_hi (v.fdiv 4) (j:=hi - lo+1) (by omega);have z3:=fm_lo (v.fdiv 64) (j:=hi - lo+1) (by omega);have z4:=fm_hi (v.fdiv 64) (j:=hi - lo+1) (by omega);simp only [List.mem_cons,List.mem_nil_iff,or_false] at q;rcases q with rfl | rfl
  ·exact ⟨by omega,by omega⟩
  ·exact ⟨by omega,by omega⟩
 rw [eab] at inn ⊢;have ia:=inn a (by simp);have ib:=inn b (by simp)
 have rest:∀ (j:Nat) (a b:Int) (m2:MH),lo≤a∧a≤hi→lo≤b∧b≤hi→Ext [] mh m2→m2[j]?=some (.lst ([a,b].map D.int))→wS (seqS (retS (dop ixD (lstM (dCons (tupM (dCons (dop ixD (vr 3) (DM.ret (.int 0))) (dCons (dop ixD (vr 3) (DM.ret (.int 1))) (DM.ret [])))) (dCons (tupM (dCons (dop ixD (vr 3) (DM.ret (.int 0))) (dCons (DM.ret .non) (DM.ret [])))) (dCons (tupM (dCons (DM.ret .non) (dCons (dop ixD (vr 3) (DM.ret (.int 1))) (DM.ret [])))) (dCons (tupM (dCons (dop ixD (vr 3) (DM.ret (.int 0))) (dCons (dop addD (dop ixD (vr 3) (DM.ret (.int 1))) (DM.ret (.int 1))) (DM.ret [])))) (DM.ret [])))))) (dop modD (vr 0) (DM.ret (.int 4)))))
  SM.nxt) [some (.int v),some (.int lo),some (.int hi),some (.ref j)] m2 (retK P):=fun j a b m2 ia ib x2 g2=>by
  walk_at "x0"
  refine wV_ixL (j:=0) g2 rfl ?_
  walk_at "x0"
  refine wV_ixL (j:=1) g2 rfl ?_
  walk_at "x0"
  refine wV_ixL (j:=0) g2 rfl ?_
  walk_at "x0"
  refine wV_ixL (j:=1) g2 rfl ?_
  walk_at "x0"
  refine wV_ixL (j:=0) g2 rfl ?_
  walk_at "x0"
  refine wV_ixL (j:=1) g2 rfl ?_
  walk_at "x0"
  obtain ⟨r,hr,er⟩:=fm_nat v 4 (by decide);have er:v.fmod 4=(r:Int):=er;rw [er];refine wV_ixAny at_new (by simpa using hr) fun d hd=>?_
  simp only [List.mem_cons,List.mem_nil_iff,or_false] at hd;rcases hd with rfl | rfl | rfl | rfl
  ·exact h (some a) (some b) _ (.so ia.1 (by omega)) (.so ib.1 (by omega)) (x2.trans Ext.more)
  ·exact h (some a) none _ (.so ia.1 (by omega)) .no (x2.trans Ext.more)
  ·exact h none (some b) _ .no (.so ib.1 (by omega)) (x2.trans Ext.more)
  ·exact h (some a) (some (b+1)) _ (.so ia.1 (by omega)) (.so (by omega) (by omega)) (x2.trans Ext.more)
 walk_at "x0"
 refine when_of (fun e=>?_) fun e=>?_
 ·refine wS_seq (wS_asg (wD_rev ?_))
  walk_at "x0"
  refine wV_rev at_new ?_;exact wG_set (seqK_nx (wS_nxt (seqK_nx (rest _ b a _ ib ia ((Ext.more.trans Ext.more).trans Ext.more) at_new))))
 ·exact wS_nxt (seqK_nx (rest _ a b _ ia ib (Ext.more.trans Ext.more) at_new))
inductive HT where
 | no (a:HT) | both (a b:HT) | either (a b:HT) | at (n:Int) | num (b:Nat) (lo hi:Option Int) | has (b:Nat) | fallen | many (b n:Nat) | bell
noncomputable def htD:HT→D
 | .no a=>.tup [.str "not",htD a]
 | .both a b=>.tup [.str "both",htD a,htD b]
 | .either a b=>.tup [.str "either",htD a,htD b]
 | .at n=>.tup [.str "at",.int n]
 | .num b lo hi=>.tup [.str "number",.int b,ob lo,ob hi]
 | .has b=>.tup [.str "has",.int b]
 | .fallen=>.tup [.str "fallen"]
 | .many b n=>.tup [.str "many",.int b,.int n]
 | .bell=>.tup [.str "bell"]
noncomputable def HT.ok:HT→Prop
 | .no a=>a.ok
 | .both a b=>a.ok∧b.ok
 | .either a b=>a.ok∧b.ok
 | .at n=>0≤n∧n≤60
 | .num b _ _=>b < 3
 | .has b=>b < 3
 | .many b n=>b < 2∧n < 7
 | _=>True
noncomputable def HT.dep:HT→Nat
 | .no a=>a.dep+1
 | .both a b=>max a.dep b.dep+1
 | .either a b=>max a.dep b.dep+1
 | _=>0
noncomputable def nd:Nat→Nat
 | 0=>1
 | d+1=>1+2 * nd d
theorem nd_pos (d:Nat):1≤nd d:=by
 cases d with
 | zero=>exact Nat.le_refl _
 | succ d=>show 1≤1+2 * nd d;omega
theorem wV_pop {n:Nat}{ns:List Int}{mh:MH}{P:D→MH→Prop}(g:IsI mh n ns) (hl:0 < ns.length) (hz:ns.length≤1000000) (h:∀ h',Ext [n] mh h'→h'.length=mh.length→IsI h' n ns.tail→P (.int ns[0]) h'):wV (popAtD (.ref n) [.int 0] mh) P:=by
 refine wV_popAt (k:=0) (y:=.int ns[0]) g (by rw [List.getElem?_map,List.getElem?_eq_getElem hl];rfl) (by rw [List.length_map];exact hz) ?_;refine h _ Ext.set (by rw [List.length_set]) ?_;have:(ns.map D.int).eraseIdx 0=ns.tail.map D.int:=by cases ns <;> rfl
 rw [this];exact at_set g
theorem run_leaf (k jd:Nat) (d v:Int) (m:MH) {P:D→MH→Prop}(h:∀ t h',HT.ok t→t.dep=0→Ext [] m h'→P (htD t) h'):wS (seqS (asgS (calM (runF (Gk (k+1)) fuel f32) (dCons (dop fdivD (vr 2) (DM.ret (.int 18))) (dCons (negM (DM.ret (.int 4))) (dCons (DM.ret (.int 4)) (DM.ret []))))) (gTupD [4,5]))
 (seqS (asgS (dop eqD (dop modD (dop fdivD (vr 2) (DM.ret (.int 5))) (DM.ret (.int 3))) (DM.ret (.int 2))) (gSet 6))
 (seqS (asgS (lstM (dCons (tupM (dCons (DM.ret (.str "at")) (dCons (dop modD (dop fdivD (vr 2) (DM.ret (.int 18))) (dop ixD (lstM (dCons (DM.ret (.int 7)) (dCons (DM.ret (.int 61)) (DM.ret [])))) (calM intD (dCons (vr 6) (DM.ret []))))) (DM.ret [])))) (dCons (tupM (dCons (DM.ret (.str "number")) (dCons (dop modD (dop fdivD (vr 2) (DM.ret (.int 18))) (DM.ret (.int 3))) (dCons (vr 4) (dCons (vr 5) (DM.ret [])))))) (dCons (tupM (dCons (DM.ret (.str "has")) (dCons (dop modD (dop fdivD (vr 2) (DM.ret (.int 18))) (DM.ret (.int 3))) (DM.ret [])))) (DM.ret []))))) (gSet 7))
 (seqS (retS (dop ixD (dop addD (vr 7) (lstM (dCons (tupM (dCons (DM.ret (.str "fallen")) (DM.ret []))) (dCons (tupM (dCons (DM.ret (.str "many")) (dCons (dop modD (dop fdivD (vr 2) (DM.ret (.int 18))) (DM.ret (.int 2))) (dCons (dop modD (dop fdivD (vr 2) (DM.ret (.int 36))) (DM.ret (.int 7))) (DM.ret []))))) (dCons (tupM (dCons (DM.ret (.str "bell")) (DM.ret []))) (DM.ret [])))))) (dop modD (dop fdivD (vr 2) (DM.ret (.int 3))) (DM.ret (.int 6)))))
 SM.nxt)))) [some (.ref jd),some (.int d),some (.int v),none,none,none,none,none] m (retK P):=by
  walk_at "x0"
  refine run_bounds k _ (-4) 4 (by decide) m fun lo hi h1 o1 o2 x1=>?_
  refine wG_tup rfl ?_;show wS _ [some (.ref jd),some (.int d),some (.int v),none,some (ob lo),some (ob hi),none,none] h1 _
  walk_at "x0"
  generalize ((v.fdiv 5).fmod 3==2)=far;obtain ⟨b3,hb3,e3⟩:=fm_nat (v.fdiv 18) 3 (by decide);obtain ⟨b2,hb2,e2⟩:=fm_nat (v.fdiv 18) 2 (by decide);obtain ⟨n7,hn7,e7⟩:=fm_nat (v.fdiv 36) 7 (by decide);obtain ⟨r,hr,er⟩:=fm_nat (v.fdiv 3) 6 (by decide);have e3:(v.fdiv 18).fmod 3=(b3:Int):=e3;have e2:(v.fdiv 18).fmod 2=(b2:Int):=e2;have e7:(v.fdiv 36).fmod 7=(n7:Int):=e7;have er:(v.fdiv 3).fmod 6=(r:Int):=er;refine wV_of (d:=.int (if far then 1 else 0)) (h:=h1++[.lst [.int 7,.int 61]]) rfl ?_;refine wV_mono (P:=fun d h'=>∃ q:Int,d=.int q∧(0 < q∧q≤61)∧h'=h1++[.lst [.int 7,.int 61]]) ?_ ?_
  · cases far
    · exact wV_ixL (j:=0) at_new rfl ⟨7,rfl,by decide,rfl⟩
    · exact wV_ixL (j:=1) at_new rfl ⟨61,rfl,by decide,rfl⟩
  rintro d' h' ⟨q,rfl,hq,rfl⟩;refine wV_mod (by omega) ?_
  walk_at "x0"
  rw [e3]
  walk_at "x0"
  refine wV_addL ((Ext.more (W:=[])).old _ _ (by simp) at_new) at_new (by simp) ?_
  walk_at "x0"
  rw [er];have fin:∀ {a b c e:MO},Ext [] m (h1++[a]++[b]++[c]++[e]):=fun {a b c e}=>x1.trans (((Ext.more.trans Ext.more).trans Ext.more).trans Ext.more)
  rw [e2,e7];refine wV_ixAny at_new (by simpa using hr) fun d hd=>?_
  simp only [List.mem_cons,List.mem_nil_iff,or_false,List.cons_append,List.nil_append] at hd;rcases hd with rfl | rfl | rfl | rfl | rfl | rfl
  · exact h (.at _) _ ⟨fm_lo _ hq.1,by have:=fm_hi (v.fdiv 18) hq.1;omega⟩ rfl fin
  · exact h (.num b3 lo hi) _ hb3 rfl fin
  · exact h (.has b3) _ hb3 rfl fin
  · exact h .fallen _ trivial rfl fin
  · exact h (.many b2 n7) _ ⟨hb2,hn7⟩ rfl fin
  · exact h .bell _ trivial rfl fin
theorem lt4 {a:Nat}(h:a < 4):a=0∨a=1∨a=2∨a=3:=by omega
theorem eq_no {x y:D}{mh:MH}{P:D→MH→Prop}(e:∀ mh,eqD x y mh=some (.bl false,mh)) (h:P (.bl false) mh):wV (eqD x y mh) P:=⟨_,_,e mh,h⟩
theorem eq_yes {x y:D}{mh:MH}{P:D→MH→Prop}(e:∀ mh,eqD x y mh=some (.bl true,mh)) (h:P (.bl true) mh):wV (eqD x y mh) P:=⟨_,_,e mh,h⟩
theorem keepE {n:Nat}{a b c:MH}(x:Ext [n] a b) (y:Ext [] b c):Ext [n] a c:=x.trans y.weak
theorem run_hand (d:Nat):∀ (k jd:Nat) (vs:List Int) (mh:MH) (g:IsI mh jd vs) (hn:nd d≤vs.length) (hz:vs.length≤1000) {P:D→MH→Prop}(h:∀ (t:HT) (ws:List Int) h',t.ok→t.dep≤d→vs.length≤ws.length+nd d→ws.length≤1000→Ext [jd] mh h'→IsI h' jd ws→P (htD t) h'),
  wV (runF (Gk (k+d+2)) fuel f33 [.ref jd,.int d] mh) P:=by
 induction d with
 | zero =>
  intro k jd vs mh g hn hz P h;refine wV_run (b33_eq (k+1)) lenP33 lenN33 rfl ?_;show wS (b33 (k+1)) [some (.ref jd),some (.int ((0:Nat):Int)),none,none,none,none,none,none] mh _;unfold b33
  walk_at "x0"
  refine ⟨ty_list g,?_⟩
  walk_at "x0"
  have hn:1≤vs.length:=hn;refine wV_pop g (by omega) (by omega) fun m1 y1 l1 g1=>?_
  refine wG_set (seqK_nx ?_);refine wS_seq (wS_if ?_);repeat (with_reducible first | refine wD_andT ?_ | refine wD_bool ?_ | refine wD_op ?_ | refine wD_vr (by with_unfolding_all rfl) ?_ | refine wD_ret ?_ | refine wV_icmp ?_ | refine ex_bl ?_)
  refine when_ff (by decide) (when_f (wS_nxt (seqK_nx (run_leaf k jd _ _ m1 fun t h' ok dp x=>?_))));exact h t _ h' ok (by omega) (by rw [List.length_tail];show vs.length≤vs.length - 1+1;omega) (by rw [List.length_tail];omega) (keepE y1 x) (g1.ext x)
 | succ d ih =>
  intro k jd vs mh g hn hz P h;have np:=nd_pos d;have hn:1+2 * nd d≤vs.length:=hn;have hnd:nd (d+1)=1+2 * nd d:=rfl;refine wV_run (b33_eq (k+d+2)) lenP33 lenN33 rfl ?_;show wS (b33 (k+d+2)) [some (.ref jd),some (.int ((d+1:Nat):Int)),none,none,none,none,none,none] mh _;unfold b33
  walk_at "x0"
  refine ⟨ty_list g,?_⟩
  walk_at "x0"
  refine wV_pop g (by omega) (by omega) fun m1 y1 l1 g1=>?_
  generalize vs[0]'(by omega)=v;refine wG_set (seqK_nx ?_);have leaf:=run_leaf (k+d+1) jd ((d+1:Nat):Int) v m1 (P:=P) fun t h' ok dp x=>h t _ h' ok (by omega) (by rw [List.length_tail];omega) (by rw [List.length_tail];omega) (keepE y1 x) (g1.ext x)
  have lt:vs.tail.length=vs.length - 1:=List.length_tail;refine wS_seq (wS_if ?_)
  walk_at "x0"
  refine when_of (fun e=>?_) fun e=>?_
  ·walk_at "x0"
   refine when_of (fun e2=>?_) fun e2=>?_
   ·walk_at "x0"
    obtain ⟨r,hr,er⟩:=fm_nat (v.fdiv 3) 4 (by decide);have er:(v.fdiv 3).fmod 4=(r:Int):=er;rw [er];have ed:((d+1:Nat):Int) - 1=(d:Int):=by push_cast;omega
    rcases lt4 hr with rfl | rfl | rfl | rfl
    ·refine wV_ixL (j:=0) at_new rfl ?_
     walk_at "x0"
     refine eq_yes (fun _=>by kernel_rfl) ?_
     walk_at "x0"
     rw [ed];refine ih k jd vs.tail _ (g1.ext Ext.more) (by omega) (by omega) fun t ws h' ok dp hl hw x gw=>?_
     walk_at "x0"
     exact h (.no t) ws h' ok (by show t.dep+1≤d+1;omega) (by omega) hw ((keepE y1 Ext.more).trans x) gw
    ·refine wV_ixL (j:=1) at_new rfl ?_
     walk_at "x0"
     refine eq_no (fun _=>by kernel_rfl) ?_
     walk_at "x0"
     rw [ed];refine ih k jd vs.tail _ (g1.ext Ext.more) (by omega) (by omega) fun t ws h' ok dp hl hw x gw=>?_
     walk_at "x0"
     rw [ed];refine ih k jd ws _ gw (by omega) (by omega) fun t2 ws2 h2 ok2 dp2 hl2 hw2 x2 gw2=>?_
     walk_at "x0"
     exact h (.both t t2) ws2 h2 ⟨ok,ok2⟩ (by show max t.dep t2.dep+1≤d+1;omega) (by omega) hw2 (((keepE y1 Ext.more).trans x).trans x2) gw2
    ·refine wV_ixL (j:=2) at_new rfl ?_
     walk_at "x0"
     refine eq_no (fun _=>by kernel_rfl) ?_
     walk_at "x0"
     rw [ed];refine ih k jd vs.tail _ (g1.ext Ext.more) (by omega) (by omega) fun t ws h' ok dp hl hw x gw=>?_
     walk_at "x0"
     rw [ed];refine ih k jd ws _ gw (by omega) (by omega) fun t2 ws2 h2 ok2 dp2 hl2 hw2 x2 gw2=>?_
     walk_at "x0"
     exact h (.either t t2) ws2 h2 ⟨ok,ok2⟩ (by show max t.dep t2.dep+1≤d+1;omega) (by omega) hw2 (((keepE y1 Ext.more).trans x).trans x2) gw2
    ·refine wV_ixL (j:=3) at_new rfl ?_
     walk_at "x0"
     refine eq_no (fun _=>by kernel_rfl) ?_
     walk_at "x0"
     rw [ed];refine ih k jd vs.tail _ (g1.ext Ext.more) (by omega) (by omega) fun t ws h' ok dp hl hw x gw=>?_
     walk_at "x0"
     rw [ed];refine ih k jd ws _ gw (by omega) (by omega) fun t2 ws2 h2 ok2 dp2 hl2 hw2 x2 gw2=>?_
     walk_at "x0"
     exact h (.both t t2) ws2 h2 ⟨ok,ok2⟩ (by show max t.dep t2.dep+1≤d+1;omega) (by omega) hw2 (((keepE y1 Ext.more).trans x).trans x2) gw2
   ·exact wS_nxt (seqK_nx leaf)
  ·exact when_f (wS_nxt (seqK_nx leaf))
inductive TT where
 | no (a:TT) | both (a b:TT) | either (a b:TT) | letters (kd:Int) (lo hi:Option Int) | count (r:Nat) (t:HT) (lo hi:Option Int)
noncomputable def ttD:TT→D
 | .no a=>.tup [.str "not",ttD a]
 | .both a b=>.tup [.str "both",ttD a,ttD b]
 | .either a b=>.tup [.str "either",ttD a,ttD b]
 | .letters kd lo hi=>.tup [.str "letters",.int kd,ob lo,ob hi]
 | .count r t lo hi=>.tup [.str "count",.int r,htD t,ob lo,ob hi]
noncomputable def TT.ok (R:Nat):TT→Prop
 | .no a=>a.ok R
 | .both a b=>a.ok R∧b.ok R
 | .either a b=>a.ok R∧b.ok R
 | .letters kd lo hi=>(1≤kd∧kd≤3)∧obIn 0 6 lo∧obIn 0 6 hi
 | .count r t lo hi=>r < R∧(t.ok∧t.dep≤2)∧obIn 0 6 lo∧obIn 0 6 hi
noncomputable def TT.dep:TT→Nat
 | .no a=>a.dep+1
 | .both a b=>max a.dep b.dep+1
 | .either a b=>max a.dep b.dep+1
 | _=>0
noncomputable def nt:Nat→Nat
 | 0=>8
 | d+1=>1+2 * nt d
theorem nt_pos (d:Nat):8≤nt d:=by
 induction d with
 | zero=>exact Nat.le_refl _
 | succ d ih=>show 8≤1+2 * nt d;omega
theorem run_tleaf (k jd:Nat) (d v:Int) (R:Nat) (hR:1≤R) (vs:List Int) (m:MH) (g:IsI m jd vs) (hn:7≤vs.length) (hz:vs.length≤1000) {P:D→MH→Prop}(h:∀ (t:TT) (ws:List Int) h',t.ok R→t.dep=0→vs.length≤ws.length+7→ws.length≤1000→Ext [jd] m h'→IsI h' jd ws→P (ttD t) h'):wS (seqS (asgS (calM (runF (Gk (k+4)) fuel f32) (dCons (dop fdivD (vr 3) (DM.ret (.int 30))) (dCons (DM.ret (.int 0)) (dCons (dop ixD (lstM (dCons (DM.ret (.int 3)) (dCons (DM.ret (.int 5)) (DM.ret [])))) (dop modD (dop fdivD (vr 3) (DM.ret (.int 7))) (DM.ret (.int 2)))) (DM.ret []))))) (gTupD [5,6]))
 (seqS (ifS (boolD (dop eqD (dop modD (dop fdivD (vr 3) (DM.ret (.int 3))) (DM.ret (.int 3))) (DM.ret (.int 0))))
 (seqS (retS (tupM (dCons (DM.ret (.str "letters")) (dCons (dop addD (DM.ret (.int 1)) (dop modD (dop fdivD (vr 3) (DM.ret (.int 9))) (DM.ret (.int 3)))) (dCons (vr 5) (dCons (vr 6) (DM.ret [])))))))
  SM.nxt)
 SM.nxt)
 (seqS (retS (tupM (dCons (DM.ret (.str "count")) (dCons (dop modD (dop fdivD (vr 3) (DM.ret (.int 9))) (vr 1)) (dCons (calM (runF (Gk (k+4)) fuel f33) (dCons (vr 0) (dCons (DM.ret (.int 2)) (DM.ret [])))) (dCons (vr 5) (dCons (vr 6) (DM.ret []))))))))
 SM.nxt))) [some (.ref jd),some (.int R),some (.int d),some (.int v),none,none,none] m (retK P):=by
  walk_at "x0"
  refine wV_mono (P:=fun d h'=>∃ q:Int,d=.int q∧(0≤q∧q≤5)∧h'=m++[.lst [.int 3,.int 5]]) ?_ ?_
  · obtain ⟨r,hr,er⟩:=fm_nat (v.fdiv 7) 2 (by decide);have er:(v.fdiv 7).fmod 2=(r:Int):=er;rw [er];have:r=0∨r=1:=by omega
    rcases this with rfl | rfl
    · exact wV_ixL (j:=0) at_new rfl ⟨3,rfl,by decide,rfl⟩
    · exact wV_ixL (j:=1) at_new rfl ⟨5,rfl,by decide,rfl⟩
  rintro d' h' ⟨q,rfl,hq,rfl⟩
  walk_at "x0"
  refine run_bounds (k+3) _ 0 q hq.1 _ fun lo hi h1 o1 o2 x1=>?_
  refine wG_tup rfl ?_;show wS _ [some (.ref jd),some (.int R),some (.int d),some (.int v),none,some (ob lo),some (ob hi)] h1 _;have x0:Ext [] m h1:=Ext.more.trans x1;have o1:obIn 0 6 lo:=fun i e=>⟨(o1 i e).1,by have:=(o1 i e).2;omega⟩
  have o2:obIn 0 6 hi:=fun i e=>⟨(o2 i e).1,by have:=(o2 i e).2;omega⟩
  walk_at "x0"
  refine when_of (fun e=>?_) fun e=>?_
  · walk_at "x0"
    exact h (.letters _ lo hi) vs h1 ⟨⟨by have:=fm_lo (v.fdiv 9) (j:=3) (by decide);omega,by have:=fm_hi (v.fdiv 9) (j:=3) (by decide);omega⟩,o1,o2⟩ rfl (by omega) hz x0.weak (g.ext x0)
  · walk_at "x0"
    obtain ⟨r,hr,er⟩:=fm_nat (v.fdiv 9) R hR;rw [er]
    walk_at "x0"
    refine run_hand 2 k jd vs h1 (g.ext x0) hn hz fun t ws h' ok dp hl hw x gw=>?_
    walk_at "x0"
    exact h (.count r t lo hi) ws h' ⟨hr,⟨ok,dp⟩,o1,o2⟩ rfl hl hw (x0.weak.trans x) gw
theorem run_test (d:Nat):∀ (k jd R:Nat) (hR:1≤R) (vs:List Int) (mh:MH) (g:IsI mh jd vs) (hn:nt d≤vs.length) (hz:vs.length≤1000) {P:D→MH→Prop}(h:∀ (t:TT) (ws:List Int) h',t.ok R→t.dep≤d→vs.length≤ws.length+nt d→ws.length≤1000→Ext [jd] mh h'→IsI h' jd ws→P (ttD t) h'),
  wV (runF (Gk (k+d+5)) fuel f34 [.ref jd,.int R,.int d] mh) P:=by
 induction d with
 | zero =>
  intro k jd R hR vs mh g hn hz P h;refine wV_run (b34_eq (k+4)) lenP34 lenN34 rfl ?_;show wS (b34 (k+4)) [some (.ref jd),some (.int R),some (.int ((0:Nat):Int)),none,none,none,none] mh _;unfold b34
  walk_at "x0"
  refine ⟨ty_list g,?_⟩
  walk_at "x0"
  have hn:8≤vs.length:=hn;refine wV_pop g (by omega) (by omega) fun m1 y1 l1 g1=>?_
  have lt:vs.tail.length=vs.length - 1:=List.length_tail;refine wG_set (seqK_nx ?_);refine wS_seq (wS_if ?_);repeat (with_reducible first | refine wD_andT ?_ | refine wD_bool ?_ | refine wD_op ?_ | refine wD_vr (by with_unfolding_all rfl) ?_ | refine wD_ret ?_ | refine wV_icmp ?_ | refine ex_bl ?_)
  refine when_ff (by decide) (when_f (wS_nxt (seqK_nx (run_tleaf k jd _ _ R hR vs.tail m1 g1 (by omega) (by omega) fun t ws h' ok dp hl hw x gw=>?_))));exact h t ws h' ok (by omega) (by show vs.length≤ws.length+8;omega) hw (y1.trans x) gw
 | succ d ih =>
  intro k jd R hR vs mh g hn hz P h;have np:=nt_pos d;have hn:1+2 * nt d≤vs.length:=hn;have hnd:nt (d+1)=1+2 * nt d:=rfl;refine wV_run (b34_eq (k+d+5)) lenP34 lenN34 rfl ?_;show wS (b34 (k+d+5)) [some (.ref jd),some (.int R),some (.int ((d+1:Nat):Int)),none,none,none,none] mh _;unfold b34
  walk_at "x0"
  refine ⟨ty_list g,?_⟩
  walk_at "x0"
  refine wV_pop g (by omega) (by omega) fun m1 y1 l1 g1=>?_
  generalize vs[0]'(by omega)=v;have lt:vs.tail.length=vs.length - 1:=List.length_tail;refine wG_set (seqK_nx ?_);have leaf:=run_tleaf (k+d+1) jd ((d+1:Nat):Int) v R hR vs.tail m1 g1 (by omega) (by omega) (P:=P) fun t ws h' ok dp hl hw x gw=>h t ws h' ok (by omega) (by omega) hw (y1.trans x) gw
  refine wS_seq (wS_if ?_)
  walk_at "x0"
  refine when_of (fun e=>?_) fun e=>?_
  ·walk_at "x0"
   refine when_of (fun e2=>?_) fun e2=>?_
   ·walk_at "x0"
    obtain ⟨r,hr,er⟩:=fm_nat (v.fdiv 3) 4 (by decide);have er:(v.fdiv 3).fmod 4=(r:Int):=er;rw [er];have ed:((d+1:Nat):Int) - 1=(d:Int):=by push_cast;omega
    rcases lt4 hr with rfl | rfl | rfl | rfl
    ·refine wV_ixL (j:=0) at_new rfl ?_
     walk_at "x0"
     refine eq_yes (fun _=>by kernel_rfl) ?_
     walk_at "x0"
     rw [ed];refine ih k jd R hR vs.tail _ (g1.ext Ext.more) (by omega) (by omega) fun t ws h' ok dp hl hw x gw=>?_
     walk_at "x0"
     exact h (.no t) ws h' ok (by show t.dep+1≤d+1;omega) (by omega) hw ((keepE y1 Ext.more).trans x) gw
    ·refine wV_ixL (j:=1) at_new rfl ?_
     walk_at "x0"
     refine eq_no (fun _=>by kernel_rfl) ?_
     walk_at "x0"
     rw [ed];refine ih k jd R hR vs.tail _ (g1.ext Ext.more) (by omega) (by omega) fun t ws h' ok dp hl hw x gw=>?_
     walk_at "x0"
     rw [ed];refine ih k jd R hR ws _ gw (by omega) (by omega) fun t2 ws2 h2 ok2 dp2 hl2 hw2 x2 gw2=>?_
     walk_at "x0"
     exact h (.both t t2) ws2 h2 ⟨ok,ok2⟩ (by show max t.dep t2.dep+1≤d+1;omega) (by omega) hw2 (((keepE y1 Ext.more).trans x).trans x2) gw2
    ·refine wV_ixL (j:=2) at_new rfl ?_
     walk_at "x0"
     refine eq_no (fun _=>by kernel_rfl) ?_
     walk_at "x0"
     rw [ed];refine ih k jd R hR vs.tail _ (g1.ext Ext.more) (by omega) (by omega) fun t ws h' ok dp hl hw x gw=>?_
     walk_at "x0"
     rw [ed];refine ih k jd R hR ws _ gw (by omega) (by omega) fun t2 ws2 h2 ok2 dp2 hl2 hw2 x2 gw2=>?_
     walk_at "x0"
     exact h (.either t t2) ws2 h2 ⟨ok,ok2⟩ (by show max t.dep t2.dep+1≤d+1;omega) (by omega) hw2 (((keepE y1 Ext.more).trans x).trans x2) gw2
    ·refine wV_ixL (j:=3) at_new rfl ?_
     walk_at "x0"
     refine eq_no (fun _=>by kernel_rfl) ?_
     walk_at "x0"
     rw [ed];refine ih k jd R hR vs.tail _ (g1.ext Ext.more) (by omega) (by omega) fun t ws h' ok dp hl hw x gw=>?_
     walk_at "x0"
     rw [ed];refine ih k jd R hR ws _ gw (by omega) (by omega) fun t2 ws2 h2 ok2 dp2 hl2 hw2 x2 gw2=>?_
     walk_at "x0"
     exact h (.either t t2) ws2 h2 ⟨ok,ok2⟩ (by show max t.dep t2.dep+1≤d+1;omega) (by omega) hw2 (((keepE y1 Ext.more).trans x).trans x2) gw2
   ·exact wS_nxt (seqK_nx leaf)
  ·exact when_f (wS_nxt (seqK_nx leaf))
noncomputable def Th (mh:MH):Nat→D→Prop
 | _,.non=>True
 | _,.bl _=>True
 | _,.int _=>True
 | _,.str x=>PyData.strOk x=true
 | 0,_=>False
 | n+1,.tup ds=>∀ x∈ds,Th mh n x
 | n+1,.ref k=>∃ ds,mh[k]?=some (.lst ds)∧∀ x∈ds,Th mh n x
 | _+1,.rol _=>False
 | _+1,.obj ..=>False
theorem Th.ext {mh h:MH}(e:Ext [] mh h):∀ {n:Nat}{d:D},Th mh n d→Th h n d
 | _,.non,_=>by simp only [Th]
 | _,.bl _,_=>by simp only [Th]
 | _,.int _,_=>by simp only [Th]
 | n,.str x,t=>by simp only [Th] at t ⊢;exact t
 | 0,.tup _,t=>by simp only [Th] at t
 | 0,.ref _,t=>by simp only [Th] at t
 | 0,.rol _,t=>by simp only [Th] at t
 | 0,.obj ..,t=>by simp only [Th] at t
 | n+1,.tup ds,t=>by simp only [Th] at t ⊢;exact fun x hx=>(t x hx).ext e
 | n+1,.ref k,t=>by simp only [Th] at t ⊢;obtain ⟨ds,e1,e2⟩:=t;exact ⟨ds,e.old _ _ (by simp) e1,fun x hx=>(e2 x hx).ext e⟩
 | n+1,.rol _,t=>by simp only [Th] at t
 | n+1,.obj ..,t=>by simp only [Th] at t
theorem Th.up {mh:MH}:∀ {n:Nat}{d:D},Th mh n d→Th mh (n+1) d
 | _,.non,_=>by simp only [Th]
 | _,.bl _,_=>by simp only [Th]
 | _,.int _,_=>by simp only [Th]
 | n,.str x,t=>by simp only [Th] at t ⊢;exact t
 | 0,.tup _,t=>by simp only [Th] at t
 | 0,.ref _,t=>by simp only [Th] at t
 | 0,.rol _,t=>by simp only [Th] at t
 | 0,.obj ..,t=>by simp only [Th] at t
 | n+1,.tup ds,t=>by unfold Th at t ⊢;exact fun x hx=>(t x hx).up
 | n+1,.ref k,t=>by unfold Th at t ⊢;obtain ⟨ds,e1,e2⟩:=t;exact ⟨ds,e1,fun x hx=>(e2 x hx).up⟩
 | n+1,.rol _,t=>by unfold Th at t;exact t.elim
 | n+1,.obj ..,t=>by unfold Th at t;exact t.elim
theorem Th.le {mh:MH}{d:D}{n:Nat}(t:Th mh n d):∀ {m:Nat},n≤m→Th mh m d:=fun {m} h=>by
 induction m with
 | zero =>
  have z:n=0:=by omega
  subst z;exact t
 | succ m ih =>
  by_cases e:n=m+1
  ·subst e;exact t
  ·exact (ih (by omega)).up
theorem Th.items {mh:MH}{n:Nat}{ds:List D}(t:Th mh n (.tup ds)):∃ m,n=m+1∧∀ x∈ds,Th mh m x:=by
 cases n with
 | zero=>unfold Th at t;exact t.elim
 | succ m=>unfold Th at t;exact ⟨m,rfl,t⟩
theorem mapO_all {f:D→Option PyData}:∀ {ds:List D},(∀ x∈ds,∃ a,f x=some a)→∃ as,mapO f ds=some as∧as.length=ds.length
 | [],_=>⟨[],rfl,rfl⟩
 | d::r,h=>by
  obtain ⟨a,ea⟩:=h d List.mem_cons_self;obtain ⟨as,eas,el⟩:=mapO_all fun x hx=>h x (List.mem_cons_of_mem _ hx)
  exact ⟨a::as,by simp only [mapO,ea,eas],by rw [List.length_cons,List.length_cons,el]⟩
theorem Th.py {mh:MH}:∀ {n:Nat}{d:D},Th mh n d→∃ a,DL.py mh n d=some a
 | n,.non,_=>⟨.none,by cases n <;> rfl⟩
 | n,.bl b,_=>⟨.bool b,by cases n <;> rfl⟩
 | n,.int i,_=>⟨.int i,by cases n <;> rfl⟩
 | n,.str x,t=>⟨.str x,by
   have t2:PyData.strOk x=true:=by unfold Th at t;exact t
   cases n <;> (show (if PyData.strOk x=true then some (PyData.str x) else none)=_;rw [if_pos t2])⟩
 | 0,.tup _,t=>by simp only [Th] at t
 | 0,.ref _,t=>by simp only [Th] at t
 | 0,.rol _,t=>by simp only [Th] at t
 | 0,.obj ..,t=>by simp only [Th] at t
 | n+1,.tup ds,t=>by
  unfold Th at t;obtain ⟨as,e,_⟩:=mapO_all (f:=DL.py mh n) fun x hx=>(t x hx).py
  exact ⟨.tuple as,by show (match mapO (DL.py mh n) ds with | some xs=>some (PyData.tuple xs) | none=>none)=_;rw [e]⟩
 | n+1,.ref k,t=>by
  unfold Th at t;obtain ⟨ds,e1,t⟩:=t;obtain ⟨as,e,_⟩:=mapO_all (f:=DL.py mh n) fun x hx=>(t x hx).py
  exact ⟨.list as,by show (match mh[k]? with | some (.lst o)=>(match mapO (DL.py mh n) o with | some xs=>some (PyData.list xs) | none=>none) | _=>none)=_;rw [e1];dsimp only;rw [e]⟩
 | n+1,.rol _,t=>by unfold Th at t;exact t.elim
 | n+1,.obj ..,t=>by unfold Th at t;exact t.elim
noncomputable def tag:D→String
 | .non => "NoneType"
 | .bl _ => "bool"
 | .int _ => "int"
 | .str _ => "str"
 | .tup _ => "tuple"
 | _ => "list"
theorem Th.tag {mh:MH}{n:Nat}{d:D}(t:Th mh n d):tyName d mh=some (Lw.tag d):=by
 cases d with
 | ref k =>
  cases n with
  | zero=>unfold Th at t;exact t.elim
  | succ n =>
   unfold Th at t;obtain ⟨ds,e,_⟩:=t
   show (match mh[k]? with | some (.lst _)=>some "list" | _=>none)=_;rw [e];rfl
 | rol _=>cases n <;> (unfold Th at t;exact t.elim)
 | obj _ _ _=>cases n <;> (unfold Th at t;exact t.elim)
 | _=>rfl
noncomputable def isT:D→Bool
 | .tup _=>true
 | _=>false
noncomputable def isS:D→Bool
 | .str _=>true
 | _=>false
noncomputable def whB:D→Bool
 | .int _=>true
 | _=>false
noncomputable def inB':D→Bool
 | .int _=>true
 | .bl _=>true
 | _=>false
noncomputable def blB:D→Bool
 | .bl _=>true
 | _=>false
local macro_rules | `(tactic| walk_at "x5") => `(tactic| repeat (first | walk_at "s" | with_reducible refine and_len (by simp) ?_))
section
variable {mh:MH}{n:Nat}{d:D}{P:D→MH→Prop}
theorem isi_tup (t:Th mh n d) (h:P (.bl (isT d)) mh):wV (isiD "tuple" d mh) P:=wV_isi t.tag (b:=isT d) (by cases d <;> rfl) h
theorem isi_str (t:Th mh n d) (h:P (.bl (isS d)) mh):wV (isiD "str" d mh) P:=wV_isi t.tag (b:=isS d) (by cases d <;> rfl) h
theorem isi_int (t:Th mh n d) (h:P (.bl (inB' d)) mh):wV (isiD "int" d mh) P:=wV_isi t.tag (b:=inB' d) (by cases d <;> rfl) h
theorem isi_bool (t:Th mh n d) (h:P (.bl (blB d)) mh):wV (isiD "bool" d mh) P:=wV_isi t.tag (b:=blB d) (by cases d <;> rfl) h
noncomputable def nonB:D→Bool
 | .non=>true
 | _=>false
theorem is_non (h:P (.bl (nonB d)) mh):wV (isD false d .non mh) P:=⟨_,_,rfl,by cases d <;> exact h⟩
noncomputable def btB (l h:Int):D→Bool
 | .int i=>decide (l≤i)&&decide (i≤h)
 | _=>false
noncomputable def bdB:D→Bool
 | .non=>true
 | .int _=>true
 | _=>false
noncomputable def shB:D→Bool
 | .non=>true
 | d=>btB 0 6 d
noncomputable def amB:D→Bool
 | .non=>true
 | .int i=>decide (0≤i)
 | _=>false
theorem run_whole (k:Nat) (t:Th mh n d) (h:P (.bl (whB d)) mh):wV (runF (Gk (k+1)) fuel f1 [d] mh) P:=by
 refine wV_run (b1_eq k) lenP1 lenN1 rfl ?_;show wS (b1 k) [some d] mh _;unfold b1
 walk_at "x5"
 refine isi_int t ?_;refine ⟨_,rfl,fun e=>?_,fun e=>?_⟩
 ·walk_at "x5"
  refine isi_bool t ?_
  walk_at "x5"
  cases d <;> first | exact h | cases e
 ·cases d <;> first | exact h | cases e
theorem run_between (k:Nat) (l u:Int) (t:Th mh n d) (h:P (.bl (btB l u d)) mh):wV (runF (Gk (k+2)) fuel f2 [d,.int l,.int u] mh) P:=by
 refine wV_run (b2_eq (k+1)) lenP2 lenN2 rfl ?_;show wS (b2 (k+1)) [some d,some (.int l),some (.int u)] mh _;unfold b2
 walk_at "x5"
 refine run_whole k t ?_;refine ⟨_,rfl,fun e=>?_,fun e=>?_⟩
 ·cases d with
  | int i =>
   walk_at "x5"
   refine when_of (fun e=>?_) fun e=>?_
   ·walk_at "x5"
    have h:P (.bl (decide (l≤i)&&decide (i≤u))) mh:=h;rw [e,Bool.true_and] at h;exact h
   ·have h:P (.bl (decide (l≤i)&&decide (i≤u))) mh:=h;rw [e,Bool.false_and] at h;exact h
  | _=>cases e
 ·cases d <;> first | exact h | cases e
theorem run_bound (k:Nat) (t:Th mh n d) (h:P (.bl (bdB d)) mh):wV (runF (Gk (k+2)) fuel f4 [d] mh) P:=by
 refine wV_run (b4_eq (k+1)) lenP4 lenN4 rfl ?_;show wS (b4 (k+1)) [some d] mh _;unfold b4
 walk_at "x5"
 refine is_non ?_;refine ⟨_,rfl,fun e=>?_,fun e=>?_⟩
 ·cases d <;> first | exact h | cases e
 ·walk_at "x5"
  refine run_whole k t ?_;cases d <;> first | exact h | cases e
noncomputable def wd:D→D
 | .tup (.str w::_)=>.str w
 | _=>.non
theorem run_word (k:Nat) (t:Th mh n d) (h:P (wd d) mh):wV (runF (Gk (k+1)) fuel f23 [d] mh) P:=by
 refine wV_run (b23_eq k) lenP23 lenN23 rfl ?_;show wS (b23 k) [some d] mh _;unfold b23;have no:wd d=.non→wS (seqS (retS (DM.ret .non)) SM.nxt) [some d] mh (retK P):=fun e=>by
  walk_at "x5"
  rw [e] at h;exact h
 refine wS_seq (wS_if (wD_andT (wD_tru (wD_isi (wD_vr (by with_unfolding_all rfl) (isi_tup t ⟨_,rfl,fun e=>?_,fun e=>?_⟩))))))
 ·cases d with
  | tup ds =>
   walk_at "x5"
   refine wV_len (ds:=ds) (by intro z z';cases z') rfl ?_
   walk_at "x5"
   cases ds with
   | nil=>exact when_ff (by decide) (when_f (wS_nxt (seqK_nx (no rfl))))
   | cons x r =>
    refine when_tt (by rw [List.length_cons];exact decide_eq_true (by omega)) ?_
    walk_at "x5"
    refine wV_ixT (j:=0) rfl ?_;obtain ⟨m,rfl,ti⟩:=t.items;refine isi_str (ti x List.mem_cons_self) ⟨_,rfl,?_⟩;cases x with
    | str w =>
     refine when_t ?_
     walk_at "x5"
     exact wV_ixT (j:=0) rfl h
    | _=>exact when_f (wS_nxt (seqK_nx (no rfl)))
  | _=>cases e
 ·exact when_f (wS_nxt (seqK_nx (no (by cases d <;> first | rfl | cases e))))
end
noncomputable abbrev Fm:=List (Str×List Str)
noncomputable def toD (f:Fm):List (Str×D):=f.map fun p=>(p.1,.tup (p.2.map D.str))
noncomputable def cF:Fm:=[("never",["test"]),("behind",["test", "test"]),("comes",["test", "test"])]
noncomputable def tF:Fm:=[("count",["role", "test of a hand", "share", "share"]),("letters",["kind", "amount", "amount"]),("not",["test"]),("both",["test", "test"]),("either",["test", "test"])]
noncomputable def hF:Fm:=[("at",["place"]),("number",["box", "bound", "bound"]),("has",["box"]),("many",["set box", "members"]),("bell",[]),("fallen",[]),("not",["test of a hand"]),("both",["test of a hand", "test of a hand"]),("either",["test of a hand", "test of a hand"])]
theorem cF_eq:dCLAIM_FORMS=toD cF:=by kernel_rfl
theorem tF_eq:dTEST_FORMS=toD tF:=by kernel_rfl
theorem hF_eq:dHAND_FORMS=toD hF:=by kernel_rfl
theorem look_toD (w:Str):∀ f:Fm,(toD f).lookup w=(f.lookup w).map fun ss=>.tup (ss.map D.str)
 | []=>rfl
 | p::r=>by
  obtain ⟨a,ss⟩:=p;show List.lookup w ((a,D.tup (ss.map D.str))::toD r)=_;rw [List.lookup_cons,List.lookup_cons];cases w==a
  ·exact look_toD w r
  ·rfl
noncomputable def formB (g:Str→D→Bool) (f:Fm):D→Bool
 | .tup (.str w::r)=>(match f.lookup w with
  | some ss=>decide (ss.length=r.length)&&(List.zipWith g ss r).all id
  | none=>false)
 | _=>false
noncomputable def fit1 (R:Int) (g:Str→D→Bool) (s:Str) (d:D):Bool :=
 if s == "test" then formB g tF d else if s == "test of a hand" then formB g hF d else if s == "role" then btB 0 (R - 1) d else if s == "bound" then bdB d else if s == "share" then shB d else if s == "amount" then amB d
 else if s == "kind" then btB 1 12 d else if s == "place" then btB 0 60 d else if s == "box" then btB 0 2 d else if s == "set box" then btB 0 1 d else btB 0 6 d
noncomputable def fitB (R:Int):Nat→Str→D→Bool
 | 0=>fit1 R fun _ _=>false
 | n+1=>fit1 R (fitB R n)
noncomputable def slotsL:List Str:=["test", "test of a hand", "role", "bound", "share", "amount", "kind", "place", "box", "set box", "members"]
noncomputable def goodF (f:Fm):Prop:=∀ w ss,f.lookup w=some ss→∀ s∈ss,s∈slotsL
theorem look_all {f:Fm}(h:∀ p∈f,∀ s∈p.2,s∈slotsL):goodF f:=fun w ss e=>by
 induction f with
 | nil=>cases e
 | cons p r ih =>
  obtain ⟨a,t⟩:=p;rw [List.lookup_cons] at e;cases q:w==a with
  | true=>rw [q] at e;cases e;exact h (a,ss) List.mem_cons_self
  | false=>rw [q] at e;exact ih (fun p hp=>h p (List.mem_cons_of_mem _ hp)) e
theorem cF_good:goodF cF:=look_all (by decide +kernel)
theorem tF_good:goodF tF:=look_all (by decide +kernel)
theorem hF_good:goodF hF:=look_all (by decide +kernel)
noncomputable def slD' (f:Fm) (d:D):D:=(getOf (toD f) [wd d]).getD .non
theorem get_wd (f:Fm) (d:D):getOf (toD f) [wd d]=some (slD' f d):=by
 unfold slD';cases h:wd d with
 | str w=>rfl
 | non=>rfl
 | _=>exfalso;revert h;unfold wd;split <;> (intro h;cases h)
theorem sl_cases (f:Fm) (d:D):(slD' f d=.non∧∀ g,formB g f d=false)∨∃ w r ss,d=.tup (.str w::r)∧f.lookup w=some ss∧slD' f d=.tup (ss.map D.str):=by
 by_cases h:∃ w r,d=.tup (.str w::r)
 ·obtain ⟨w,r,rfl⟩:=h;have e:slD' f (.tup (.str w::r))=((f.lookup w).map fun ss=>D.tup (ss.map D.str)).getD .non:=by
   show ((toD f).lookup w).getD .non=_;rw [look_toD]
  cases q:f.lookup w with
  | none=>exact .inl ⟨by rw [e,q];rfl,fun g=>by show (match f.lookup w with | some ss=>_ | none=>false)=false;rw [q]⟩
  | some ss=>exact .inr ⟨w,r,ss,rfl,q,by rw [e,q];rfl⟩
 ·have hw:wd d=.non:=by
   unfold wd;split
   ·exact absurd ⟨_,_,rfl⟩ h
   ·rfl
  refine .inl ⟨by unfold slD';rw [hw];rfl,fun g=>?_⟩;unfold formB;split
  ·exact absurd ⟨_,_,rfl⟩ h
  ·rfl
theorem zip_get {ss:List Str}{r:List D}{i:Nat}{d:D}(e:(List.zipWith (fun a b=>D.tup [a,b]) (ss.map D.str) r)[i]?=some d):∃ s x,ss[i]?=some s∧r[i]?=some x∧d=.tup [.str s,x]:=by
 rw [List.getElem?_zipWith,List.getElem?_map] at e;cases h1:ss[i]? with
 | none=>rw [h1] at e;cases e
 | some s =>
  cases h2:r[i]? with
  | none=>rw [h1,h2] at e;cases e
  | some x=>rw [h1,h2] at e;cases e;exact ⟨s,x,rfl,rfl,rfl⟩
theorem all_take {g:Str→D→Bool}{ss:List Str}{r:List D}{i:Nat}{s:Str}{x:D}(h1:ss[i]?=some s) (h2:r[i]?=some x):(List.zipWith g ss r)[i]?=some (g s x):=by
 rw [List.getElem?_zipWith,h1,h2]
theorem take_succ_all {l:List Bool}{i:Nat}{b:Bool}(e:l[i]?=some b):(l.take (i+1)).all id=((l.take i).all id&&b):=by
 rw [List.take_add_one,e,List.all_append];simp
theorem all_false {l:List Bool}{i:Nat}(e:l[i]?=some false):l.all id=false:=by
 rw [List.all_eq_false];exact ⟨false,List.mem_of_getElem? e,by simp⟩
theorem sl_tail {w:D}{r:List D}{mh:MH}{P:D→MH→Prop}(h:P (.tup r) mh):wV (slD (.tup (w::r)) (some 1) none mh) P:=by
 refine ⟨.tup r,mh,?_,h⟩;have e1:HT.sIx (w::r).length 0 (some 1)=1:=by
  have:=HT.sIx_nat (n:=(w::r).length) (d:=0) (k:=1);rw [show ((1:Nat):Int)=1 from rfl] at this;rw [this,List.length_cons];omega
 have e2:HT.sIx (w::r).length (w::r).length none=(w::r).length:=rfl;show (if HT.sIx (w::r).length 0 (some 1)=0∧HT.sIx (w::r).length (w::r).length none=(w::r).length then some (D.tup (w::r),mh) else some (D.tup (DL.cutD (w::r) (some 1) none),mh))=_;rw [e1,if_neg (by omega)];unfold DL.cutD;rw [e1,e2];simp
theorem run_form (k:Nat) (R:Int) (f:Fm) (hf:goodF f) (g:Str→D→Bool) {d:D}{mh:MH}(hg:∀ w r,d=.tup (w::r)→∀ s∈slotsL,∀ x∈r,runF (Gk k) fuel f25 [.str s,x,.int R] mh=some (.bl (g s x),mh)) {P:D→MH→Prop}(h:P (.bl (formB g f d)) mh) :
  wV (runF (Gk (k+1)) fuel f24 [d,slD' f d,.int R] mh) P:=by
 refine wV_run (b24_eq k) lenP24 lenN24 rfl ?_;show wS (b24 k) [some d,some (slD' f d),some (.int R),none,none] mh _;unfold b24;rcases sl_cases f d with ⟨e,e2⟩ | ⟨w,r,ss,rfl,el,es⟩
 ·rw [e];rw [e2 g] at h
  walk_at "x5"
  refine is_non ?_
  walk_at "x5"
  exact h
 ·rw [es]
  walk_at "x5"
  refine is_non ?_
  walk_at "x5"
  refine wV_len (ds:=.str w::r) (by intro z z';cases z') rfl ?_
  walk_at "x5"
  refine wV_len (ds:=ss.map D.str) (by intro z z';cases z') rfl ?_
  walk_at "x5"
  have eF:formB g f (.tup (.str w::r))=(decide (ss.length=r.length)&&(List.zipWith g ss r).all id):=by
   show (match f.lookup w with | some ss=>_ | none=>false)=_;rw [el]
  rw [eF] at h;refine when_of (fun e=>?_) fun e=>?_
  ·walk_at "x5"
   have hl:¬ ss.length=r.length:=fun z=>by
    rw [List.length_cons,List.length_map,z] at e;have:((r.length+1:Nat):Int)=1+(r.length:Int):=by omega
    rw [this] at e;simp at e
   rw [decide_eq_false hl,Bool.false_and] at h;exact h
  ·have hl:ss.length=r.length:=by
    rw [List.length_cons,List.length_map] at e;have:=(Bool.not_eq_false' .. ▸ e:((r.length+1:Nat):Int)==1+(ss.length:Int));have:=eq_of_beq this;omega
   rw [decide_eq_true hl,Bool.true_and] at h;refine wS_nxt (seqK_nx (wS_seq (wS_for ?_)))
   walk_at "x5"
   refine sl_tail ?_
   walk_at "x5"
   refine ⟨_,_,_,_,rfl,rfl,rfl,List.zipWith (fun a b=>D.tup [a,b]) (ss.map D.str) r,fun i l h=>h=mh∧(∃ x3 x4,l=[some (.tup (.str w::r)),some (.tup (ss.map D.str)),some (.int R),x3,x4])∧((List.zipWith g ss r).take i).all id=true,⟨rfl,⟨none,none,rfl⟩,rfl⟩,fun _ _ _ _=>⟨rfl,rfl⟩,?_,?_⟩
   ·rintro i d l h' ed ⟨rfl,⟨x3,x4,rfl⟩,ha⟩;obtain ⟨s,x,h1,h2,rfl⟩:=zip_get ed;refine wG_tup rfl ?_;show wS _ [some (.tup (.str w::r)),some (.tup (ss.map D.str)),some (.int R),some (.str s),some x] h' _
    walk_at "x5"
    refine wV_of (hg _ _ rfl s (hf w ss el s (List.mem_of_getElem? h1)) x (List.mem_of_getElem? h2)) ?_;refine ⟨_,rfl,?_⟩;have ez:=all_take (g:=g) h1 h2;refine when_of (fun e=>?_) fun e=>?_
    ·walk_at "x5"
     have e:g s x=false:=by simpa using e
     rw [e] at ez;rw [all_false ez] at h;exact h
    ·walk_at "x5"
     have e:g s x=true:=by simpa using e
     exact ⟨rfl,⟨_,_,rfl⟩,by rw [take_succ_all ez,ha,e];rfl⟩
   ·rintro l h' ⟨rfl,⟨x3,x4,rfl⟩,ha⟩
    walk_at "x5"
    rw [List.take_of_length_le (by simp [hl])] at ha;rw [ha] at h;exact h
theorem wV_eq' {r:Option (D×MH)}{b:Bool}{mh:MH}(h:wV r fun d h'=>d=.bl b∧h'=mh):r=some (.bl b,mh):=by
 obtain ⟨d,h',e,rfl,rfl⟩:=h;exact e
local macro_rules | `(tactic| walk_at "x1") => `(tactic| repeat (first | walk_at "s" | with_reducible refine and_len (by simp) ?_ | with_reducible refine seqt (by kernel_rfl) (by kernel_rfl) (by decide +kernel) ?_ | with_reducible refine seqf (by kernel_rfl) (by kernel_rfl) (by decide +kernel) ?_))
section
variable {mh:MH}{P:D→MH→Prop}{d:D}{R:Int}
theorem fits_plain (k:Nat) (g:Str→D→Bool) {n:Nat}(t:Th mh n d) (s:Str) (hs:s∈slotsL.drop 2) (h:P (.bl (fit1 R g s d)) mh):wV (runF (Gk (k+3)) fuel f25 [.str s,d,.int R] mh) P:=by
 refine wV_run (b25_eq (k+2)) lenP25 lenN25 rfl ?_;show wS (b25 (k+2)) [some (.str s),some d,some (.int R),none] mh _;unfold b25;simp only [slotsL,List.drop_succ_cons,List.drop_zero,List.mem_cons,List.mem_nil_iff,or_false] at hs;rcases hs with rfl | rfl | rfl | rfl | rfl | rfl | rfl | rfl | rfl
 ·walk_at "x1"
  exact run_between k 0 (R - 1) t h
 ·walk_at "x1"
  exact run_bound k t h
 ·walk_at "x1"
  refine is_non ?_;refine ⟨_,rfl,fun e=>?_,fun e=>?_⟩
  ·cases d <;> first | exact h | cases e
  ·walk_at "x1"
   refine run_between k 0 6 t ?_;cases d <;> first | exact h | cases e
 ·walk_at "x1"
  refine is_non ?_;refine ⟨_,rfl,fun e=>?_,fun e=>?_⟩
  ·cases d <;> first | exact h | cases e
  ·walk_at "x1"
   refine run_whole (k+1) t ?_;refine ⟨_,rfl,fun e2=>?_,fun e2=>?_⟩
   ·cases d with
    | int i =>
     walk_at "x1"
     exact h
    | _=>cases e2
   ·cases d <;> first | (cases e2;done) | (cases e;done) | exact h
 ·walk_at "x1"
  refine ⟨_,.tup [.int 1,.int 12],rfl,by kernel_rfl,?_⟩
  walk_at "x1"
  refine wV_ixT (j:=0) rfl ?_
  walk_at "x1"
  refine wV_ixT (j:=1) rfl ?_
  walk_at "x1"
  exact run_between k 1 12 t h
 ·walk_at "x1"
  refine ⟨_,.tup [.int 0,.int 60],rfl,by kernel_rfl,?_⟩
  walk_at "x1"
  refine wV_ixT (j:=0) rfl ?_
  walk_at "x1"
  refine wV_ixT (j:=1) rfl ?_
  walk_at "x1"
  exact run_between k 0 60 t h
 ·walk_at "x1"
  refine ⟨_,.tup [.int 0,.int 2],rfl,by kernel_rfl,?_⟩
  walk_at "x1"
  refine wV_ixT (j:=0) rfl ?_
  walk_at "x1"
  refine wV_ixT (j:=1) rfl ?_
  walk_at "x1"
  exact run_between k 0 2 t h
 ·walk_at "x1"
  refine ⟨_,.tup [.int 0,.int 1],rfl,by kernel_rfl,?_⟩
  walk_at "x1"
  refine wV_ixT (j:=0) rfl ?_
  walk_at "x1"
  refine wV_ixT (j:=1) rfl ?_
  walk_at "x1"
  exact run_between k 0 1 t h
 ·walk_at "x1"
  refine ⟨_,.tup [.int 0,.int 6],rfl,by kernel_rfl,?_⟩
  walk_at "x1"
  refine wV_ixT (j:=0) rfl ?_
  walk_at "x1"
  refine wV_ixT (j:=1) rfl ?_
  walk_at "x1"
  exact run_between k 0 6 t h
theorem fits_form (k:Nat) (g:Str→D→Bool) {n:Nat}(t:Th mh n d) (hg:∀ w r,d=.tup (w::r)→∀ s∈slotsL,∀ x∈r,runF (Gk (k+1)) fuel f25 [.str s,x,.int R] mh=some (.bl (g s x),mh)) (s:Str) (hs:s = "test"∨s = "test of a hand") (h:P (.bl (fit1 R g s d)) mh):wV (runF (Gk (k+3)) fuel f25 [.str s,d,.int R] mh) P:=by
 refine wV_run (b25_eq (k+2)) lenP25 lenN25 rfl ?_;show wS (b25 (k+2)) [some (.str s),some d,some (.int R),none] mh _;unfold b25;rcases hs with rfl | rfl
 ·walk_at "x1"
  rw [tF_eq];refine wD_get ?_
  walk_at "x1"
  refine run_word (k+1) t ?_
  walk_at "x1"
  refine ⟨_,get_wd tF d,?_⟩
  walk_at "x1"
  exact run_form (k+1) R tF tF_good g hg h
 ·walk_at "x1"
  rw [hF_eq];refine wD_get ?_
  walk_at "x1"
  refine run_word (k+1) t ?_
  walk_at "x1"
  refine ⟨_,get_wd hF d,?_⟩
  walk_at "x1"
  exact run_form (k+1) R hF hF_good g hg h
end
theorem sl_split {s:Str}(h:s∈slotsL):(s = "test"∨s = "test of a hand")∨s∈slotsL.drop 2:=by
 have:slotsL=("test":Str)::("test of a hand":Str)::slotsL.drop 2:=rfl;rw [this] at h;rcases List.mem_cons.mp h with h | h
 ·exact .inl (.inl h)
 ·rcases List.mem_cons.mp h with h | h
  ·exact .inl (.inr h)
  ·exact .inr h
theorem run_fits (R:Int) (mh:MH):∀ (n k:Nat) (s:Str) (d:D),s∈slotsL→Th mh n d→runF (Gk (k+2 * n+3)) fuel f25 [.str s,d,.int R] mh=some (.bl (fitB R n s d),mh):=by
 intro n
 induction n with
 | zero =>
  intro k s d hs t;refine wV_eq' ?_;rcases sl_split hs with h | h
  ·exact fits_form k (fun _ _=>false) t (fun w r e=>by subst e;exact absurd t.items (by rintro ⟨m,z,_⟩;cases z)) s h ⟨rfl,rfl⟩
  ·exact fits_plain k (fun _ _=>false) t s h ⟨rfl,rfl⟩
 | succ n ih =>
  intro k s d hs t;refine wV_eq' ?_;have e:k+2 * (n+1)+3=(k+2 * n+2)+3:=by omega
  rw [e];rcases sl_split hs with h | h
  ·refine fits_form (k+2 * n+2) (fitB R n) t (fun w r e s hs x hx=>?_) s h ⟨rfl,rfl⟩;subst e;obtain ⟨m,em,ti⟩:=t.items;have em:m=n:=by omega
   subst em;exact ih k s x hs (ti x (List.mem_cons_of_mem _ hx))
  ·exact fits_plain (k+2 * n+2) (fitB R n) t s h ⟨rfl,rfl⟩
noncomputable def clB (R:Int) (n:Nat) (d:D):Bool:=formB (fitB R n) cF d
theorem run_claim (R:Int) (mh:MH) (n k:Nat) (d:D) (t:Th mh (n+1) d) {P:D→MH→Prop}(h:P (.bl (clB R n d)) mh):wV (runF (Gk (k+2 * n+5)) fuel f22 [d,.int R] mh) P:=by
 refine wV_run (b22_eq (k+2 * n+4)) lenP22 lenN22 rfl ?_;show wS (b22 (k+2 * n+4)) [some d,some (.int R)] mh _;unfold b22
 walk_at "x1"
 rw [cF_eq];refine wD_get ?_
 walk_at "x1"
 refine run_word (k+2 * n+3) t ?_
 walk_at "x1"
 refine ⟨_,get_wd cF d,?_⟩
 walk_at "x1"
 refine run_form (k+2 * n+3) R cF cF_good (fitB R n) (fun w r e s hs x hx=>?_) h;subst e;obtain ⟨m,em,ti⟩:=t.items;have em:m=n:=by omega
 subst em;exact run_fits R mh m k s x hs (ti x (List.mem_cons_of_mem _ hx))
theorem py_all {mh:MH}{n:Nat}{ds:List D}(t:∀ x∈ds,Th mh n x) (hn:n≤59):∃ as,mapO (DL.py mh 59) ds=some as∧as.length=ds.length:=mapO_all fun x hx=>((t x hx).le hn).py
section
variable {mh:MH}{P:D→MH→Prop}{n:Nat}
theorem eqB_nilL {a b:Nat}{ds:List D}(e1:mh[a]?=some (.lst ds)) (e2:mh[b]?=some (.lst [])) (t:∀ x∈ds,Th mh n x) (hn:n≤59):eqB mh (.ref a) (.ref b)=some ds.isEmpty:=by
 obtain ⟨as,ea,el⟩:=py_all t hn;have p1:DL.py mh 60 (.ref a)=some (.list as):=by
  show (match mh[a]? with | some (.lst o)=>(match mapO (DL.py mh 59) o with | some xs=>some (PyData.list xs) | none=>none) | _=>none)=_;rw [e1];dsimp only;rw [ea]
 have p2:DL.py mh 60 (.ref b)=some (.list []):=by
  show (match mh[b]? with | some (.lst o)=>(match mapO (DL.py mh 59) o with | some xs=>some (PyData.list xs) | none=>none) | _=>none)=_;rw [e2];rfl
 unfold eqB;rw [p1,p2];cases ds with
 | nil=>cases as with
  | nil=>rfl
  | cons _ _=>cases el
 | cons d r=>cases as with
  | nil=>cases el
  | cons _ _=>rfl
theorem eqB_nilT {ds:List D}(t:Th mh n (.tup ds)) (hn:n≤60):eqB mh (.tup ds) (.tup [])=some ds.isEmpty:=by
 obtain ⟨m,rfl,ti⟩:=t.items;obtain ⟨as,ea,el⟩:=py_all ti (by omega);have p1:DL.py mh 60 (.tup ds)=some (.tuple as):=by
  show (match mapO (DL.py mh 59) ds with | some xs=>some (PyData.tuple xs) | none=>none)=_;rw [ea]
 have p2:DL.py mh 60 (.tup [])=some (.tuple []):=rfl;unfold eqB;rw [p1,p2];cases ds with
 | nil=>cases as with
  | nil=>rfl
  | cons _ _=>cases el
 | cons d r=>cases as with
  | nil=>cases el
  | cons _ _=>rfl
noncomputable def oD:Option Int→D
 | none=>.non
 | some i=>.int i
noncomputable def loO (lo:Option Int) (i:Int):Bool:=match lo with
 | none=>true
 | some l=>decide (l≤i)
noncomputable def hiO (hi:Option Int) (i:Int):Bool:=match hi with
 | none=>true
 | some u=>decide (i≤u)
noncomputable def lwB (lo hi:Option Int):D→Bool
 | .int i=>loO lo i&&hiO hi i
 | _=>false
variable {d:D}
theorem run_lwhole (k:Nat) (lo hi:Option Int) (t:Th mh n d) (h:P (.bl (lwB lo hi d)) mh):wV (runF (Gk (k+1)) fuel f39 [d,oD lo,oD hi] mh) P:=by
 refine wV_run (b39_eq k) lenP39 lenN39 rfl ?_;show wS (b39 k) [some d,some (oD lo),some (oD hi)] mh _;unfold b39;refine wS_seq (wS_if (wD_orT (wD_notT (wD_tru (wD_isi (wD_vr (by with_unfolding_all rfl) (isi_int t ⟨_,rfl,fun e=>?_,fun e=>?_⟩)))))))
 ·walk_at "x1"
  cases d <;> first | exact h | cases e
 ·walk_at "x1"
  refine isi_bool t ⟨_,rfl,fun e2=>?_,fun e2=>?_⟩
  ·walk_at "x1"
   cases d <;> first | exact h | cases e2
  ·cases d with
   | int i =>
    refine wS_nxt (seqK_nx (wS_seq (wS_ret (wD_andV (wD_orV (wD_op (wD_vr (by with_unfolding_all rfl) (wD_ret (is_non ?_))))))))) ;cases lo with
    | none =>
     refine ⟨_,rfl,when_of (fun _=>?_) fun e=>by cases e⟩;refine ⟨_,rfl,when_of (fun _=>?_) fun e=>by cases e⟩;refine wD_orV (wD_op (wD_vr (by with_unfolding_all rfl) (wD_ret (is_non ?_))));cases hi with
     | none=>exact ⟨_,rfl,when_of (fun _=>h) fun e=>by cases e⟩
     | some u =>
      refine ⟨_,rfl,when_of (fun e=>by cases e) fun _=>wD_op (wD_vr (by with_unfolding_all rfl) (wD_vr (d:=.int u) (by with_unfolding_all rfl) (wV_icmp ?_)))⟩;exact h
    | some l =>
     refine ⟨_,rfl,when_of (fun e=>by cases e) fun _=>wD_op (wD_vr (by with_unfolding_all rfl) (wD_vr (d:=.int l) (by with_unfolding_all rfl) (wV_icmp ?_)))⟩;have h:P (.bl (decide (l≤i)&&hiO hi i)) mh:=h;refine ⟨_,rfl,when_of (fun e=>?_) fun e=>?_⟩
     ·rw [e,Bool.true_and] at h;refine wD_orV (wD_op (wD_vr (by with_unfolding_all rfl) (wD_ret (is_non ?_))));cases hi with
      | none=>exact ⟨_,rfl,when_of (fun _=>h) fun e=>by cases e⟩
      | some u =>
       refine ⟨_,rfl,when_of (fun e=>by cases e) fun _=>wD_op (wD_vr (by with_unfolding_all rfl) (wD_vr (d:=.int u) (by with_unfolding_all rfl) (wV_icmp ?_)))⟩;exact h
     ·rw [e,Bool.false_and] at h;exact h
   | bl b=>cases e2
   | _=>cases e
theorem run_lbound (k:Nat) (lo hi:Option Int) (t:Th mh n d) (h:P (.bl (nonB d || lwB lo hi d)) mh):wV (runF (Gk (k+2)) fuel f40 [d,oD lo,oD hi] mh) P:=by
 refine wV_run (b40_eq (k+1)) lenP40 lenN40 rfl ?_;show wS (b40 (k+1)) [some d,some (oD lo),some (oD hi)] mh _;unfold b40
 walk_at "x1"
 refine is_non ?_;refine ⟨_,rfl,fun e=>?_,fun e=>?_⟩
 ·rw [e] at h;exact h
 ·rw [e,Bool.false_or] at h
  walk_at "x1"
  exact run_lwhole k lo hi t h
noncomputable abbrev Wl:=List (Str×Nat)
noncomputable def toK (w:Wl):List (Key×D):=w.map fun p=>(.inr p.1,.int p.2)
theorem val_toK (x:Str):∀ w:Wl,valD (toK w) (.inr x)=(w.lookup x).map fun n=>D.int (n:Int)
 | []=>rfl
 | p::r=>by
  obtain ⟨a,m⟩:=p;show (if (a==x)=true then some (D.int m) else valD (toK r) (.inr x))=_;rw [List.lookup_cons]
  by_cases e:a=x
  ·subst e;simp
  ·have e1:(a==x)=false:=beq_eq_false_iff_ne.mpr e;have e2:(x==a)=false:=beq_eq_false_iff_ne.mpr (Ne.symm e);rw [e1,e2];exact val_toK x r
noncomputable def lfB (w:Wl):D→Bool
 | .tup (.str x::r)=>(match w.lookup x with | some m=>decide (r.length+1=m) | none=>false)
 | _=>false
theorem run_lform (k wn:Nat) (w:Wl) (ew:mh[wn]?=some (.dct (toK w))) (hn:n≤60) (t:Th mh n d) (h:P (.bl (lfB w d)) mh):wV (runF (Gk (k+1)) fuel f41 [d,.ref wn] mh) P:=by
 refine wV_run (b41_eq k) lenP41 lenN41 rfl ?_;show wS (b41 k) [some d,some (.ref wn)] mh _;unfold b41;refine wS_seq (wS_if (wD_orT (wD_notT (wD_tru (wD_isi (wD_vr (by with_unfolding_all rfl) (isi_tup t ⟨_,rfl,fun e=>?_,fun e=>?_⟩)))))))
 ·walk_at "x1"
  cases d <;> first | exact h | cases e
 cases d with
 | tup ds =>
  walk_at "x1"
  refine wV_eq (eqB_nilT t hn) ?_;cases ds with
  | nil =>
   refine ⟨_,rfl,when_of (fun _=>?_) fun e=>by cases e⟩
   walk_at "x1"
   exact h
  | cons x r =>
   refine ⟨_,rfl,when_of (fun e=>by cases e) fun _=>?_⟩
   walk_at "x1"
   refine wV_ixT (j:=0) rfl ?_;obtain ⟨m,rfl,ti⟩:=t.items;refine isi_str (ti x List.mem_cons_self) ⟨_,rfl,?_⟩;cases x with
   | str x =>
    refine when_of (fun e=>by cases e) fun _=>?_
    walk_at "x1"
    refine wV_ixT (j:=0) rfl ?_
    walk_at "x1"
    refine wV_inK ew rfl ?_;rw [val_toK];have h:P (.bl (match w.lookup x with | some m=>decide (r.length+1=m) | none=>false)) mh:=h;cases el:w.lookup x with
    | none =>
     rw [el] at h;refine ⟨_,rfl,when_of (fun _=>?_) fun e=>by cases e⟩
     walk_at "x1"
     exact h
    | some m2 =>
     rw [el] at h;refine ⟨_,rfl,when_of (fun e=>by cases e) fun _=>?_⟩;refine wS_nxt (seqK_nx ?_)
     walk_at "x1"
     refine wV_len (ds:=.str x::r) (by intro z z';cases z') rfl ?_
     walk_at "x1"
     refine wV_ixT (j:=0) rfl ?_;refine wV_ixK (k:=.inr x) (d:=.int (m2:Int)) ew rfl (by rw [val_toK,el];rfl) ?_;refine wV_eqI ?_;have e:(((D.str x::r).length:Int)==(m2:Int))=decide (r.length+1=m2):=by
      rw [List.length_cons]
      by_cases z:r.length+1=m2
      ·rw [decide_eq_true z,← z];simp
      ·rw [decide_eq_false z];exact beq_eq_false_iff_ne.mpr fun q=>z (by omega)
     rw [e];exact h
   | _ =>
    refine when_of (fun _=>?_) fun e=>by cases e
    walk_at "x1"
    exact h
 | _=>cases e
theorem comp_bad {r:List D}{loc:DL.Loc}{mi:DM Src}{cs:List (Option Nat)}{tc:DM Bool}(t:D→Bool) (hr:r.length≤1000000) (src:wD mi loc mh fun s h=>s=.seq r∧h=mh) (hv:1 < (capD cs loc).length)
  (hc:∀ x∈r,∀ h,Ext [] mh h→wD tc ((capD cs loc).set 1 (some x)) h fun c h2=>c=(!t x)∧Ext [] h h2) (hq:∀ acc h,Ext [] mh h→(∀ x∈acc,x∈r)→acc.isEmpty=r.all t→P (.ref h.length) (h++[.lst acc])):wD (compM mi cs (gSet 1) tc (vr 1)) loc mh P:=by
 obtain ⟨s,h0,es,e1,e2⟩:=src;subst e1 e2;refine wD_comp ⟨_,_,es,r,fun i acc h=>Ext [] h0 h∧(∀ x∈acc,x∈r)∧acc.isEmpty=(r.take i).all t∧acc.length≤i,hr,⟨Ext.refl,fun x hx=>absurd hx (by simp),rfl,Nat.le_refl _⟩,fun _ _ _ _=>⟨rfl,rfl⟩,fun _ _ _ q=>q.2.2.2,?_,?_⟩
 ·rintro i x acc h ex ⟨x1,x2,x3,x4⟩;refine wG_set ?_;have hx:=List.mem_of_getElem? ex;refine wD_mono (hc x hx h x1) ?_;rintro c h2 ⟨rfl,x5⟩;have et:(r.take (i+1)).all t=((r.take i).all t&&t x):=by rw [List.take_add_one,ex,List.all_append];simp
  refine ⟨fun e=>?_,fun e=>?_⟩
  ·have e:t x=false:=by simpa using e
   refine wD_vr (d:=x) (by rw [List.getElem?_set_self hv]) ⟨x1.trans x5,fun y hy=>?_,?_,?_⟩
   ·rcases List.mem_append.mp hy with z | z
    ·exact x2 y z
    ·rw [List.mem_singleton.mp z];exact hx
   ·rw [et,e,Bool.and_false];cases acc <;> rfl
   ·rw [List.length_append];show acc.length+1≤i+1;omega
  ·have e:t x=true:=by simpa using e
   exact ⟨x1.trans x5,x2,by rw [et,e,Bool.and_true];exact x3,by omega⟩
 ·rintro acc h ⟨x1,x2,x3,_⟩;rw [List.take_length] at x3;exact hq acc h x1 x2 x3
end
theorem wV_ix0 {a:D}{r:List D}{mh:MH}{P:D→MH→Prop}(h:P a mh):wV (ixD (.tup (a::r)) (.int 0) mh) P:=wV_ixT (j:=0) rfl h
theorem wV_ix1 {a b:D}{r:List D}{mh:MH}{P:D→MH→Prop}(h:P b mh):wV (ixD (.tup (a::b::r)) (.int 1) mh) P:=wV_ixT (j:=1) rfl h
theorem wV_ix2 {a b c:D}{r:List D}{mh:MH}{P:D→MH→Prop}(h:P c mh):wV (ixD (.tup (a::b::c::r)) (.int 2) mh) P:=wV_ixT (j:=2) rfl h
theorem wV_ix3 {a b c d:D}{r:List D}{mh:MH}{P:D→MH→Prop}(h:P d mh):wV (ixD (.tup (a::b::c::d::r)) (.int 3) mh) P:=wV_ixT (j:=3) rfl h
theorem wV_ix4 {a b c d e:D}{r:List D}{mh:MH}{P:D→MH→Prop}(h:P e mh):wV (ixD (.tup (a::b::c::d::e::r)) (.int 4) mh) P:=wV_ixT (j:=4) rfl h
noncomputable def lenW (f:Fm):Wl:=f.map fun p=>(p.1,p.2.length+1)
theorem look_lenW (w:Str):∀ f:Fm,(lenW f).lookup w=(f.lookup w).map fun ss=>ss.length+1
 | []=>rfl
 | p::r=>by
  obtain ⟨a,ss⟩:=p;show List.lookup w ((a,ss.length+1)::lenW r)=_;rw [List.lookup_cons,List.lookup_cons];cases w==a
  ·exact look_lenW w r
  ·rfl
theorem lf_cases (f:Fm) (d:D):(lfB (lenW f) d=false∧∀ g,formB g f d=false)∨(lfB (lenW f) d=true∧∃ w r ss,d=.tup (.str w::r)∧f.lookup w=some ss∧ss.length=r.length∧∀ g,formB g f d=(List.zipWith g ss r).all id):=by
 by_cases h:∃ w r,d=.tup (.str w::r)
 ·obtain ⟨w,r,rfl⟩:=h;have e1:lfB (lenW f) (.tup (.str w::r))=(match (lenW f).lookup w with | some m=>decide (r.length+1=m) | none=>false):=rfl;have e2:∀ g,formB g f (.tup (.str w::r))=(match f.lookup w with | some ss=>decide (ss.length=r.length)&&(List.zipWith g ss r).all id | none=>false):=fun _=>rfl
  rw [look_lenW] at e1;cases q:f.lookup w with
  | none=>exact .inl ⟨by rw [e1,q];rfl,fun g=>by rw [e2,q]⟩
  | some ss =>
   rw [q] at e1;have e1:lfB (lenW f) (.tup (.str w::r))=decide (r.length+1=ss.length+1):=e1
   by_cases hl:ss.length=r.length
   ·exact .inr ⟨by rw [e1];exact decide_eq_true (by omega),w,r,ss,rfl,q,hl,fun g=>by rw [e2,q];dsimp only;rw [decide_eq_true hl,Bool.true_and]⟩
   ·exact .inl ⟨by rw [e1];exact decide_eq_false (by omega),fun g=>by rw [e2,q];dsimp only;rw [decide_eq_false hl,Bool.false_and]⟩
 ·refine .inl ⟨?_,fun g=>?_⟩
  ·unfold lfB;split
   ·exact absurd ⟨_,_,rfl⟩ h
   ·rfl
  ·unfold formB;split
   ·exact absurd ⟨_,_,rfl⟩ h
   ·rfl
theorem look_mem {f:Fm}{w:Str}{ss:List Str}(e:f.lookup w=some ss):(w,ss)∈f:=by
 induction f with
 | nil=>cases e
 | cons p r ih =>
  obtain ⟨a,t⟩:=p;rw [List.lookup_cons] at e;cases q:w==a with
  | true=>rw [q] at e;cases e;rw [eq_of_beq q];exact List.mem_cons_self
  | false=>rw [q] at e;exact List.mem_cons_of_mem _ (ih e)
noncomputable def gN (R:Int):Nat→Str→D→Bool
 | 0=>fun _ _=>false
 | n+1=>fitB R n
theorem fitB_eq (R:Int) (n:Nat):fitB R n=fit1 R (gN R n):=by cases n <;> rfl
theorem len1 {r:List D}(h:1=r.length):∃ x,r=[x]:=by
 match r,h with
 | [x],_=>exact ⟨x,rfl⟩
theorem len2 {r:List D}(h:2=r.length):∃ x y,r=[x,y]:=by
 match r,h with
 | [x,y],_=>exact ⟨x,y,rfl⟩
theorem len3 {r:List D}(h:3=r.length):∃ x y z,r=[x,y,z]:=by
 match r,h with
 | [x,y,z],_=>exact ⟨x,y,z,rfl⟩
theorem len4 {r:List D}(h:4=r.length):∃ x y z u,r=[x,y,z,u]:=by
 match r,h with
 | [x,y,z,u],_=>exact ⟨x,y,z,u,rfl⟩
section
variable {R:Int}{g:Str→D→Bool}{x:D}
theorem p_place:fit1 R g "place" x=lwB (some 0) (some 60) x:=by cases x <;> rfl
theorem p_box:fit1 R g "box" x=lwB (some 0) (some 2) x:=by cases x <;> rfl
theorem p_sbox:fit1 R g "set box" x=lwB (some 0) (some 1) x:=by cases x <;> rfl
theorem p_mem:fit1 R g "members" x=lwB (some 0) (some 6) x:=by cases x <;> rfl
theorem p_bound:fit1 R g "bound" x=(nonB x || lwB none none x):=by cases x <;> rfl
theorem p_kind:fit1 R g "kind" x=lwB (some 1) (some 12) x:=by cases x <;> rfl
theorem p_amount:fit1 R g "amount" x=(nonB x || lwB (some 0) none x):=by cases x <;> first | rfl | (show decide _=(decide _&&true);rw [Bool.and_true])
theorem p_share:fit1 R g "share" x=(nonB x || lwB (some 0) (some 6) x):=by cases x <;> rfl
theorem p_role:fit1 R g "role" x=lwB (some 0) (some (R - 1)) x:=by cases x <;> rfl
theorem p_hand:fit1 R g "test of a hand" x=formB g hF x:=rfl
theorem p_test:fit1 R g "test" x=formB g tF x:=rfl
end
theorem src_tail {w:D}{r:List D}{loc:DL.Loc}{mh:MH}(e:loc[0]?=some (some (.tup (w::r)))):wD (srcM (dSl (vr 0) (some (DM.ret (.int 1))) none)) loc mh fun s h=>s=.seq r∧h=mh:=by
 refine wD_src (wD_sl (wD_vr e (wD_partS (wD_ret ⟨1,rfl,wD_partN (sl_tail ⟨_,rfl,rfl,rfl⟩)⟩))))
theorem op_c {f:D→D→MH→Option (D×MH)}{x y:D}{b:Bool}{mh:MH}{P:D→MH→Prop}(e:∀ mh,f x y mh=some (.bl b,mh)) (h:P (.bl b) mh):wV (f x y mh) P:=⟨_,_,e mh,h⟩
theorem zip_rep {g:Str→D→Bool}{s:Str}:∀ {ss:List Str}{r:List D},(∀ t∈ss,t=s)→ss.length=r.length→(List.zipWith g ss r).all id=r.all (g s)
 | [],[],_,_=>rfl
 | a::ss,x::r,h,hl=>by
  rw [List.zipWith_cons_cons,List.all_cons,List.all_cons,zip_rep (s:=s) (fun t ht=>h t (List.mem_cons_of_mem _ ht)) (by simpa using hl),h a List.mem_cons_self];rfl
local macro_rules | `(tactic| walk_at "x2") => `(tactic| repeat (first | walk_at "s" | with_reducible refine and_len (by simp) ?_ | with_reducible refine wV_ix0 ?_ | with_reducible refine wV_ix1 ?_ | with_reducible refine wV_ix2 ?_ | with_reducible refine wV_ix3 ?_ | with_reducible refine wV_ix4 ?_ | with_reducible refine seqt (by kernel_rfl) (by kernel_rfl) (by decide +kernel) ?_ | with_reducible refine seqf (by kernel_rfl) (by kernel_rfl) (by decide +kernel) ?_))
theorem run_lhand (R:Int):∀ (n k:Nat) (d:D) (mh:MH) (t:Th mh n d) (hn:n≤58) {P:D→MH→Prop}(h:∀ h',Ext [] mh h'→P (.bl (fitB R n "test of a hand" d)) h'),wV (runF (Gk (k+n+3)) fuel f42 [d] mh) P:=by
 intro n
 induction n with
 | zero =>
  intro k d mh t hn P h;rw [fitB_eq,p_hand] at h;refine wV_run (b42_eq (k+0+2)) lenP42 lenN42 rfl ?_;show wS (b42 (k+0+2)) [some d,none] mh _;unfold b42;refine wS_seq (wS_asg (wD_dispC (kds:=toK (lenW hF)) (fun h=>by kernel_rfl) (by decide) ?_));rw [show mergeD [] (toK (lenW hF))=toK (lenW hF) by kernel_rfl];refine wG_set (seqK_nx (wS_seq (wS_if (wD_notT (wD_tru (wD_cal (wD_cons (wD_vr (by with_unfolding_all rfl) (wD_cons (wD_vr (d:=.ref mh.length) (by with_unfolding_all rfl) (wD_ret ?_)))))))))));refine run_lform _ mh.length (lenW hF) at_new (by omega) (t.ext Ext.more) ⟨_,rfl,?_⟩;show _∧_;rcases lf_cases hF d with ⟨lff,ef⟩ | ⟨lft,w,r,ss,ed,el,hl,ef⟩
  ·rw [lff]
   walk_at "x2"
   simp only [ef] at h;exact h _ Ext.more
  ·subst ed;exact absurd t.items (by rintro ⟨m,z,_⟩;cases z)
 | succ m ih =>
  intro k d mh t hn P h;rw [fitB_eq,p_hand] at h;refine wV_run (b42_eq (k+(m+1)+2)) lenP42 lenN42 rfl ?_;show wS (b42 (k+(m+1)+2)) [some d,none] mh _;unfold b42;refine wS_seq (wS_asg (wD_dispC (kds:=toK (lenW hF)) (fun h=>by kernel_rfl) (by decide) ?_));rw [show mergeD [] (toK (lenW hF))=toK (lenW hF) by kernel_rfl];refine wG_set (seqK_nx (wS_seq (wS_if (wD_notT (wD_tru (wD_cal (wD_cons (wD_vr (by with_unfolding_all rfl) (wD_cons (wD_vr (d:=.ref mh.length) (by with_unfolding_all rfl) (wD_ret ?_)))))))))));refine run_lform _ mh.length (lenW hF) at_new (by omega) (t.ext Ext.more) ⟨_,rfl,?_⟩;show _∧_;rcases lf_cases hF d with ⟨lff,ef⟩ | ⟨lft,w,r,ss,ed,el,hl,ef⟩
  ·rw [lff]
   walk_at "x2"
   simp only [ef] at h;exact h _ Ext.more
  ·subst ed;have t0:=t;obtain ⟨m',em,ti⟩:=t.items;have em:m'=m:=by omega
   subst em;have h:∀ h',Ext [] mh h'→P (.bl ((List.zipWith (fitB R m') ss r).all id)) h':=fun h' x=>by have:=h h' x;rw [ef] at this;exact this
   rw [fitB_eq] at h;rw [lft]
   walk_at "x2"
   have tx:∀ x∈r,Th (mh++[.dct (toK (lenW hF))]) m' x:=fun x hx=>(ti x (List.mem_cons_of_mem _ hx)).ext Ext.more
   have hm:=look_mem el;simp only [hF,List.mem_cons,List.mem_nil_iff,or_false,Prod.mk.injEq] at hm;rcases hm with ⟨rfl,rfl⟩ | ⟨rfl,rfl⟩ | ⟨rfl,rfl⟩ | ⟨rfl,rfl⟩ | ⟨rfl,rfl⟩ | ⟨rfl,rfl⟩ | ⟨rfl,rfl⟩ | ⟨rfl,rfl⟩ | ⟨rfl,rfl⟩
   ·obtain ⟨x,rfl⟩:=len1 hl
    walk_at "x2"
    refine op_c (f:=inD false) (b:=false) (fun _=>by kernel_rfl) ?_
    walk_at "x2"
    refine run_lwhole _ (some 0) (some 60) (tx x (by simp)) ?_;simp only [List.zipWith_cons_cons,List.zipWith_nil_left,List.all_cons,List.all_nil,id_eq,Bool.and_true,p_place] at h;exact h _ Ext.more
   ·obtain ⟨x,y,z,rfl⟩:=len3 hl
    walk_at "x2"
    refine op_c (f:=inD false) (b:=false) (fun _=>by kernel_rfl) ?_
    walk_at "x2"
    simp only [List.zipWith_cons_cons,List.zipWith_nil_left,List.all_cons,List.all_nil,id_eq,Bool.and_true,p_box,p_bound] at h;refine run_lwhole _ (some 0) (some 2) (tx x (by simp)) ⟨_,rfl,when_of (fun e1=>?_) fun e1=>?_⟩
    ·rw [e1] at h;simp only [Bool.true_and] at h
     walk_at "x2"
     refine run_lbound _ none none (tx y (by simp)) ⟨_,rfl,when_of (fun e2=>?_) fun e2=>?_⟩
     ·rw [e2] at h;simp only [Bool.true_and] at h
      walk_at "x2"
      exact run_lbound _ none none (tx z (by simp)) (h _ Ext.more)
     ·rw [e2] at h;simp only [Bool.false_and] at h;exact h _ Ext.more
    ·rw [e1] at h;simp only [Bool.false_and] at h;exact h _ Ext.more
   ·obtain ⟨x,rfl⟩:=len1 hl
    walk_at "x2"
    refine op_c (f:=inD false) (b:=false) (fun _=>by kernel_rfl) ?_
    walk_at "x2"
    refine run_lwhole _ (some 0) (some 2) (tx x (by simp)) ?_;simp only [List.zipWith_cons_cons,List.zipWith_nil_left,List.all_cons,List.all_nil,id_eq,Bool.and_true,p_box] at h;exact h _ Ext.more
   ·obtain ⟨x,y,rfl⟩:=len2 hl
    walk_at "x2"
    refine op_c (f:=inD false) (b:=false) (fun _=>by kernel_rfl) ?_
    walk_at "x2"
    refine op_c (f:=neD) (b:=false) (fun _=>by kernel_rfl) ?_;refine ⟨_,rfl,when_of (fun e=>by cases e) fun _=>?_⟩;simp only [List.zipWith_cons_cons,List.zipWith_nil_left,List.all_cons,List.all_nil,id_eq,Bool.and_true,p_sbox,p_mem] at h
    walk_at "x2"
    refine run_lwhole _ (some 0) (some 1) (tx x (by simp)) ⟨_,rfl,when_of (fun e1=>?_) fun e1=>?_⟩
    ·rw [e1] at h;simp only [Bool.true_and] at h
     walk_at "x2"
     exact run_lwhole _ (some 0) (some 6) (tx y (by simp)) (h _ Ext.more)
    ·rw [e1] at h;simp only [Bool.false_and] at h;exact h _ Ext.more
   ·have:r=[]:=List.length_eq_zero_iff.mp hl.symm;subst this
    walk_at "x2"
    refine op_c (f:=inD false) (b:=false) (fun _=>by kernel_rfl) ?_
    walk_at "x2"
    refine op_c (f:=neD) (b:=true) (fun _=>by kernel_rfl) ?_;refine ⟨_,rfl,when_of (fun _=>?_) fun e=>by cases e⟩;exact h _ Ext.more
   ·have:r=[]:=List.length_eq_zero_iff.mp hl.symm;subst this
    walk_at "x2"
    refine op_c (f:=inD false) (b:=false) (fun _=>by kernel_rfl) ?_
    walk_at "x2"
    refine op_c (f:=neD) (b:=true) (fun _=>by kernel_rfl) ?_;refine ⟨_,rfl,when_of (fun _=>?_) fun e=>by cases e⟩;exact h _ Ext.more
   ·walk_at "x2"
    refine op_c (f:=inD false) (b:=true) (fun _=>by kernel_rfl) ?_
    walk_at "x2"
    refine comp_bad (fun x=>fitB R m' "test of a hand" x) (by rw [← hl];decide) (src_tail rfl) (by unfold capD;rw [List.length_map];decide) (fun x hx h1 x1=>?_) fun acc h1 x1 ha he=>?_
    ·walk_at "x2"
     refine ih k x h1 ((tx x hx).ext x1) (by omega) fun h2 x2=>?_
     exact ⟨_,rfl,rfl,x2⟩
    ·walk_at "x2"
     refine wV_eq (eqB_nilL (n:=m') ((Ext.more (W:=[])).old _ _ (by simp) at_new) at_new (fun x hx=>(tx x (ha x hx)).ext ((x1.trans Ext.more).trans Ext.more)) (by omega)) ?_
     rw [zip_rep (s := "test of a hand") (by decide) hl] at h;rw [he,fitB_eq];exact h _ (((Ext.more.trans x1).trans Ext.more).trans Ext.more)
   ·walk_at "x2"
    refine op_c (f:=inD false) (b:=true) (fun _=>by kernel_rfl) ?_
    walk_at "x2"
    refine comp_bad (fun x=>fitB R m' "test of a hand" x) (by rw [← hl];decide) (src_tail rfl) (by unfold capD;rw [List.length_map];decide) (fun x hx h1 x1=>?_) fun acc h1 x1 ha he=>?_
    ·walk_at "x2"
     refine ih k x h1 ((tx x hx).ext x1) (by omega) fun h2 x2=>?_
     exact ⟨_,rfl,rfl,x2⟩
    ·walk_at "x2"
     refine wV_eq (eqB_nilL (n:=m') ((Ext.more (W:=[])).old _ _ (by simp) at_new) at_new (fun x hx=>(tx x (ha x hx)).ext ((x1.trans Ext.more).trans Ext.more)) (by omega)) ?_
     rw [zip_rep (s := "test of a hand") (by decide) hl] at h;rw [he,fitB_eq];exact h _ (((Ext.more.trans x1).trans Ext.more).trans Ext.more)
   ·walk_at "x2"
    refine op_c (f:=inD false) (b:=true) (fun _=>by kernel_rfl) ?_
    walk_at "x2"
    refine comp_bad (fun x=>fitB R m' "test of a hand" x) (by rw [← hl];decide) (src_tail rfl) (by unfold capD;rw [List.length_map];decide) (fun x hx h1 x1=>?_) fun acc h1 x1 ha he=>?_
    ·walk_at "x2"
     refine ih k x h1 ((tx x hx).ext x1) (by omega) fun h2 x2=>?_
     exact ⟨_,rfl,rfl,x2⟩
    ·walk_at "x2"
     refine wV_eq (eqB_nilL (n:=m') ((Ext.more (W:=[])).old _ _ (by simp) at_new) at_new (fun x hx=>(tx x (ha x hx)).ext ((x1.trans Ext.more).trans Ext.more)) (by omega)) ?_
     rw [zip_rep (s := "test of a hand") (by decide) hl] at h;rw [he,fitB_eq];exact h _ (((Ext.more.trans x1).trans Ext.more).trans Ext.more)
theorem run_ltest (R:Int):∀ (n k:Nat) (d:D) (mh:MH) (t:Th mh n d) (hn:n≤58) {P:D→MH→Prop}(h:∀ h',Ext [] mh h'→P (.bl (fitB R n "test" d)) h'),wV (runF (Gk (k+n+4)) fuel f43 [d,.int R] mh) P:=by
 intro n
 induction n with
 | zero =>
  intro k d mh t hn P h;rw [fitB_eq,p_test] at h;refine wV_run (b43_eq (k+0+3)) lenP43 lenN43 rfl ?_;show wS (b43 (k+0+3)) [some d,some (.int R),none] mh _;unfold b43;refine wS_seq (wS_if (wD_notT (wD_tru (wD_cal (wD_cons (wD_vr (by with_unfolding_all rfl) (wD_cons (wD_dispC (kds:=toK (lenW tF)) (fun h=>by kernel_rfl) (by decide) ?_))))))));rw [show mergeD [] (toK (lenW tF))=toK (lenW tF) by kernel_rfl];refine wD_ret ?_;refine run_lform _ mh.length (lenW tF) at_new (by omega) (t.ext Ext.more) ⟨_,rfl,?_⟩;show _∧_;rcases lf_cases tF d with ⟨lff,ef⟩ | ⟨lft,w,r,ss,ed,el,hl,ef⟩
  ·rw [lff]
   walk_at "x2"
   simp only [ef] at h;exact h _ Ext.more
  ·subst ed;exact absurd t.items (by rintro ⟨m,z,_⟩;cases z)
 | succ m ih =>
  intro k d mh t hn P h;rw [fitB_eq,p_test] at h;refine wV_run (b43_eq (k+(m+1)+3)) lenP43 lenN43 rfl ?_;show wS (b43 (k+(m+1)+3)) [some d,some (.int R),none] mh _;unfold b43;refine wS_seq (wS_if (wD_notT (wD_tru (wD_cal (wD_cons (wD_vr (by with_unfolding_all rfl) (wD_cons (wD_dispC (kds:=toK (lenW tF)) (fun h=>by kernel_rfl) (by decide) ?_))))))));rw [show mergeD [] (toK (lenW tF))=toK (lenW tF) by kernel_rfl];refine wD_ret ?_;refine run_lform _ mh.length (lenW tF) at_new (by omega) (t.ext Ext.more) ⟨_,rfl,?_⟩;show _∧_;rcases lf_cases tF d with ⟨lff,ef⟩ | ⟨lft,w,r,ss,ed,el,hl,ef⟩
  ·rw [lff]
   walk_at "x2"
   simp only [ef] at h;exact h _ Ext.more
  ·subst ed;obtain ⟨m',em,ti⟩:=t.items;have em:m'=m:=by omega
   subst em;have h:∀ h',Ext [] mh h'→P (.bl ((List.zipWith (fitB R m') ss r).all id)) h':=fun h' x=>by have:=h h' x;rw [ef] at this;exact this
   rw [lft];have tx:∀ x∈r,Th (mh++[.dct (toK (lenW tF))]) m' x:=fun x hx=>(ti x (List.mem_cons_of_mem _ hx)).ext Ext.more
   have hm:=look_mem el;simp only [tF,List.mem_cons,List.mem_nil_iff,or_false,Prod.mk.injEq] at hm;rcases hm with ⟨rfl,rfl⟩ | ⟨rfl,rfl⟩ | ⟨rfl,rfl⟩ | ⟨rfl,rfl⟩ | ⟨rfl,rfl⟩
   ·obtain ⟨x,y,z,u,rfl⟩:=len4 hl
    walk_at "x2"
    simp only [List.zipWith_cons_cons,List.zipWith_nil_left,List.all_cons,List.all_nil,id_eq,Bool.and_true] at h
    have e1:fitB R m' "role" x=lwB (some 0) (some (R - 1)) x:=by rw [fitB_eq];exact p_role
    have e3:fitB R m' "share" z=(nonB z || lwB (some 0) (some 6) z):=by rw [fitB_eq];exact p_share
    have e4:fitB R m' "share" u=(nonB u || lwB (some 0) (some 6) u):=by rw [fitB_eq];exact p_share
    rw [e1,e3,e4] at h;rw [← Bool.and_assoc] at h
    have fin:∀ (c:Bool) (m2:MH),Ext [] mh m2→(∀ h',Ext [] mh h'→P (.bl (c&&((nonB z || lwB (some 0) (some 6) z)&&(nonB u || lwB (some 0) (some 6) u)))) h')→wS (seqS (retS (dAndV (vr 2) (dAndV (calM (runF (Gk (k+(m'+1)+3)) fuel f40) (dCons (dop ixD (vr 0) (DM.ret (.int 3))) (dCons (DM.ret (.int 0)) (dCons (DM.ret (.int 6)) (DM.ret []))))) (calM (runF (Gk (k+(m'+1)+3)) fuel f40) (dCons (dop ixD (vr 0) (DM.ret (.int 4))) (dCons (DM.ret (.int 0)) (dCons (DM.ret (.int 6)) (DM.ret []))))))))
     SM.nxt) [some (.tup [.str "count",x,y,z,u]),some (.int R),some (.bl c)] m2 (fun f _ h=>∃ v,f=.rt v∧P v h):=fun c m2 x2 h=>by
     walk_at "x2"
     refine when_of (fun c1=>?_) fun c1=>?_
     ·subst c1;simp only [Bool.true_and] at h
      walk_at "x2"
      refine run_lbound _ (some 0) (some 6) ((ti z (by simp)).ext x2) ⟨_,rfl,when_of (fun e2=>?_) fun e2=>?_⟩
      ·rw [e2] at h;simp only [Bool.true_and] at h
       walk_at "x2"
       exact run_lbound _ (some 0) (some 6) ((ti u (by simp)).ext x2) ⟨_,rfl,h _ x2⟩
      ·rw [e2] at h;simp only [Bool.false_and] at h;exact ⟨_,rfl,h _ x2⟩
     ·subst c1;simp only [Bool.false_and] at h;exact ⟨_,rfl,h _ x2⟩
    refine run_lwhole _ (some 0) (some (R - 1)) (tx x (by simp)) ⟨_,rfl,when_of (fun e2=>?_) fun e2=>?_⟩
    ·rw [e2] at h;simp only [Bool.true_and] at h
     walk_at "x2"
     have lh:=@run_lhand R m' (k+1) y _ (tx y (by simp)) (by omega);rw [show k+1+m'+3=k+(m'+1)+3 by omega] at lh;refine lh fun h2 x2=>?_
     refine wG_set (seqK_nx ?_);exact wS_mono (fin _ h2 (Ext.more.trans x2) h) fun f l h q=>by obtain ⟨v,rfl,q⟩:=q;exact q
    ·rw [e2] at h;simp only [Bool.false_and] at h;refine wG_set (seqK_nx ?_);exact wS_mono (fin false _ Ext.more (by simp only [Bool.false_and];exact h)) fun f l h q=>by obtain ⟨v,rfl,q⟩:=q;exact q
   ·obtain ⟨x,y,z,rfl⟩:=len3 hl
    walk_at "x2"
    simp only [List.zipWith_cons_cons,List.zipWith_nil_left,List.all_cons,List.all_nil,id_eq,Bool.and_true] at h
    have e1:fitB R m' "kind" x=lwB (some 1) (some 12) x:=by rw [fitB_eq];exact p_kind
    have e3:fitB R m' "amount" y=(nonB y || lwB (some 0) none y):=by rw [fitB_eq];exact p_amount
    have e4:fitB R m' "amount" z=(nonB z || lwB (some 0) none z):=by rw [fitB_eq];exact p_amount
    rw [e1,e3,e4] at h;refine run_lwhole _ (some 1) (some 12) (tx x (by simp)) ⟨_,rfl,when_of (fun e2=>?_) fun e2=>?_⟩
    ·rw [e2] at h;simp only [Bool.true_and] at h
     walk_at "x2"
     refine run_lbound _ (some 0) none (tx y (by simp)) ⟨_,rfl,when_of (fun e2=>?_) fun e2=>?_⟩
     ·rw [e2] at h;simp only [Bool.true_and] at h
      walk_at "x2"
      exact run_lbound _ (some 0) none (tx z (by simp)) (h _ Ext.more)
     ·rw [e2] at h;simp only [Bool.false_and] at h;exact h _ Ext.more
    ·rw [e2] at h;simp only [Bool.false_and] at h;exact h _ Ext.more
   ·walk_at "x2"
    refine comp_bad (fun x=>fitB R m' "test" x) (by rw [← hl];decide) (src_tail rfl) (by unfold capD;rw [List.length_map];decide) (fun x hx h1 x1=>?_) fun acc h1 x1 ha he=>?_
    ·walk_at "x2"
     refine ih k x h1 ((tx x hx).ext x1) (by omega) fun h2 x2=>?_
     exact ⟨_,rfl,rfl,x2⟩
    ·walk_at "x2"
     refine wV_eq (eqB_nilL (n:=m') ((Ext.more (W:=[])).old _ _ (by simp) at_new) at_new (fun x hx=>(tx x (ha x hx)).ext ((x1.trans Ext.more).trans Ext.more)) (by omega)) ?_
     rw [zip_rep (s := "test") (by decide) hl] at h;rw [he];exact h _ (((Ext.more.trans x1).trans Ext.more).trans Ext.more)
   ·walk_at "x2"
    refine comp_bad (fun x=>fitB R m' "test" x) (by rw [← hl];decide) (src_tail rfl) (by unfold capD;rw [List.length_map];decide) (fun x hx h1 x1=>?_) fun acc h1 x1 ha he=>?_
    ·walk_at "x2"
     refine ih k x h1 ((tx x hx).ext x1) (by omega) fun h2 x2=>?_
     exact ⟨_,rfl,rfl,x2⟩
    ·walk_at "x2"
     refine wV_eq (eqB_nilL (n:=m') ((Ext.more (W:=[])).old _ _ (by simp) at_new) at_new (fun x hx=>(tx x (ha x hx)).ext ((x1.trans Ext.more).trans Ext.more)) (by omega)) ?_
     rw [zip_rep (s := "test") (by decide) hl] at h;rw [he];exact h _ (((Ext.more.trans x1).trans Ext.more).trans Ext.more)
   ·walk_at "x2"
    refine comp_bad (fun x=>fitB R m' "test" x) (by rw [← hl];decide) (src_tail rfl) (by unfold capD;rw [List.length_map];decide) (fun x hx h1 x1=>?_) fun acc h1 x1 ha he=>?_
    ·walk_at "x2"
     refine ih k x h1 ((tx x hx).ext x1) (by omega) fun h2 x2=>?_
     exact ⟨_,rfl,rfl,x2⟩
    ·walk_at "x2"
     refine wV_eq (eqB_nilL (n:=m') ((Ext.more (W:=[])).old _ _ (by simp) at_new) at_new (fun x hx=>(tx x (ha x hx)).ext ((x1.trans Ext.more).trans Ext.more)) (by omega)) ?_
     rw [zip_rep (s := "test") (by decide) hl] at h;rw [he];exact h _ (((Ext.more.trans x1).trans Ext.more).trans Ext.more)
theorem run_lclaim (R:Int) (n k:Nat) (d:D) (mh:MH) (t:Th mh (n+1) d) (hn:n≤57) {P:D→MH→Prop}(h:∀ h',Ext [] mh h'→P (.bl (clB R n d)) h'):wV (runF (Gk (k+n+5)) fuel f44 [d,.int R] mh) P:=by
 have h:∀ h',Ext [] mh h'→P (.bl (formB (fitB R n) cF d)) h':=h;refine wV_run (b44_eq (k+n+4)) lenP44 lenN44 rfl ?_;show wS (b44 (k+n+4)) [some d,some (.int R)] mh _;unfold b44;refine wS_seq (wS_if (wD_notT (wD_tru (wD_cal (wD_cons (wD_vr (by with_unfolding_all rfl) (wD_cons (wD_dispC (kds:=toK (lenW cF)) (fun h=>by kernel_rfl) (by decide) ?_))))))));rw [show mergeD [] (toK (lenW cF))=toK (lenW cF) by kernel_rfl];refine wD_ret ?_;refine run_lform _ mh.length (lenW cF) at_new (by omega) (t.ext Ext.more) ⟨_,rfl,?_⟩;show _∧_;rcases lf_cases cF d with ⟨lff,ef⟩ | ⟨lft,w,r,ss,ed,el,hl,ef⟩
 ·rw [lff]
  walk_at "x2"
  simp only [ef] at h;exact h _ Ext.more
 ·subst ed;obtain ⟨m',em,ti⟩:=t.items;have em:m'=n:=by omega
  subst em;simp only [ef] at h;rw [lft];have tx:∀ x∈r,Th (mh++[.dct (toK (lenW cF))]) m' x:=fun x hx=>(ti x (List.mem_cons_of_mem _ hx)).ext Ext.more
  have hs:∀ t∈ss,t=("test":Str):=by
   have hm:=look_mem el;simp only [cF,List.mem_cons,List.mem_nil_iff,or_false,Prod.mk.injEq] at hm;rcases hm with ⟨rfl,rfl⟩ | ⟨rfl,rfl⟩ | ⟨rfl,rfl⟩ <;> decide
  have hz:ss.length≤2:=by
   have hm:=look_mem el;simp only [cF,List.mem_cons,List.mem_nil_iff,or_false,Prod.mk.injEq] at hm;rcases hm with ⟨rfl,rfl⟩ | ⟨rfl,rfl⟩ | ⟨rfl,rfl⟩ <;> decide
  walk_at "x2"
  refine comp_bad (fun x=>fitB R m' "test" x) (by omega) (src_tail rfl) (by unfold capD;rw [List.length_map];decide) (fun x hx h1 x1=>?_) fun acc h1 x1 ha he=>?_
  ·walk_at "x2"
   refine run_ltest R m' k x h1 ((tx x hx).ext x1) (by omega) fun h2 x2=>?_
   exact ⟨_,rfl,rfl,x2⟩
  ·walk_at "x2"
   refine wV_eq (eqB_nilL (n:=m') ((Ext.more (W:=[])).old _ _ (by simp) at_new) at_new (fun x hx=>(tx x (ha x hx)).ext ((x1.trans Ext.more).trans Ext.more)) (by omega)) ?_
   rw [zip_rep (s := "test") hs hl] at h;rw [he];exact h _ (((Ext.more.trans x1).trans Ext.more).trans Ext.more)
noncomputable def prog (R:Nat):D:=.tup [.int 1,.tup [.int 0,.int 0],.tup (List.replicate R (.tup [])),.tup [.int 0]]
theorem len_roles (R:Nat) (mh:MH) {P:D→MH→Prop}(h:P (.int R) mh):wV (lenD [.tup (List.replicate R (.tup []))] mh) P:=wV_len (ds:=List.replicate R (.tup [])) (by intro z z';cases z') rfl (by rw [List.length_replicate];exact h)
local macro_rules | `(tactic| walk_at "x6") => `(tactic| repeat (first | walk_at "s" | with_reducible refine and_len (by simp) ?_ | with_reducible refine wV_ix0 ?_ | with_reducible refine wV_ix1 ?_ | with_reducible refine wV_ix2 ?_ | with_reducible refine wV_ix3 ?_ | with_reducible refine wV_ix4 ?_))
theorem look_ok (R n k:Nat) (d:D) (mh:MH) (t:Th mh (n+1) d) (c:clB R n d=true) {P:D→MH→Prop}(h:P .non mh):wV (runF (Gk (k+2 * n+6)) fuel f27 [prog R,d] mh) P:=by
 refine wV_run (b27_eq (k+2 * n+5)) lenP27 lenN27 rfl ?_;show wS (b27 (k+2 * n+5)) [some (prog R),some d] mh _;unfold b27 prog
 walk_at "x6"
 refine len_roles R mh ?_
 walk_at "x6"
 refine run_claim R mh n k d t ⟨_,rfl,?_⟩;rw [c]
 walk_at "x6"
 exact h
theorem look_bad (R n k:Nat) (d:D) (mh:MH) (t:Th mh (n+1) d) (c:clB R n d=false):runR (Gk (k+2 * n+6)) xcl fuel f27 [prog R,d] mh=some (("NoClaim":Str),mh):=by
 have ht:wD (dNotT (truM (calM (runF (Gk (k+2 * n+5)) fuel f22) (dCons (vr 1) (dCons (calM lenD (dCons (dop ixD (vr 0) (DM.ret (.int (2)))) (DM.ret []))) (DM.ret [])))))) [some (prog R),some d] mh fun b h1=>b=true∧h1=mh:=by
  unfold prog
  walk_at "x6"
  refine len_roles R mh ?_
  walk_at "x6"
  refine run_claim R mh n k d t ⟨_,rfl,?_⟩;rw [c];exact ⟨rfl,rfl⟩
 obtain ⟨b,h1,e,rfl,rfl⟩:=ht;unfold runR;rw [if_pos (by rw [lenP27];rfl),r27_eq (k+2 * n+5),lenN27];show r27 (k+2 * n+5) [some (prog R),some d] h1=_;unfold r27 rIf;rw [e];rfl
theorem run_refused (R n k:Nat) (d:D) (mh:MH) (t:Th mh (n+1) d) (c:clB R n d=false) {P:D→MH→Prop}(h:∀ mh',Ext [] mh mh'→P (.bl true) mh') :
  wV (runB (Gk (k+2 * n+7)) (Ek (k+2 * n+7)) td0 fuel f45 [prog R,d] mh) P:=by
 have e:=look_bad R n k d mh t c;refine ⟨.bl true,_,?_,h ((((mh++[.lst (bls 4)])++[.lst (bls 3)])++[.lst ((bls 4++bls 3)++bls 1)])) ((Ext.more.trans Ext.more).trans Ext.more)⟩
 have et:tryN (dCons (vr 0) (dCons (vr 1) (DM.ret []))) (runF (Gk (k+2 * n+6)) fuel f27) (runR (Gk (k+2 * n+6)) xcl fuel f27) "NoClaim" suM [some (prog R),some d,some (.bl false),none,none] mh=suM [some (prog R),some d,some (.bl false),none,none] mh:=by
  show (match runR (Gk (k+2 * n+6)) xcl fuel f27 [prog R,d] mh with
   | some (c',h')=>if c' == "NoClaim" then suM [some (prog R),some d,some (.bl false),none,none] h' else none
   | none=>_)=_
  rw [e];rfl
 unfold runB;rw [if_pos (by rw [lenP45];rfl),bB45_eq (k+2 * n+6),lenN45]
 show (match seqS (tryN _ _ _ _ _) _ [some (prog R),some d,some (.bl false),none,none] mh with
  | some (Fl.rt d,_,mh')=>some (d,mh')
  | some (.nx,_,mh')=>some (.non,mh')
  | _=>none)=_
 unfold seqS;rw [et];rfl
noncomputable def Pf:Nat→D→Prop
 | _,.non=>True
 | _,.bl _=>True
 | _,.int _=>True
 | _,.str x=>PyData.strOk x=true
 | n+1,.tup ds=>ds.length≤5∧∀ x∈ds,Pf n x
 | _,_=>False
theorem Pf.th {mh:MH}:∀ {n:Nat}{d:D},Pf n d→Th mh n d
 | 0,.non,_=>by unfold Th;trivial
 | 0,.bl _,_=>by unfold Th;trivial
 | 0,.int _,_=>by unfold Th;trivial
 | 0,.str x,t=>by unfold Pf at t;unfold Th;exact t
 | 0,.tup _,t=>by unfold Pf at t;exact t.elim
 | 0,.ref _,t=>by unfold Pf at t;exact t.elim
 | 0,.rol _,t=>by unfold Pf at t;exact t.elim
 | 0,.obj ..,t=>by unfold Pf at t;exact t.elim
 | n+1,.non,_=>by unfold Th;trivial
 | n+1,.bl _,_=>by unfold Th;trivial
 | n+1,.int _,_=>by unfold Th;trivial
 | n+1,.str x,t=>by unfold Pf at t;unfold Th;exact t
 | n+1,.tup ds,t=>by unfold Pf at t;unfold Th;exact fun x hx=>(t.2 x hx).th
 | n+1,.ref _,t=>by unfold Pf at t;exact t.elim
 | n+1,.rol _,t=>by unfold Pf at t;exact t.elim
 | n+1,.obj ..,t=>by unfold Pf at t;exact t.elim
theorem pf_int (n:Nat) (i:Int):Pf n (.int i):=by cases n <;> (unfold Pf;trivial)
theorem pf_ob (n:Nat) (o:Option Int):Pf n (ob o):=by cases o <;> cases n <;> (unfold ob Pf;trivial)
theorem pf_str (n:Nat) {x:Str}(h:PyData.strOk x=true):Pf n (.str x):=by cases n <;> (unfold Pf;exact h)
theorem pf_tup {n:Nat}{ds:List D}(hl:ds.length≤5) (h:∀ x∈ds,Pf n x):Pf (n+1) (.tup ds):=by unfold Pf;exact ⟨hl,h⟩
theorem pf1 {n:Nat}{w:Str}{a:D}(hw:PyData.strOk w=true) (ha:Pf n a):Pf (n+1) (.tup [.str w,a]):=pf_tup (by simp) (by intro x hx;simp only [List.mem_cons,List.mem_nil_iff,or_false] at hx;rcases hx with rfl | rfl <;> first | exact pf_str n hw | assumption)
theorem pf2 {n:Nat}{w:Str}{a b:D}(hw:PyData.strOk w=true) (ha:Pf n a) (hb:Pf n b):Pf (n+1) (.tup [.str w,a,b]):=pf_tup (by simp) (by intro x hx;simp only [List.mem_cons,List.mem_nil_iff,or_false] at hx;rcases hx with rfl | rfl | rfl <;> first | exact pf_str n hw | assumption)
theorem pf3 {n:Nat}{w:Str}{a b c:D}(hw:PyData.strOk w=true) (ha:Pf n a) (hb:Pf n b) (hc:Pf n c):Pf (n+1) (.tup [.str w,a,b,c]):=pf_tup (by simp) (by intro x hx;simp only [List.mem_cons,List.mem_nil_iff,or_false] at hx;rcases hx with rfl | rfl | rfl | rfl <;> first | exact pf_str n hw | assumption)
theorem pf4 {n:Nat}{w:Str}{a b c e:D}(hw:PyData.strOk w=true) (ha:Pf n a) (hb:Pf n b) (hc:Pf n c) (he:Pf n e):Pf (n+1) (.tup [.str w,a,b,c,e]):=pf_tup (by simp) (by intro x hx;simp only [List.mem_cons,List.mem_nil_iff,or_false] at hx;rcases hx with rfl | rfl | rfl | rfl | rfl <;> first | exact pf_str n hw | assumption)
theorem lw_i {l u i:Int}(h:l≤i∧i≤u):lwB (some l) (some u) (.int i)=true:=by show (decide (l≤i)&&decide (i≤u))=true;rw [decide_eq_true h.1,decide_eq_true h.2];rfl
theorem ob_bound (o:Option Int):(nonB (ob o) || lwB none none (ob o))=true:=by cases o <;> rfl
theorem ob_share {o:Option Int}(h:obIn 0 6 o):(nonB (ob o) || lwB (some 0) (some 6) (ob o))=true:=by
 cases o with
 | none=>rfl
 | some i=>exact lw_i (h i rfl)
theorem ob_amount {o:Option Int}(h:obIn 0 6 o):(nonB (ob o) || lwB (some 0) none (ob o))=true:=by
 cases o with
 | none=>rfl
 | some i=>show (decide (0≤i)&&true)=true;rw [decide_eq_true (h i rfl).1];rfl
theorem ht_ok (R:Int):∀ (t:HT),t.ok→∀ n,t.dep+1≤n→fitB R n "test of a hand" (htD t)=true∧Pf n (htD t):=by
 intro t
 induction t with
 | no a ih =>
  intro ok n hn;have hn:a.dep+1+1≤n:=hn;obtain ⟨m,rfl⟩:∃ m,n=m+1:=⟨n - 1,by omega⟩;obtain ⟨h1,h2⟩:=ih ok m (by omega)
  exact ⟨by show (fitB R m "test of a hand" (htD a)&&true)=true;rw [h1];rfl,pf1 (by kernel_rfl) h2⟩
 | both a b iha ihb =>
  intro ok n hn;have hn:max a.dep b.dep+1+1≤n:=hn;obtain ⟨m,rfl⟩:∃ m,n=m+1:=⟨n - 1,by omega⟩;obtain ⟨h1,h2⟩:=iha ok.1 m (by omega);obtain ⟨h3,h4⟩:=ihb ok.2 m (by omega)
  exact ⟨by show (fitB R m "test of a hand" (htD a)&&(fitB R m "test of a hand" (htD b)&&true))=true;rw [h1,h3];rfl,pf2 (by kernel_rfl) h2 h4⟩
 | either a b iha ihb =>
  intro ok n hn;have hn:max a.dep b.dep+1+1≤n:=hn;obtain ⟨m,rfl⟩:∃ m,n=m+1:=⟨n - 1,by omega⟩;obtain ⟨h1,h2⟩:=iha ok.1 m (by omega);obtain ⟨h3,h4⟩:=ihb ok.2 m (by omega)
  exact ⟨by show (fitB R m "test of a hand" (htD a)&&(fitB R m "test of a hand" (htD b)&&true))=true;rw [h1,h3];rfl,pf2 (by kernel_rfl) h2 h4⟩
 | «at» i =>
  intro ok n hn;obtain ⟨m,rfl⟩:∃ m,n=m+1:=⟨n - 1,by omega⟩
  exact ⟨by show (fitB R m "place" (.int i)&&true)=true;rw [fitB_eq,p_place,lw_i ok];rfl,pf1 (by kernel_rfl) (pf_int m i)⟩
 | num b lo hi =>
  intro ok n hn;obtain ⟨m,rfl⟩:∃ m,n=m+1:=⟨n - 1,by omega⟩;have ok:b < 3:=ok
  exact ⟨by show (fitB R m "box" (.int b)&&(fitB R m "bound" (ob lo)&&(fitB R m "bound" (ob hi)&&true)))=true;rw [fitB_eq,p_box,p_bound,p_bound,lw_i ⟨by omega,by omega⟩,ob_bound,ob_bound];rfl,pf3 (by kernel_rfl) (pf_int m b) (pf_ob m lo) (pf_ob m hi)⟩
 | has b =>
  intro ok n hn;obtain ⟨m,rfl⟩:∃ m,n=m+1:=⟨n - 1,by omega⟩;have ok:b < 3:=ok
  exact ⟨by show (fitB R m "box" (.int b)&&true)=true;rw [fitB_eq,p_box,lw_i ⟨by omega,by omega⟩];rfl,pf1 (by kernel_rfl) (pf_int m b)⟩
 | fallen =>
  intro ok n hn;obtain ⟨m,rfl⟩:∃ m,n=m+1:=⟨n - 1,by omega⟩;exact ⟨rfl,pf_tup (by simp) (by intro x hx;rw [List.mem_singleton.mp hx];exact pf_str m (by kernel_rfl))⟩
 | many b c =>
  intro ok n hn;obtain ⟨m,rfl⟩:∃ m,n=m+1:=⟨n - 1,by omega⟩;have ok:b < 2∧c < 7:=ok
  exact ⟨by show (fitB R m "set box" (.int b)&&(fitB R m "members" (.int c)&&true))=true;rw [fitB_eq,p_sbox,p_mem,lw_i ⟨by omega,by omega⟩,lw_i ⟨by omega,by omega⟩];rfl,pf2 (by kernel_rfl) (pf_int m b) (pf_int m c)⟩
 | bell =>
  intro ok n hn;obtain ⟨m,rfl⟩:∃ m,n=m+1:=⟨n - 1,by omega⟩;exact ⟨rfl,pf_tup (by simp) (by intro x hx;rw [List.mem_singleton.mp hx];exact pf_str m (by kernel_rfl))⟩
theorem tt_ok (R:Nat):∀ (t:TT),t.ok R→∀ n,t.dep+4≤n→fitB R n "test" (ttD t)=true∧Pf n (ttD t):=by
 intro t
 induction t with
 | no a ih =>
  intro ok n hn;have hn:a.dep+1+4≤n:=hn;obtain ⟨m,rfl⟩:∃ m,n=m+1:=⟨n - 1,by omega⟩;obtain ⟨h1,h2⟩:=ih ok m (by omega)
  exact ⟨by show (fitB R m "test" (ttD a)&&true)=true;rw [h1];rfl,pf1 (by kernel_rfl) h2⟩
 | both a b iha ihb =>
  intro ok n hn;have hn:max a.dep b.dep+1+4≤n:=hn;obtain ⟨m,rfl⟩:∃ m,n=m+1:=⟨n - 1,by omega⟩;obtain ⟨h1,h2⟩:=iha ok.1 m (by omega);obtain ⟨h3,h4⟩:=ihb ok.2 m (by omega)
  exact ⟨by show (fitB R m "test" (ttD a)&&(fitB R m "test" (ttD b)&&true))=true;rw [h1,h3];rfl,pf2 (by kernel_rfl) h2 h4⟩
 | either a b iha ihb =>
  intro ok n hn;have hn:max a.dep b.dep+1+4≤n:=hn;obtain ⟨m,rfl⟩:∃ m,n=m+1:=⟨n - 1,by omega⟩;obtain ⟨h1,h2⟩:=iha ok.1 m (by omega);obtain ⟨h3,h4⟩:=ihb ok.2 m (by omega)
  exact ⟨by show (fitB R m "test" (ttD a)&&(fitB R m "test" (ttD b)&&true))=true;rw [h1,h3];rfl,pf2 (by kernel_rfl) h2 h4⟩
 | letters kd lo hi =>
  intro ok n hn;have hn:0+4≤n:=hn;obtain ⟨m,rfl⟩:∃ m,n=m+1:=⟨n - 1,by omega⟩;obtain ⟨o1,o2,o3⟩:=ok
  exact ⟨by show (fitB R m "kind" (.int kd)&&(fitB R m "amount" (ob lo)&&(fitB R m "amount" (ob hi)&&true)))=true;rw [fitB_eq,p_kind,p_amount,p_amount,lw_i ⟨o1.1,by omega⟩,ob_amount o2,ob_amount o3];rfl,pf3 (by kernel_rfl) (pf_int m kd) (pf_ob m lo) (pf_ob m hi)⟩
 | count r t lo hi =>
  intro ok n hn;have hn:0+4≤n:=hn;obtain ⟨m,rfl⟩:∃ m,n=m+1:=⟨n - 1,by omega⟩;obtain ⟨o1,⟨o2,o2'⟩,o3,o4⟩:=ok;obtain ⟨h1,h2⟩:=ht_ok R t o2 m (by omega)
  exact ⟨by show (fitB R m "role" (.int r)&&(fitB R m "test of a hand" (htD t)&&(fitB R m "share" (ob lo)&&(fitB R m "share" (ob hi)&&true))))=true;rw [h1,fitB_eq,p_role,p_share,p_share,lw_i ⟨by omega,by omega⟩,ob_share o3,ob_share o4];rfl,pf4 (by kernel_rfl) (pf_int m r) h2 (pf_ob m lo) (pf_ob m hi)⟩
theorem ext_fresh {a b c:MH}{j:Nat}(x:Ext [] a b) (y:Ext [j] b c) (h:a.length≤j):Ext [] a c:=⟨Nat.le_trans x.len y.len,fun i o _ e=>by
 have:i < a.length:=(List.getElem?_eq_some_iff.mp e).1
 exact y.old i o (by intro z;rw [List.mem_singleton.mp z] at this;omega) (x.old i o (by simp) e)⟩
noncomputable def Cl (R:Nat) (w:Str) (ts:List TT):Prop:=((w = "never"∧ts.length=1)∨((w = "behind"∨w = "comes")∧ts.length=2))∧∀ t∈ts,t.ok R∧t.dep≤1
noncomputable def clD (w:Str) (ts:List TT):D:=.tup (.str w::ts.map ttD)
local macro_rules | `(tactic| walk_at "x3") => `(tactic| repeat (first | walk_at "s" | with_reducible refine and_len (by simp) ?_ | with_reducible refine wV_ix0 ?_ | with_reducible refine wV_ix1 ?_ | with_reducible refine wV_ix2 ?_ | with_reducible refine wV_fdiv (by decide) (by decide) ?_ | with_reducible refine wV_mod (by decide) ?_ | with_reducible refine seqt (by kernel_rfl) (by kernel_rfl) (by decide +kernel) ?_ | with_reducible refine seqf (by kernel_rfl) (by kernel_rfl) (by decide +kernel) ?_))
theorem run_lcl (k R:Nat) (hR:1≤R) (c:Int) (mh:MH) {P:D→MH→Prop}(h:∀ w ts h',Cl R w ts→Ext [] mh h'→P (clD w ts) h'):wV (runF (Gk (k+7)) fuel f35 [.int c,.int R] mh) P:=by
 refine wV_run (b35_eq (k+6)) lenP35 lenN35 rfl ?_;show wS (b35 (k+6)) [some (.int c),some (.int R),none,none] mh _;unfold b35
 walk_at "x3"
 refine wV_pow (by decide) (by decide) (by decide) ?_
 walk_at "x3"
 refine run_draws (k+4) _ 60 (by decide) 1000000 (by decide) (by decide) mh fun vs jd h1 hl hv hj x1 g1=>?_
 walk_at "x3"
 obtain ⟨r,hr,er⟩:=fm_nat c 3 (by decide);have er:c.fmod 3=(r:Int):=er;rw [er]
 have two:∀ (w:Str) (m:MH),(w = "behind"∨w = "comes")→Ext [] mh m→IsI m jd vs→wS (seqS (retS (tupM (dCons (vr 3) (dCons (calM (runF (Gk (k+6)) fuel f34) (dCons (vr 2) (dCons (vr 1) (dCons (DM.ret (.int 1)) (DM.ret []))))) (dCons (calM (runF (Gk (k+6)) fuel f34) (dCons (vr 2) (dCons (vr 1) (dCons (DM.ret (.int 1)) (DM.ret []))))) (DM.ret []))))))
  SM.nxt) [some (.int c),some (.int R),some (.ref jd),some (.str w)] m (retK P):=fun w m hw x g=>by
  walk_at "x3"
  refine run_test 1 k jd R hR vs m g (by rw [hl];decide) (by omega) fun t ws h2 ok dp hl2 hz x2 g2=>?_
  walk_at "x3"
  have e17:nt 1=17:=rfl;refine run_test 1 k jd R hR ws h2 g2 (by omega) hz fun t2 ws2 h3 ok2 dp2 hl3 hz3 x3 g3=>?_
  walk_at "x3"
  refine h w [t,t2] h3 ⟨.inr ⟨hw,rfl⟩,fun z hz=>?_⟩ (ext_fresh (ext_fresh x x2 hj) x3 hj);simp only [List.mem_cons,List.mem_nil_iff,or_false] at hz;rcases hz with rfl | rfl
  ·exact ⟨ok,dp⟩
  ·exact ⟨ok2,dp2⟩
 have g2:IsI (h1++[.lst [.str "never",.str "behind",.str "comes"]]) jd vs:=IsI.ext g1 Ext.more;rcases lt3 hr with rfl | rfl | rfl
 ·refine wV_ixL (j:=0) at_new rfl ?_
  walk_at "x3"
  refine run_test 1 k jd R hR vs _ g2 (by rw [hl];decide) (by omega) fun t ws h2 ok dp hl2 hz x2 g2=>?_
  walk_at "x3"
  refine h "never" [t] h2 ⟨.inl ⟨rfl,rfl⟩,fun z hz=>?_⟩ (ext_fresh (x1.trans Ext.more) x2 hj)
  rw [List.mem_singleton.mp hz];exact ⟨ok,dp⟩
 ·refine wV_ixL (j:=1) at_new rfl ?_
  refine wG_set (seqK_nx (wS_seq (wS_if (wD_bool (wD_op (wD_vr (by with_unfolding_all rfl) (wD_ret (seqf (by kernel_rfl) (by kernel_rfl) (by decide +kernel) ⟨_,rfl,when_of (fun e=>by cases e) fun _=>wS_nxt (seqK_nx (two "behind" _ (.inl rfl) (x1.trans Ext.more) g2))⟩))))))))
 ·refine wV_ixL (j:=2) at_new rfl ?_
  refine wG_set (seqK_nx (wS_seq (wS_if (wD_bool (wD_op (wD_vr (by with_unfolding_all rfl) (wD_ret (seqf (by kernel_rfl) (by kernel_rfl) (by decide +kernel) ⟨_,rfl,when_of (fun e=>by cases e) fun _=>wS_nxt (seqK_nx (two "comes" _ (.inr rfl) (x1.trans Ext.more) g2))⟩))))))))
theorem zip_tests {R n:Nat}:∀ {ss:List Str}{ts:List TT},(∀ s∈ss,s = "test")→ss.length=ts.length→(∀ t∈ts,t.ok R∧t.dep+4≤n)→(List.zipWith (fitB R n) ss (ts.map ttD)).all id=true
 | [],[],_,_,_=>rfl
 | s::ss,t::ts,hs,hl,h=>by
  rw [List.map_cons,List.zipWith_cons_cons,List.all_cons,zip_tests (fun s hs'=>hs s (List.mem_cons_of_mem _ hs')) (by simpa using hl) (fun t ht=>h t (List.mem_cons_of_mem _ ht)),hs s List.mem_cons_self,(tt_ok R t (h t List.mem_cons_self).1 n (h t List.mem_cons_self).2).1];rfl
theorem cl_good {R n:Nat}{w:Str}{ts:List TT}(hw:(w = "never"∧ts.length=1)∨((w = "behind"∨w = "comes")∧ts.length=2)) (h:∀ t∈ts,t.ok R∧t.dep+4≤n):clB R n (clD w ts)=true∧Pf (n+1) (clD w ts):=by
 have hs:PyData.strOk w=true:=by rcases hw with ⟨rfl,_⟩ | ⟨rfl | rfl,_⟩ <;> kernel_rfl
 refine ⟨?_,pf_tup ?_ ?_⟩
 ·rcases hw with ⟨rfl,hl⟩ | ⟨rfl | rfl,hl⟩
  ·show (decide (1=(ts.map ttD).length)&&(List.zipWith (fitB R n) ["test"] (ts.map ttD)).all id)=true;rw [zip_tests (by decide) (by rw [hl];rfl) h,List.length_map,hl];rfl
  ·show (decide (2=(ts.map ttD).length)&&(List.zipWith (fitB R n) ["test", "test"] (ts.map ttD)).all id)=true;rw [zip_tests (by decide) (by rw [hl];rfl) h,List.length_map,hl];rfl
  ·show (decide (2=(ts.map ttD).length)&&(List.zipWith (fitB R n) ["test", "test"] (ts.map ttD)).all id)=true;rw [zip_tests (by decide) (by rw [hl];rfl) h,List.length_map,hl];rfl
 ·rw [List.length_cons,List.length_map];rcases hw with ⟨_,hl⟩ | ⟨_,hl⟩ <;> omega
 ·intro x hx;rcases List.mem_cons.mp hx with rfl | hx
  ·exact pf_str n hs
  ·obtain ⟨t,ht,rfl⟩:=List.mem_map.mp hx;exact (tt_ok R t (h t ht).1 n (h t ht).2).2
theorem run_turned (k R:Nat) (t:TT) (ok:t.ok R) (m:Nat) (hm:m≤1000) (mh:MH) {P:D→MH→Prop}(h:∀ t':TT,t'.ok R→t'.dep≤t.dep+m→P (ttD t') mh):wV (runF (Gk (k+1)) fuel f36 [ttD t,.int m] mh) P:=by
 refine wV_run (b36_eq k) lenP36 lenN36 rfl ?_;show wS (b36 k) [some (ttD t),some (.int m),none] mh _;unfold b36;refine wS_seq (wS_for ?_)
 walk_at "x3"
 refine ⟨_,rng1_nat (by omega),rangeL 0 m,fun i l h=>h=mh∧∃ (t':TT) (x2:Option D),l=[some (ttD t'),some (.int m),x2]∧t'.ok R∧t'.dep≤t.dep+i,⟨rfl,t,none,rfl,ok,Nat.le_refl _⟩,fun _ _ _ _=>⟨rfl,rfl⟩,?_,?_⟩
 ·rintro i d l h' ed ⟨rfl,t',x2,rfl,o,dp⟩
  walk_at "x3"
  exact ⟨rfl,.no t',_,rfl,o,by show t'.dep+1≤t.dep+(i+1);omega⟩
 ·rintro l h' ⟨rfl,t',x2,rfl,o,dp⟩;rw [rangeL_len] at dp
  walk_at "x3"
  exact h t' o dp
theorem sl_any {ds:List D}{lo hi:Option Int}{mh:MH}{P:D→MH→Prop}(h:∀ es:List D,(∀ x∈es,x∈ds)→es.length≤ds.length→P (.tup es) mh):wV (slD (.tup ds) lo hi mh) P:=by
 by_cases q:HT.sIx ds.length 0 lo=0∧HT.sIx ds.length ds.length hi=ds.length
 ·exact ⟨_,_,by show (if HT.sIx ds.length 0 lo=0∧HT.sIx ds.length ds.length hi=ds.length then some (D.tup ds,mh) else some (D.tup (DL.cutD ds lo hi),mh))=_;rw [if_pos q],h ds (fun _ hx=>hx) (Nat.le_refl _)⟩
 ·refine ⟨_,_,by show (if HT.sIx ds.length 0 lo=0∧HT.sIx ds.length ds.length hi=ds.length then some (D.tup ds,mh) else some (D.tup (DL.cutD ds lo hi),mh))=_;rw [if_neg q],h _ (fun x hx=>?_) ?_⟩
  ·exact List.mem_of_mem_drop (List.mem_of_mem_take hx)
  ·unfold DL.cutD;rw [List.length_take,List.length_drop];omega
theorem Pf.items {n:Nat}{ds:List D}(t:Pf n (.tup ds)):∃ m,n=m+1∧ds.length≤5∧∀ x∈ds,Pf m x:=by
 cases n with
 | zero=>unfold Pf at t;exact t.elim
 | succ m=>unfold Pf at t;exact ⟨m,rfl,t.1,t.2⟩
theorem th_tup {mh:MH}{n:Nat}{ds:List D}(h:∀ x∈ds,Th mh n x):Th mh (n+1) (.tup ds):=by unfold Th;exact h
theorem th_int (mh:MH) (n:Nat) (i:Int):Th mh n (.int i):=by cases n <;> (unfold Th;trivial)
theorem th_bl (mh:MH) (n:Nat) (b:Bool):Th mh n (.bl b):=by cases n <;> (unfold Th;trivial)
theorem th_non (mh:MH) (n:Nat):Th mh n .non:=by cases n <;> (unfold Th;trivial)
theorem th_str (mh:MH) (n:Nat) {x:Str}(h:PyData.strOk x=true):Th mh n (.str x):=by cases n <;> (unfold Th;exact h)
theorem run_odd (k n:Nat) (d:D) (t:Pf n d) (v:Int) (mh:MH) {P:D→MH→Prop}(h:∀ x h',Ext [] mh h'→Th h' (n+1) x→P x h'):wV (runF (Gk (k+1)) fuel f37 [d,.int v] mh) P:=by
 refine wV_run (b37_eq k) lenP37 lenN37 rfl ?_;show wS (b37 k) [some d,some (.int v),none] mh _;unfold b37;refine wS_seq (wS_if (wD_tru (wD_isi (wD_vr (by with_unfolding_all rfl) (isi_tup (t.th (mh:=mh)) ⟨_,rfl,fun e=>?_,fun e=>?_⟩)))))
 ·cases d with
  | tup ds =>
   obtain ⟨m,rfl,hl,ti⟩:=t.items;obtain ⟨r,hr,er⟩:=fm_nat v 8 (by decide);have er:v.fmod 8=(r:Int):=er
   walk_at "x3"
   refine wV_listOf (ds:=ds) rfl ?_
   walk_at "x3"
   refine wV_addT (by rw [List.length_singleton];omega) ?_
   walk_at "x3"
   refine sl_any fun e1 m1 l1=>?_
   walk_at "x3"
   refine sl_any fun e2 m2 l2=>?_
   walk_at "x3"
   refine sl_any fun e3 m3 l3=>?_
   walk_at "x3"
   refine sl_any fun e4 m4 l4=>?_
   refine wV_addT (by omega) ?_
   walk_at "x3"
   rw [er];refine wV_ixAny at_new (by simpa using hr) fun x hx=>?_
   have xt:Ext [] mh (mh++[.lst ds]++[.lst [.ref mh.length,.tup (ds++[.int 1]),.tup e1,.tup e2,.tup [],.non,.tup e3,.tup (ds++e4)]]):=Ext.more.trans Ext.more;have tm:∀ {es:List D},(∀ x∈es,x∈ds)→∀ x∈es,Th (mh++[.lst ds]++[.lst [.ref mh.length,.tup (ds++[.int 1]),.tup e1,.tup e2,.tup [],.non,.tup e3,.tup (ds++e4)]]) m x:=fun h x hx=>(ti x (h x hx)).th
   have fin:=fun (x:D)=>h x _ xt
   simp only [List.mem_cons,List.mem_nil_iff,or_false] at hx;rcases hx with rfl | rfl | rfl | rfl | rfl | rfl | rfl | rfl
   ·refine fin _ (Th.up ?_);unfold Th;exact ⟨ds,(Ext.more (W:=[])).old _ _ (by simp) at_new,tm fun _ h=>h⟩
   ·refine fin _ (Th.up (th_tup fun x hx=>?_));rcases List.mem_append.mp hx with z | z
    ·exact tm (fun _ h=>h) x z
    ·rw [List.mem_singleton.mp z];exact th_int _ _ _
   ·exact fin _ (Th.up (th_tup (tm m1)))
   ·exact fin _ (Th.up (th_tup (tm m2)))
   ·exact fin _ (Th.up (th_tup fun x hx=>absurd hx (by simp)))
   ·exact fin _ (th_non _ _)
   ·exact fin _ (Th.up (th_tup (tm m3)))
   ·refine fin _ (Th.up (th_tup fun x hx=>?_));rcases List.mem_append.mp hx with z | z
    ·exact tm (fun _ h=>h) x z
    ·exact tm m4 x z
  | _=>cases e
 ·refine wS_nxt (seqK_nx (wS_seq (wS_if (wD_tru (wD_isi (wD_vr (by with_unfolding_all rfl) (isi_str (t.th (mh:=mh)) ⟨_,rfl,fun e=>?_,fun e=>?_⟩)))))))
  ·obtain ⟨r,hr,er⟩:=fm_nat v 10 (by decide);have er:v.fmod 10=(r:Int):=er
   walk_at "x3"
   rw [er];refine wV_ixAny at_new (by simpa using hr) fun x hx=>h x _ Ext.more ?_
   simp only [List.mem_cons,List.mem_nil_iff,or_false] at hx;rcases hx with rfl | rfl | rfl | rfl | rfl | rfl | rfl | rfl | rfl | rfl <;> first | exact th_int _ _ _ | exact th_str _ _ (by kernel_rfl)
  ·obtain ⟨r,hr,er⟩:=fm_nat v 10 (by decide);have er:v.fmod 10=(r:Int):=er;refine wS_nxt (seqK_nx ?_)
   walk_at "x3"
   rw [er];refine wV_ixAny at_new (by simpa using hr) fun x hx=>h x _ Ext.more ?_
   simp only [List.mem_cons,List.mem_nil_iff,or_false] at hx;rcases hx with rfl | rfl | rfl | rfl | rfl | rfl | rfl | rfl | rfl | rfl <;> first | exact th_int _ _ _ | exact th_str _ _ (by kernel_rfl) | exact th_bl _ _ _ | exact th_non _ _ | exact th_tup fun x hx=>by rw [List.mem_singleton.mp hx];exact th_int _ _ _
theorem run_spoiled (dp:Nat):∀ (k n:Nat) (d:D) (t:Pf n d) (hn:n≤50) (jd:Nat) (vs:List Int) (mh:MH) (g:IsI mh jd vs) (hv:dp+1≤vs.length) (hz:vs.length≤1000) {P:D→MH→Prop}(h:∀ x h',Ext [jd] mh h'→Th h' (n+1) x→P x h'),
  wV (runF (Gk (k+dp+2)) fuel f38 [d,.ref jd,.int dp] mh) P:=by
 induction dp with
 | zero =>
  intro k n d t hn jd vs mh g hv hz P h;refine wV_run (b38_eq (k+1)) lenP38 lenN38 rfl ?_;show wS (b38 (k+1)) [some d,some (.ref jd),some (.int ((0:Nat):Int)),none,none] mh _;unfold b38
  walk_at "x3"
  refine ⟨ty_list g,?_⟩
  walk_at "x3"
  refine wV_pop g (by omega) (by omega) fun m1 y1 l1 g1=>?_
  refine wG_set (seqK_nx ?_);refine wS_seq (wS_if ?_);repeat (with_reducible first | refine wD_andT ?_ | refine wD_bool ?_ | refine wD_op ?_ | refine wD_vr (by with_unfolding_all rfl) ?_ | refine wD_ret ?_ | refine wV_icmp ?_ | refine ex_bl ?_)
  refine when_ff (by decide) (when_f (wS_nxt (seqK_nx ?_)))
  walk_at "x3"
  exact run_odd k n d t _ m1 fun x h' ex tx=>h x h' (y1.trans ex.weak) tx
 | succ dp ih =>
  intro k n d t hn jd vs mh g hv hz P h;refine wV_run (b38_eq (k+dp+2)) lenP38 lenN38 rfl ?_;show wS (b38 (k+dp+2)) [some d,some (.ref jd),some (.int ((dp+1:Nat):Int)),none,none] mh _;unfold b38
  walk_at "x3"
  refine ⟨ty_list g,?_⟩
  walk_at "x3"
  refine wV_pop g (by omega) (by omega) fun m1 y1 l1 g1=>?_
  generalize vs[0]'(by omega)=v;refine wG_set (seqK_nx ?_);have odd:wS (seqS (retS (calM (runF (Gk (k+dp+2)) fuel f37) (dCons (vr 0) (dCons (dop fdivD (vr 3) (DM.ret (.int 4))) (DM.ret []))))) SM.nxt) [some d,some (.ref jd),some (.int ((dp+1:Nat):Int)),some (.int v),none] m1 (retK P):=by
   walk_at "x3"
   exact run_odd (k+dp+1) n d t _ m1 fun x h' ex tx=>h x h' (y1.trans ex.weak) tx
  refine wS_seq (wS_if ?_);repeat (with_reducible first | refine wD_andT ?_ | refine wD_bool ?_ | refine wD_op ?_ | refine wD_vr (by with_unfolding_all rfl) ?_ | refine wD_ret ?_ | refine wV_icmp ?_ | refine ex_bl ?_)
  refine when_of (fun _=>?_) fun _=>when_f (wS_nxt (seqK_nx odd))
  refine wD_andT (wD_tru (wD_isi (wD_vr (by with_unfolding_all rfl) (isi_tup (t.th (mh:=m1)) ⟨_,rfl,fun e=>?_,fun e=>when_f (wS_nxt (seqK_nx odd))⟩))));cases d with
  | tup ds =>
   obtain ⟨m,rfl,hl,ti⟩:=t.items
   walk_at "x3"
   refine wV_ne (eqB_nilT (t.th (mh:=m1)) (by omega)) ?_;refine ⟨_,rfl,when_of (fun e0=>?_) fun _=>when_f (wS_nxt (seqK_nx odd))⟩;have hp:0 < ds.length:=by cases ds with | nil=>cases e0 | cons _ _=>simp
   walk_at "x3"
   refine when_of (fun _=>?_) fun _=>wS_nxt (seqK_nx odd)
   walk_at "x3"
   refine wV_len (ds:=ds) (by intro z z';cases z') rfl ?_;obtain ⟨r,hr,er⟩:=fm_nat (v.fdiv 4) ds.length hp;refine wV_mod (by omega) ?_;rw [er]
   walk_at "x3"
   refine sl_any fun e1 q1 l1=>?_
   walk_at "x3"
   refine wV_ixT (j:=r) (List.getElem?_eq_getElem hr) ?_
   walk_at "x3"
   have ed:((dp+1:Nat):Int) - 1=(dp:Int):=by push_cast;omega
   rw [ed];refine ih k m ds[r] (ti _ (List.getElem_mem hr)) (by omega) jd vs.tail m1 g1 (by rw [List.length_tail];omega) (by rw [List.length_tail];omega) fun x h2 x2 tx=>?_
   walk_at "x3"
   refine wV_addT (by rw [List.length_singleton];omega) ?_
   walk_at "x3"
   refine sl_any fun e2 q2 l2=>?_
   refine wV_addT (by rw [List.length_append,List.length_singleton];omega) ?_
   walk_at "x3"
   refine h _ h2 (y1.trans x2) (th_tup fun y hy=>?_);rcases List.mem_append.mp hy with z | z
   ·rcases List.mem_append.mp z with z | z
    ·exact ((ti y (q1 y z)).th (mh:=h2)).up
    ·rw [List.mem_singleton.mp z];exact tx
   ·exact ((ti y (q2 y z)).th (mh:=h2)).up
  | _=>cases e
noncomputable def depth:Nat:=66
theorem minI2 (a b:Int):minI a [b]=if b < a then b else a:=rfl
theorem maxI2 (a b:Int):maxI a [b]=if a < b then b else a:=rfl
theorem wV_mulE {k:Nat}{mh:MH}{P:D→MH→Prop}(h1:1≤k) (h2:k≤1000) (h:P (.tup (List.replicate k (.tup []))) mh):wV (mulD (.tup [.tup []]) (.int k) mh) P:=by
 refine ⟨_,_,?_,h⟩;show (if (k:Int)=1 then some (D.tup [.tup []],mh) else if (List.isEmpty [D.tup []]=false∧[D.tup []].length≤1000)∧(1 < (k:Int)∧(k:Int)≤1000) then some (D.tup (List.replicate (k:Int).toNat [D.tup []]).flatten,mh) else none)=_
 by_cases e:k=1
 ·subst e;rfl
 ·rw [if_neg (by omega),if_pos ⟨⟨rfl,by simp⟩,by omega,by omega⟩,Int.toNat_natCast];have e:(List.replicate k [D.tup []]).flatten=List.replicate k (D.tup []):=by
   clear h h1 h2 e
   induction k with
   | zero=>rfl
   | succ k ih=>rw [List.replicate_succ,List.flatten_cons,ih,List.replicate_succ];rfl
  rw [e]
theorem isn_no {mh:MH}{P:D→MH→Prop}(h:P (.bl false) mh):wV (isD true .non .non mh) P:=⟨_,_,rfl,h⟩
local macro_rules | `(tactic| walk_at "x4") => `(tactic| repeat (first | walk_at "s" | with_reducible refine and_len (by simp) ?_ | with_reducible refine wV_fdiv (by decide) (by decide) ?_ | with_reducible refine wV_mod (by decide) ?_))
theorem run_tail (k R n:Nat) (hn:n≤57) (ns:List Int) (x:D) (kk cl cc:D) (mh:MH) (t:Th mh (n+1) x) {Q:Fl→DL.Loc→MH→Prop}(h:∀ h',Q .nx [some (.rol (ns.map D.int)),some (.int R),some (prog R),some kk,some cl,some cc,some x] h') :
    wS (ifS (dNotT (truM (calM (runF (Gk (k+2 * n+7)) fuel f44) (dCons (vr 6) (dCons (vr 1) (DM.ret []))))))
  (seqS (ifS (dOrT (dNotT (truM (calM (runB (Gk (k+2 * n+7)) (Ek (k+2 * n+7)) td0 fuel f45) (dCons (vr 2) (dCons (vr 6) (DM.ret [])))))) (dNotT (truM (calM (runB (Gk (k+2 * n+7)) (Ek (k+2 * n+7)) td0 fuel f45) (dCons (vr 2) (dCons (vr 6) (DM.ret [])))))))
   (seqS (retS (DM.ret (.bl false)))
    SM.nxt)
   SM.nxt)
   SM.nxt)
  (seqS (ifS (boolD (dop (isD true) (calM (runF (Gk (k+2 * n+7)) fuel f27) (dCons (vr 2) (dCons (vr 6) (DM.ret [])))) (DM.ret .non)))
   (seqS (retS (DM.ret (.bl false)))
    SM.nxt)
   SM.nxt)
   SM.nxt)) [some (.rol (ns.map D.int)),some (.int R),some (prog R),some kk,some cl,some cc,some x] mh Q:=by
  walk_at "x4"
  have lc:=@run_lclaim R n (k+n+2) x mh t hn;rw [show k+n+2+n+5=k+2 * n+7 by omega] at lc;refine lc fun m1 x1=>⟨_,rfl,?_⟩
  cases c:clB R n x with
  | false =>
    walk_at "x4"
    refine run_refused R n k x m1 (t.ext x1) c fun m2 x2=>?_
    walk_at "x4"
    refine run_refused R n k x m2 (t.ext (x1.trans x2)) c fun m3 x3=>?_
    walk_at "x4"
    exact h m3
  | true =>
    walk_at "x4"
    have lo:=fun {P}=>@look_ok R n (k+1) x m1 (t.ext x1) c P
    rw [show k+1+2 * n+6=k+2 * n+7 by omega] at lo;refine lo ?_
    walk_at "x4"
    refine isn_no ?_
    walk_at "x4"
    exact h m1
theorem sl2 {w a:D}{r:List D}{mh:MH}{P:D→MH→Prop}(h:P (.tup r) mh):wV (slD (.tup (w::a::r)) (some 2) none mh) P:=by
 refine ⟨.tup r,mh,?_,h⟩;have e1:HT.sIx (w::a::r).length 0 (some 2)=2:=by
  have:=HT.sIx_nat (n:=(w::a::r).length) (d:=0) (k:=2);rw [show ((2:Nat):Int)=2 from rfl] at this;rw [this,List.length_cons,List.length_cons];omega
 have e2:HT.sIx (w::a::r).length (w::a::r).length none=(w::a::r).length:=rfl;show (if HT.sIx (w::a::r).length 0 (some 2)=0∧HT.sIx (w::a::r).length (w::a::r).length none=(w::a::r).length then some (D.tup (w::a::r),mh) else some (D.tup (DL.cutD (w::a::r) (some 2) none),mh))=_;rw [e1,if_neg (by omega)];unfold DL.cutD;rw [e1,e2];simp
theorem main:∀ ns:List Int,ns.length≤63→∃ mh',runF (Gk depth) fuel f46 [.rol (ns.map D.int)] []=some (.bl true,mh'):=by
  intro ns hns
  suffices hw:wV (runF (Gk (65+1)) fuel f46 [.rol (ns.map D.int)] []) fun d _=>d=.bl true by
    obtain ⟨d,h,e,rfl⟩:=hw;exact ⟨h,e⟩
  refine wV_run (b46_eq 65) lenP46 lenN46 rfl ?_;show wS (b46 65) [some (.rol (ns.map D.int)),none,none,none,none,none,none] [] _;unfold b46
  walk_at "x4"
  refine run_cell 64 ns 0 [] fun c0=>?_
  walk_at "x4"
  obtain ⟨r0,hr0,er0⟩:=fm_nat c0 3 (by decide);have er0:c0.fmod 3=(r0:Int):=er0;rw [er0,show (1:Int)+(r0:Int)=((r0+1:Nat):Int) by omega]
  walk_at "x4"
  refine wV_mulE (by omega) (by omega) ?_
  walk_at "x4"
  show wS _ [some (.rol (ns.map D.int)),some (.int ((r0+1:Nat):Int)),some (prog (r0+1)),none,none,none,none] [] _;refine wS_for ?_
  walk_at "x4"
  refine wV_len (by intro z z';cases z') rfl ?_
  walk_at "x4"
  rw [List.length_map];refine wV_of (d:=.int (minI 61 [(ns.length:Int)])) (h:=[]) rfl ?_
  walk_at "x4"
  refine wV_of (d:=.int (maxI 3 [minI 61 [(ns.length:Int)]])) (h:=[]) rfl ?_
  walk_at "x4"
  generalize hM:maxI 3 [minI 61 [(ns.length:Int)]]=M;have bM:3≤M∧M≤61:=by
    rw [minI2,maxI2] at hM;subst hM;split <;> split <;> omega
  have eRg:rng3 [.int 1,.int M,.int 2]=some (.seq (rangeS 1 2 (rngN 1 M 2))):=by
    show (if (0 < (2:Int)∧(2:Int) < 1000)∧(-1000000≤(1:Int)∧(1:Int)≤1000000)∧(-1000000≤M∧M≤1000000) then some (Src.seq (rangeS 1 2 (rngN 1 M 2))) else none)=_;rw [if_pos ⟨⟨by decide,by decide⟩,⟨by decide,by decide⟩,by omega,by omega⟩]
  generalize hR:r0+1=R;have hR1:1≤R:=by omega
  refine ⟨_,eRg,rangeS 1 2 (rngN 1 M 2),fun _ l _=>∃ x3 x4 x5 x6,l=[some (.rol (ns.map D.int)),some (.int (R:Int)),some (prog R),x3,x4,x5,x6],⟨_,_,_,_,rfl⟩,fun _ _ _ _=>⟨rfl,rfl⟩,?_,?_⟩
  · rintro i d l m0 ed ⟨x3,x4,x5,x6,rfl⟩;obtain ⟨i',_,rfl⟩:=List.mem_map.mp (List.mem_of_getElem? ed);have ei:(1:Int)+(i':Int) * 2=((1+i' * 2:Nat):Int):=by omega
    have ei1:((1+i' * 2:Nat):Int)+1=((1+i' * 2+1:Nat):Int):=by omega
    rw [ei]
    walk_at "x4"
    refine run_cell 64 ns _ m0 fun c1=>?_
    walk_at "x4"
    refine run_lcl 58 R hR1 c1 m0 fun w ts m1 cl x1=>?_
    obtain ⟨cw,ct⟩:=cl;obtain ⟨g5,p5⟩:=cl_good (n:=5) cw fun t ht=>⟨(ct t ht).1,by have:=(ct t ht).2;omega⟩
    walk_at "x4"
    refine look_ok R 5 49 _ m1 (p5.th) g5 ?_
    walk_at "x4"
    refine isn_no ?_
    walk_at "x4"
    rw [ei1];refine run_cell 64 ns _ m1 fun c2=>?_
    obtain ⟨t1,tr,ets⟩:∃ t1 tr,ts=t1::tr:=by
      cases ts with
      | nil=>rcases cw with ⟨_,z⟩ | ⟨_,z⟩ <;> cases z
      | cons a b=>exact ⟨a,b,rfl⟩
    subst ets;have o1:=ct t1 List.mem_cons_self;obtain ⟨r,hr,er⟩:=fm_nat c2 23 (by decide);have er:c2.fmod 23=(r:Int):=er;obtain ⟨q8,hq8,eq8⟩:=fm_nat (c2.fdiv 2) 8 (by decide);have eq8:(c2.fdiv 2).fmod 8=(q8:Int):=eq8;have ecl:clD w (t1::tr)=.tup (.str w::ttD t1::tr.map ttD):=rfl;rw [ecl]
    walk_at "x4"
    refine wV_ix0 ?_
    walk_at "x4"
    refine wV_ix1 ?_
    walk_at "x4"
    rw [er];refine run_turned 64 R t1 o1.1 r (by omega) m1 fun t' ok' dp'=>?_
    walk_at "x4"
    refine sl2 ?_
    refine wV_addT (by rw [List.length_map];have:tr.length≤1:=by rcases cw with ⟨_,z⟩ | ⟨_,z⟩ <;> (rw [List.length_cons] at z;omega)
                       simp;omega) ?_
    walk_at "x4"
    obtain ⟨g27,p27⟩:=cl_good (R:=R) (n:=27) (w:=w) (ts:=t'::tr) (by simpa using cw) (by
      intro t ht;rcases List.mem_cons.mp ht with rfl | ht
      · exact ⟨ok',by omega⟩
      · exact ⟨(ct t (List.mem_cons_of_mem _ ht)).1,by have:=(ct t (List.mem_cons_of_mem _ ht)).2;omega⟩)
    refine look_ok R 27 5 _ m1 p27.th g27 ?_
    walk_at "x4"
    refine isn_no ?_
    walk_at "x4"
    refine wV_ix1 ?_
    walk_at "x4"
    refine wV_ix1 ?_
    walk_at "x4"
    rw [eq8];refine wV_ixAny at_new (by simpa using hq8) fun x hx=>?_
    have pt1:Pf 5 (ttD t1):=(tt_ok R t1 o1.1 5 (by have:=o1.2;omega)).2;rw [ecl] at p5;generalize hcl:D.tup (.str w::ttD t1::tr.map ttD)=cl at p5 hx
    generalize hm4:m1++[MO.lst []]++[MO.lst [D.str "never",ttD t1]]++[MO.lst [D.non,D.int 7,D.str "never",D.ref m1.length,D.tup [],D.ref (m1++[MO.lst []]).length,D.tup [cl],ttD t1]]=m4;have tx:Th m4 7 x:=by
      simp only [List.mem_cons,List.mem_nil_iff,or_false] at hx;rcases hx with rfl | rfl | rfl | rfl | rfl | rfl | rfl | rfl
      · exact th_non _ _
      · exact th_int _ _ _
      · exact th_str _ _ (by kernel_rfl)
      · unfold Th;refine ⟨[],?_,fun x hx=>absurd hx (by simp)⟩;rw [← hm4];exact (Ext.more.trans Ext.more).old (W:=[]) _ _ (by simp) at_new
      · exact th_tup fun x hx=>absurd hx (by simp)
      · unfold Th
        refine ⟨[.str "never",ttD t1],?_,fun x hx=>?_⟩
        · rw [← hm4];exact Ext.more.old (W:=[]) _ _ (by simp) at_new
        · simp only [List.mem_cons,List.mem_nil_iff,or_false] at hx;rcases hx with rfl | rfl
          · exact th_str _ _ (by kernel_rfl)
          · exact pt1.th.le (by decide)
      · exact th_tup fun x hx=>by rw [List.mem_singleton.mp hx];exact p5.th
      · exact pt1.th.le (by decide)
    refine wG_set (seqK_nx (wS_seq (wS_if ?_)))
    walk_at "x4"
    refine when_of (fun e=>?_) fun e=>?_
    · walk_at "x4"
      refine wV_pow (by decide) (by decide) (by decide) ?_
      walk_at "x4"
      refine run_draws 63 _ 8 (by decide) 1000000 (by decide) (by decide) m4 fun vs jd m5 hl hv hj x5 g5'=>?_
      walk_at "x4"
      refine run_spoiled 6 57 6 cl p5 (by decide) jd vs m5 g5' (by omega) (by omega) fun x' m6 x6 tx'=>?_
      refine wG_set (seqK_nx (wS_nxt (seqK_nx (wS_seq ?_))));exact run_tail 46 R 6 (by decide) ns x' _ _ _ m6 tx' fun h'=>seqK_nx (wS_nxt ⟨_,_,_,_,rfl⟩)
    · refine wS_nxt (seqK_nx (wS_seq ?_));exact run_tail 46 R 6 (by decide) ns x _ _ _ m4 tx fun h'=>seqK_nx (wS_nxt ⟨_,_,_,_,rfl⟩)
  · rintro l h ⟨x3,x4,x5,x6,rfl⟩
    walk_at "x4"
    rfl
end Lw
open PySem PySem.W PyProof.Rows
def PySem.W.Fast.tw5179528061036483112 : Unit := ()
def PySem.W.Fast.tw15275740925267783826 : Unit := ()
def PySem.W.Fast.tw17718324712301733652 : Unit := ()
def PySem.W.Fast.tw10465122079285503662 : Unit := ()
def PySem.W.Fast.tw1165546630519122526 : Unit := ()
def PySem.W.Fast.tw17265019490958134254 : Unit := ()
def PySem.W.Fast.tw4888011627481725177 : Unit := ()
def PySem.W.Fast.tw2514354599567211641 : Unit := ()
def PySem.W.Fast.tw4480911778702346081 : Unit := ()
def PySem.W.Fast.tw15002557404384475664 : Unit := ()
def PySem.W.Fast.tw13008513807000726816 : Unit := ()
def PySem.W.Fast.tw1662716221819257788 : Unit := ()
def PySem.W.Fast.tw16733420536248905642 : Unit := ()
def PySem.W.Fast.tw2145683550764574153 : Unit := ()
def PySem.W.Fast.tw17512389011244328080 : Unit := ()
def PySem.W.Fast.tw9178747032073256675 : Unit := ()
def PySem.W.Fast.tw9054036318128509669 : Unit := ()
def PySem.W.Fast.tw9545846938406790219 : Unit := ()
def PySem.W.Fast.tw6505577400735252312 : Unit := ()
def PySem.W.Fast.tw1034542481081372746 : Unit := ()
def PySem.W.Fast.tw6022130939750550492 : Unit := ()
def PySem.W.Fast.tw6931985177451517475 : Unit := ()
def PySem.W.Fast.tw16995628620018261522 : Unit := ()
def PySem.W.Fast.tw4156761467176982682 : Unit := ()
def PySem.W.Fast.tw10546275038698776291 : Unit := ()
def PySem.W.Fast.tw7785373190850841629 : Unit := ()
def PySem.W.Fast.tw4448558532173356819 : Unit := ()
def PySem.W.Fast.tw11544506305533455663 : Unit := ()
def PySem.W.Fast.tw14742103371593230195 : Unit := ()
def PySem.W.Fast.tw7881044632058963577 : Unit := ()
def PySem.W.Fast.tw1278467161371968003 : Unit := ()
def PySem.W.Fast.tw12963905716293808483 : Unit := ()
def PySem.W.Fast.tw13735753855612131702 : Unit := ()
def PySem.W.Fast.tw9913029020859804305 : Unit := ()
def PySem.W.Fast.tw6579383438551316819 : Unit := ()
def PySem.W.Fast.tw9014588132575104583 : Unit := ()
def PySem.W.Fast.tw4189828559887749636 : Unit := ()
def PySem.W.Fast.tw11420781365049300376 : Unit := ()
def PySem.W.Fast.tw8417442255887626046 : Unit := ()
def PySem.W.Fast.tw2364374122296453984 : Unit := ()
def PySem.W.Fast.tw18346225117794010332 : Unit := ()
def PySem.W.Fast.tw17385712803114392265 : Unit := ()
def PySem.W.Fast.tw10266032167127638951 : Unit := ()
def PySem.W.Fast.tw3091847818260298430 : Unit := ()
def PySem.W.Fast.tw5828185168004583540 : Unit := ()
def PySem.W.Fast.tw3942240825450087778 : Unit := ()
def PySem.W.Fast.tw15862927963488476765 : Unit := ()
def PySem.W.Fast.tw8095138919657250449 : Unit := ()
def PySem.W.Fast.tw1879005538137103922 : Unit := ()
def PySem.W.Fast.tw8072740638319922482 : Unit := ()
def PySem.W.Fast.tw12295876244350696244 : Unit := ()
def PySem.W.Fast.tw7524514201380425783 : Unit := ()
def PySem.W.Fast.tw9028565944676506448 : Unit := ()
def PySem.W.Fast.tw10601176496613316985 : Unit := ()
def PySem.W.Fast.tw13266593097706767597 : Unit := ()
def PySem.W.Fast.tw3587636656573489460 : Unit := ()
def PySem.W.Fast.tw16812937144715128899 : Unit := ()
def PySem.W.Fast.tw8287528740883125899 : Unit := ()
def PySem.W.Fast.tw16975447036109078836 : Unit := ()
def PySem.W.Fast.tw2913038618250127029 : Unit := ()
def PySem.W.Fast.tw1771893586321081243 : Unit := ()
def PySem.W.Fast.tw6924242758538735618 : Unit := ()
def PySem.W.Fast.tw2008387586842246710 : Unit := ()
def PySem.W.Fast.tw5913153612618396205 : Unit := ()
def PySem.W.Fast.tw607578037448745102 : Unit := ()
def PySem.W.Fast.tw15257909935188912432 : Unit := ()
def PySem.W.Fast.tw15226450177217774897 : Unit := ()
def PySem.W.Fast.tw1512637720675993753 : Unit := ()
def PySem.W.Fast.tw4682059747204301414 : Unit := ()
def PySem.W.Fast.tw12113825311412120292 : Unit := ()
def PySem.W.Fast.tw11256657008574566223 : Unit := ()
def PySem.W.Fast.tw5537729596762233918 : Unit := ()
def PySem.W.Fast.tw15804357677742630843 : Unit := ()
def PySem.W.Fast.tw15972011501928904293 : Unit := ()
def PySem.W.Fast.tw17763880925354397461 : Unit := ()
def PySem.W.Fast.tw707642700110444071 : Unit := ()
def PySem.W.Fast.tw7031867363104921873 : Unit := ()
def PySem.W.Fast.tw14933656979454833709 : Unit := ()
def PySem.W.Fast.tw9150546424103839420 : Unit := ()
def PySem.W.Fast.tw4001814417425960501 : Unit := ()
def PySem.W.Fast.tw5484852526450353854 : Unit := ()
def PySem.W.Fast.tw10297568526559839763 : Unit := ()
def PySem.W.Fast.tw17291098197290838397 : Unit := ()
def PySem.W.Fast.tw7709645914380219196 : Unit := ()
def PySem.W.Fast.tw15057585606130507420 : Unit := ()
def PySem.W.Fast.tw9941224158624803883 : Unit := ()
def PySem.W.Fast.tw4840813650809827050 : Unit := ()
def PySem.W.Fast.tw17924450064759811684 : Unit := ()
def PySem.W.Fast.tw17282102988849043323 : Unit := ()
def PySem.W.Fast.tw17815484644020195686 : Unit := ()
def PySem.W.Fast.tw13299670900609839410 : Unit := ()
def PySem.W.Fast.tw18289633536541457039 : Unit := ()
set_option maxRecDepth 100000 in
set_option maxHeartbeats 0 in
theorem PySem.Challenge.cw_letterall_k45_claims_looked_over_holds : PySem.Challenge.rw_letterall_k45_claims_looked_over.Holds := by
 w_on; o_law; z_head; (case hw => w_witness2)
 k_fill
 refine DL.walkX_of (fun _ => by kernel_rfl) (DL.walkE (l := PySem.Challenge.rw_letterall_k45_claims_looked_over) (Tt := Lw.Tt) (xcl := Lw.xcl) (tds := Lw.tds) (I := Lw.f46) (x := "_law_script") Lw.depth rfl rfl (fun w h Y => Y) ⟨rfl, by decide, by decide⟩ (by kernel_rfl) (by decide +kernel) ?T Lw.main)
 case T =>
  intro w mg h KX G;refine' ⟨Lw.tbok KX G ?a1 ?l1 ?c1 ?k1 ?a2 ?l2 ?c2 ?k2 ?a4 ?l4 ?c4 ?k4 ?a22 ?l22 ?c22 ?k22 ?a23 ?l23 ?c23 ?k23 ?a24 ?l24 ?c24 ?k24 ?a25 ?l25 ?c25 ?k25 ?a27 ?l27 ?c27 ?k27 ?a29 ?l29 ?c29 ?k29 ?a30 ?l30 ?c30 ?k30 ?a31 ?l31 ?c31 ?k31 ?a32 ?l32 ?c32 ?k32 ?a33 ?l33 ?c33 ?k33 ?a34 ?l34 ?c34 ?k34 ?a35 ?l35 ?c35 ?k35 ?a36 ?l36 ?c36 ?k36 ?a37 ?l37 ?c37 ?k37 ?a38 ?l38 ?c38 ?k38 ?a39 ?l39 ?c39 ?k39 ?a40 ?l40 ?c40 ?k40 ?a41 ?l41 ?c41 ?k41 ?a42 ?l42 ?c42 ?k42 ?a43 ?l43 ?c43 ?k43 ?a44 ?l44 ?c44 ?k44 ?a45 ?l45 ?c45 ?k45 ?a46 ?l46 ?c46 ?k46 ?z0 ?z1 ?z2 ?z3 ?z4 ?z5 ?z6 ?z7 ?z8 ?z9 ?z10 ?z11 ?z12 ?z13 ?z14 ?z15 ?z16 ?z17 ?n0 ?qd0 ?qe0 ?qg0 ?qh0 ?qr0 ?qd1 ?qe1 ?qg1 ?qh1 ?qr1 ?qd2 ?qe2 ?qg2 ?qh2 ?qr2 ?qd3 ?qe3 ?qg3 ?qh3 ?qr3, Lw.xcok KX G ?qxa0 ?qxb0, Lw.tdok (Lw.suok KX G ?qsa ?qsb ?qsc ?qsd ?qse ?qsf ?qsi ?qsg0 ?qsh0 ?qsg1 ?qsh1 ?qsg2 ?qsh2 ?qsg3 ?qsh3 ?qsg4 ?qsh4 ?qsg5 ?qsh5 ?qsg6 ?qsh6 ?qsg7 ?qsh7 ?qsg8 ?qsh8 ?qsg9 ?qsh9)⟩
  (case a1 | l1 | c1 | k1 | a2 | l2 | c2 | k2 | a4 | l4 | c4 | k4 | a22 | l22 | c22 | k22 | a23 | l23 | c23 | k23 | a24 | l24 | c24 | k24 | a25 | l25 | c25 | k25 | a27 | l27 | c27 | k27 | a29 | l29 | c29 | k29 | a30 | l30 | c30 | k30 | a31 | l31 | c31 | k31 | a32 | l32 | c32 | k32 | a33 | l33 | c33 | k33 | a34 | l34 | c34 | k34 | a35 | l35 | c35 | k35 | a36 | l36 | c36 | k36 | a37 | l37 | c37 | k37 | a38 | l38 | c38 | k38 | a39 | l39 | c39 | k39 | a40 | l40 | c40 | k40 | a41 | l41 | c41 | k41 | a42 | l42 | c42 | k42 | a43 | l43 | c43 | k43 | a44 | l44 | c44 | k44 | a45 | l45 | c45 | k45 | a46 | l46 | c46 | k46 | z0 | z1 | z2 | z3 | z4 | z5 | z6 | z7 | z8 | z9 | z10 | z11 | z12 | z13 | z14 | z15 | z16 | z17 | n0 | qd0 | qe0 => k_is)
  (case qg0 => kernel_rfl)
  (case qh0 => kernel_rfl)
  (case qr0 => kernel_rfl)
  (case qd1 | qe1 => k_is)
  (case qg1 => kernel_rfl)
  (case qh1 => kernel_rfl)
  (case qr1 => kernel_rfl)
  (case qd2 | qe2 => k_is)
  (case qg2 => kernel_rfl)
  (case qh2 => kernel_rfl)
  (case qr2 => kernel_rfl)
  (case qd3 | qe3 => k_is)
  (case qg3 => kernel_rfl)
  (case qh3 => kernel_rfl)
  (case qr3 => kernel_rfl)
  (case qxa0 => k_is)
  (case qxb0 => kernel_rfl)
  (case qsa => k_is)
  (case qsb => kernel_rfl)
  (case qsc => k_is)
  (case qsd => kernel_rfl)
  (case qse => kernel_rfl)
  (case qsf => kernel_rfl)
  (case qsi | qsg0 => k_is)
  (case qsh0 => kernel_rfl)
  (case qsg1 => k_is)
  (case qsh1 => kernel_rfl)
  (case qsg2 => k_is)
  (case qsh2 => kernel_rfl)
  (case qsg3 => k_is)
  (case qsh3 => kernel_rfl)
  (case qsg4 => k_is)
  (case qsh4 => kernel_rfl)
  (case qsg5 => k_is)
  (case qsh5 => kernel_rfl)
  (case qsg6 => k_is)
  (case qsh6 => kernel_rfl)
  (case qsg7 => k_is)
  (case qsh7 => kernel_rfl)
  (case qsg8 => k_is)
  (case qsh8 => kernel_rfl)
  (case qsg9 => k_is)
  (case qsh9 => kernel_rfl)
#print axioms PySem.Challenge.cw_letterall_k45_claims_looked_over_holds
