import PyProof.Rows.All
import Wide.All
import OpenK.AllK
import Wide.FinOn
import Lean
import PyProof.EqAt
import PyProof.EqKinds
import PyProof.TupleCall
import KE.BitLaws
import PySem.Challenge.RW_letterall_k78_knots
set_option bootstrap.genMatcherCode false
set_option compiler.extract_closed false
noncomputable section
set_option Elab.async false
set_option linter.all false
set_option maxRecDepth 100000
set_option maxHeartbeats 8000000
namespace L2
open PySem PySem.Spec PyProof.Rows
mutual
noncomputable def kCl:PyData->Bool
 | .int _=>true
 | .str _=>true
 | .tuple xs=>Cp xs
 | _=>false
noncomputable def Cp:List PyData->Bool
 | []=>true
 | x::r=>kCl x&&Cp r
end
mutual
noncomputable def N6 (w:World):PyData->Int
 | .int i=>hashInt i
 | .str x=>hashStr w x
 | .tuple xs=>reduceHash (Builtin.Tuple.tupleHashOf (Ie w xs))
 | _=>0
noncomputable def Ie (w:World):List PyData->List Int
 | []=>[]
 | x::r=>N6 w x::Ie w r
end
mutual
noncomputable def kDr:PyData->Nat
 | .tuple xs=>aM xs+1
 | _=>1
noncomputable def aM:List PyData->Nat
 | []=>0
 | x::r=>kDr x+aM r
end
section
variable {prog:Program}{w:World}{E:Value->Shared->Prop}
mutual
theorem W3:∀ (k:PyData) (v:Value) (as:List Addr) (A:Around) (s:Shared) (Q:Int->Shared->Prop),kCl k=true->Reads s.heap v k as->A.units+k.depth < cLine->Q (N6 w k) { s with toks:=s.toks+kDr k }->wpAny (model prog w) A (pyHash v) Q E s
 | .int i,_,_,A,s,Q,_,r,_,h=>by cases r;exact wpAny_pyHash_int (by simpa [N6,kDr] using h)
 | .str x,_,_,A,s,Q,_,r,_,h=>by cases r;exact wpAny_pyHash_str (by simpa [N6,kDr] using h)
 | .tuple xs,_,as,A,s,Q,hk,r,hu,h=>by
  cases r with
  | @tuple a o vs n _ _ e c d ra =>
   have hk:Cp xs=true:=by simpa [kCl] using hk
   simp only [PyData.depth] at hu
   refine PySem.W.pyHash_slot (T := "tuple") ⟨_,e,c⟩ F.slot_tuple_hash F.entry_tuple_hash (F.args_tuple_hash_1 _) (beq_builtin_none _) (.inr (by omega)) ?_;show wpAny _ _ (Builtin.Tuple.tupleItemsOf (.ref a) >>= _) _ _ s;refine wpAny_bind (wpAny_tupleItemsOf e d ?_);refine wpAny_bind ?_;rw [← Array.forIn_toList];refine W4 xs vs.toList as A.in1 s #[] _ hk ra (by simp only [Around.in1_units];omega) fun b hb=>?_
   show wpAny _ _ (retInt (Builtin.Tuple.tupleHashOf b.toList)) _ _ _;rw [hb];refine wpAny_bind (wpAny_mkInt (wpAny_pure ⟨_,_,rfl,?_⟩))
   simpa [N6,kDr,Nat.add_assoc] using h
 | .none,_,_,_,_,_,hk,_,_,_ | .bool _,_,_,_,_,_,hk,_,_,_ | .list _,_,_,_,_,_,hk,_,_,_ | .dict _,_,_,_,_,_,hk,_,_,_=>by simp [kCl] at hk
theorem W4:∀ (xs:List PyData) (vs:List Value) (as:List Addr) (A:Around) (s:Shared) (b:Array Int) (Q:Array Int->Shared->Prop),Cp xs=true->ReadsAll s.heap vs xs as->A.units+PyData.depthAll xs < cLine ->
  (∀ b':Array Int,b'.toList=b.toList++Ie w xs->Q b' { s with toks:=s.toks+aM xs }) ->
  wpAny (model prog w) A (forIn vs b fun x r=>do let h ← pyHash x;pure PUnit.unit;pure (ForInStep.yield (r.push h))) Q E s
 | [],_,_,A,s,b,Q,_,r,_,h=>by cases r;exact wpAny_pure (by simpa [aM] using h b (by simp [Ie]))
 | x::xs,_,_,A,s,b,Q,hk,r,hu,h=>by
  cases r with
  | @cons v vs _ _ as bs r1 r2 =>
   have hk:(kCl x&&Cp xs)=true:=by simpa [Cp] using hk
   rw [Bool.and_eq_true] at hk;simp only [PyData.depthAll] at hu;rw [List.forIn_cons];refine wpAny_bind (wpAny_bind (W3 x _ _ A s _ hk.1 r1 (by omega) ?_));refine wpAny_bind (wpAny_pure (wpAny_pure ?_));refine W4 xs vs bs A { s with toks:=s.toks+kDr x } _ Q hk.2 r2 (by omega) fun b' hb=>?_
   have:=h b' (by rw [hb];simp [Ie])
   simpa [aM,Nat.add_assoc] using this
end
end
mutual
theorem aN {h:Heap}:∀ (x y:PyData) (v:Value) (as bs:List Addr),kCl x=true->kCl y=true->Reads h v x as->Reads h v y bs->x=y
 | .int _,_,_,_,_,_,_,r,q=>by cases r;cases q;rfl
 | .str _,_,_,_,_,_,_,r,q=>by cases r;cases q;rfl
 | .tuple xs,y,_,_,_,c1,c2,r,q=>by
  cases r with
  | @tuple a o vs n _ as e c d ra =>
   cases q with
   | @tuple _ _ _ _ ys _ e' c' d' ra' =>
    rw [e] at e';cases e';rw [d] at d';cases d';have c1:Cp xs=true:=by simpa [kCl] using c1
    rw [W5 xs ys _ _ _ c1 (by simpa [kCl] using c2) ra ra']
   | list e' c' d' ra'=>rw [e] at e';cases e';rw [c] at c';exact absurd c' (by decide)
   | dict e' c' d' ra' rb'=>rw [e] at e';cases e';rw [c] at c';exact absurd c' (by decide)
 | .none,_,_,_,_,hk,_,_,_ | .bool _,_,_,_,_,hk,_,_,_ | .list _,_,_,_,_,hk,_,_,_ | .dict _,_,_,_,_,hk,_,_,_=>by simp [kCl] at hk
theorem W5 {h:Heap}:∀ (xs ys:List PyData) (vs:List Value) (as bs:List Addr),Cp xs=true->Cp ys=true->ReadsAll h vs xs as->ReadsAll h vs ys bs->xs=ys
 | [],_,_,_,_,_,_,r,q=>by cases r;cases q;rfl
 | x::xs,_,_,_,_,c1,c2,r,q=>by
  cases r with
  | cons r1 r2=>cases q with
   | @cons _ _ y ys _ _ q1 q2 =>
    have c1:(kCl x&&Cp xs)=true:=by simpa [Cp] using c1
    have c2:(kCl y&&Cp ys)=true:=by simpa [Cp] using c2
    rw [Bool.and_eq_true] at c1 c2;rw [aN x y _ _ _ c1.1 c2.1 r1 q1,W5 xs ys _ _ _ c1.2 c2.2 r2 q2]
end
mutual
theorem Rz {h h':Heap}{d:Addr}{o:Obj}{es ep}(hd:h.get? d=some o) (od:o.data=.dict es ep) (sb:Heap.SameBut d h h'):∀ (x:PyData) (v:Value) (as:List Addr),kCl x=true->Reads h v x as->Reads h' v x as
 | .int _,_,_,_,r=>by cases r;exact .int _ _
 | .str _,_,_,_,r=>by cases r;exact .str _ _
 | .tuple xs,_,_,c1,r=>by
  cases r with
  | @tuple a o' vs n _ as e c q ra =>
   have ne:a≠d:=fun z=>by
    rw [z,hd] at e;cases e;rw [od] at q;cases q
   exact .tuple ((sb.2 a ne).trans e) c q (N7 hd od sb xs _ _ (by simpa [kCl] using c1) ra)
 | .none,_,_,hk,_ | .bool _,_,_,hk,_ | .list _,_,_,hk,_ | .dict _,_,_,hk,_=>by simp [kCl] at hk
theorem N7 {h h':Heap}{d:Addr}{o:Obj}{es ep}(hd:h.get? d=some o) (od:o.data=.dict es ep) (sb:Heap.SameBut d h h'):∀ (xs:List PyData) (vs:List Value) (as:List Addr),Cp xs=true->ReadsAll h vs xs as->ReadsAll h' vs xs as
 | [],_,_,_,r=>by cases r;exact .nil
 | x::xs,_,_,c1,r=>by
  have c1:(kCl x&&Cp xs)=true:=by simpa [Cp] using c1
  rw [Bool.and_eq_true] at c1;cases r with
  | cons r1 r2=>exact .cons (Rz hd od sb x _ _ c1.1 r1) (N7 hd od sb xs _ _ c1.2 r2)
end
mutual
theorem aO:∀ (x y:PyData),kCl x=true->kCl y=true->PyData.eqv x y=true->x=y
 | .int _,y,_,c2,e=>by
  cases y <;> first | (simp [kCl] at c2;done) | (simp [PyData.eqv] at e;done) | (simp [PyData.eqv] at e;rw [e])
 | .str _,y,_,c2,e=>by
  cases y <;> first | (simp [kCl] at c2;done) | (simp [PyData.eqv] at e;done) | (simp [PyData.eqv] at e;rw [e])
 | .tuple xs,.tuple ys,c1,c2,e=>by
  rw [W6 xs ys (by simpa [kCl] using c1) (by simpa [kCl] using c2) (by simpa [PyData.eqv] using e)]
 | .tuple xs,.int _,_,_,e=>by simp [PyData.eqv] at e
 | .tuple xs,.str _,_,_,e=>by simp [PyData.eqv] at e
 | .tuple xs,.none,_,c2,_ | .tuple xs,.bool _,_,c2,_ | .tuple xs,.list _,_,c2,_ | .tuple xs,.dict _,_,c2,_=>by simp [kCl] at c2
 | .none,_,hk,_,_ | .bool _,_,hk,_,_ | .list _,_,hk,_,_ | .dict _,_,hk,_,_=>by simp [kCl] at hk
theorem W6:∀ (xs ys:List PyData),Cp xs=true->Cp ys=true->PyData.eqvAll xs ys=true->xs=ys
 | [],[],_,_,_=>rfl
 | [],_::_,_,_,e=>by simp [PyData.eqvAll] at e
 | _::_,[],_,_,e=>by simp [PyData.eqvAll] at e
 | x::xs,y::ys,c1,c2,e=>by
  have c1:(kCl x&&Cp xs)=true:=by simpa [Cp] using c1
  have c2:(kCl y&&Cp ys)=true:=by simpa [Cp] using c2
  have e:(PyData.eqv x y&&PyData.eqvAll xs ys)=true:=by simpa [PyData.eqvAll] using e
  rw [Bool.and_eq_true] at c1 c2 e;rw [aO x y c1.1 c2.1 e.1,W6 xs ys c1.2 c2.2 e.2]
end
section
variable {prog:Program}{w:World}{E:Value->Shared->Prop}{A:Around}
mutual
theorem R0:∀ (x:PyData) (n:Nat) (v:Value) (as:List Addr) (s:Shared) (Q:Bool->Shared->Prop),kCl x=true->Reads s.heap v x as->x.depth<=n->Q true s->wpAny (model prog w) A (eqIsQuiet n v) Q E s
 | .int _,n,_,_,s,Q,_,r,_,h=>by cases r;rw [eqIsQuiet_byValue n rfl];exact wpAny_pure h
 | .str _,n,_,_,s,Q,_,r,_,h=>by cases r;rw [eqIsQuiet_byValue n rfl];exact wpAny_pure h
 | .tuple xs,0,_,_,s,Q,c1,r,hn,h=>by simp [PyData.depth] at hn
 | .tuple xs,n+1,_,as,s,Q,c1,r,hn,h=>by
  cases r with
  | @tuple a o vs m _ _ e c q ra =>
   have hT:s.TypeIs (.ref a) "tuple":=⟨o,e,c⟩
   have hn:PyData.depthAll xs<=n:=by simpa [PyData.depth] using hn
   unfold eqIsQuiet;refine wpAny_bind (wpAny_specialOf hT F.slot_tuple_eq.lookup ?_)
   show wpAny _ _ (isInstance (.ref a) (.type "tuple") >>= _) _ _ s;refine wpAny_bind (wpAny_isInstance hT isSubtype_tuple_tuple ?_);simp only [Bool.not_true,Bool.false_eq_true,if_false];refine wpAny_bind (wpAny_seqItems e q ?_);refine wpAny_bind ?_;show wpAny _ _ (forIn vs _ _) _ _ s;rw [← Array.forIn_toList];refine N8 xs n vs.toList as s _ (by simpa [kCl] using c1) ra hn ?_;exact wpAny_pure h
 | .none,_,_,_,_,_,hk,_,_,_ | .bool _,_,_,_,_,_,hk,_,_,_ | .list _,_,_,_,_,_,hk,_,_,_ | .dict _,_,_,_,_,_,hk,_,_,_=>by simp [kCl] at hk
theorem N8:∀ (xs:List PyData) (n:Nat) (vs:List Value) (as:List Addr) (s:Shared) (Q:Option Bool×Unit->Shared->Prop),Cp xs=true->ReadsAll s.heap vs xs as->PyData.depthAll xs<=n->Q (none,()) s ->
  wpAny (model prog w) A (forIn vs ((none,()):Option Bool×Unit) fun y r=>do if !(← eqIsQuiet n y) then pure (ForInStep.done (some false,())) else pure (ForInStep.yield (none,()))) Q E s
 | [],_,_,_,s,Q,_,r,_,h=>by cases r;exact wpAny_pure h
 | x::xs,n,_,_,s,Q,c1,r,hn,h=>by
  have c1:(kCl x&&Cp xs)=true:=by simpa [Cp] using c1
  rw [Bool.and_eq_true] at c1;simp only [PyData.depthAll] at hn;cases r with
  | @cons v vs _ _ as bs r1 r2 =>
   rw [List.forIn_cons];refine wpAny_bind (wpAny_bind (R0 x n v _ s _ c1.1 r1 (by omega) ?_));simp only [Bool.not_true,Bool.false_eq_true,if_false];refine wpAny_pure ?_;exact N8 xs n vs bs s Q c1.2 r2 (by omega) h
end
end
noncomputable instance:DecidableEq PyData:=fun a b=>Classical.propDecidable (a=b)
noncomputable def IsK (h:Heap) (k:PyData) (a:Addr):Prop:=kCl k=true/\k.canLay0=true/\k.depth<=8/\∃ as,Reads h (.ref a) k as
noncomputable def Fj (prog:Program) (w:World):HeapKind prog w PyData where
 is:=IsK
 hash:=N6 w
 draws:=kDr
 room:=fun A=>A.units+8 < cLine
 inj:=fun x y=>by
  obtain ⟨c1,_,_,_,r1⟩:=x;obtain ⟨c2,_,_,_,r2⟩:=y;exact aN _ _ _ _ _ c1 c2 r1 r2
 keeps:=fun x ho hd hs=>by
  obtain ⟨c1,l1,d1,as,r1⟩:=x;exact ⟨c1,l1,d1,as,Rz ho hd hs _ _ _ c1 r1⟩
 pyHash:=fun hu x h=>by
  obtain ⟨c1,l1,d1,as,r1⟩:=x;exact W3 _ _ _ _ _ _ c1 r1 (by omega) h
 eqBool:=fun {A E s x y a b Q} hu hx hy h=>by
  obtain ⟨c1,l1,d1,as,r1⟩:=hx;obtain ⟨c2,l2,d2,bs,r2⟩:=hy;refine PySem.SeqAt.eqBoolOverData prog w A E s _ _ x y as bs Q r1 r2 l1 l2 (by omega) ?_;have e:PyData.eqv x y=decide (x=y):=by
   by_cases z:x=y
   ·rw [decide_eq_true z,z];exact SeqAt.eqv_refl y l2
   ·rw [decide_eq_false z];cases q:PyData.eqv x y with
    | false=>rfl
    | true=>exact absurd (aO x y c1 c2 q) z
  rw [e];exact h
 quiet:=fun x h=>by
  obtain ⟨c1,l1,d1,as,r1⟩:=x;exact R0 _ _ _ _ _ _ c1 r1 d1 h
noncomputable abbrev Key:=Sum Int Str
noncomputable def K3:Key->Value->Bool
 | .inl k,v=>Value.isInt k v
 | .inr x,v=>Value.isStrOf x v
noncomputable def Aa2 (w:World):Key->Int
 | .inl k=>hashInt k
 | .inr x=>hashStr w x
theorem Bc:∀ {k:Key}{v:Value},K3 k v=true->(∃ i t,k=Sum.inl i/\v=Value.int i t)\/(∃ x t,k=Sum.inr x/\v=Value.str x t)
 | .inl i,v,h=>by
  obtain ⟨t,e⟩:=Value.isInt_shape (k:=i) (v:=v) h;exact .inl ⟨i,t,rfl,e⟩
 | .inr x,v,h=>by
  obtain ⟨t,e⟩:=Value.isStrOf_shape (x:=x) (v:=v) h;exact .inr ⟨x,t,rfl,e⟩
theorem Yx (i:Int) (t:Tok):K3 (.inl i) (.int i t)=true:=by simp [K3,Value.isInt]
theorem Yy (x:Str) (t:Tok):K3 (.inr x) (.str x t)=true:=by simp [K3,Value.isStrOf]
theorem qL (a b:Int):decide ((Sum.inl a:Key)=Sum.inl b)=(a==b):=by
 by_cases e:a=b
 ·subst e;simp
 ·have h:¬ (Sum.inl a:Key)=Sum.inl b:=fun q=>e (Sum.inl.inj q)
  rw [decide_eq_false h];exact (beq_eq_false_iff_ne.mpr e).symm
theorem qM (a b:Str):decide ((Sum.inr a:Key)=Sum.inr b)=decide (a=b):=by
 by_cases e:a=b
 ·subst e;simp
 ·have h:¬ (Sum.inr a:Key)=Sum.inr b:=fun q=>e (Sum.inr.inj q)
  rw [decide_eq_false h,decide_eq_false e]
theorem qN (a:Int) (b:Str):decide ((Sum.inl a:Key)=Sum.inr b)=false:=decide_eq_false (fun q=>nomatch q)
theorem qO (a:Str) (b:Int):decide ((Sum.inr a:Key)=Sum.inl b)=false:=decide_eq_false (fun q=>nomatch q)
noncomputable def Be (prog:Program) (w:World):PySem.KeyKind prog w Key where
 is:=K3
 hash:=Aa2 w
 inj:=fun v a b ha hb=>by
  rcases Bc ha with ⟨i,t,rfl,rfl⟩|⟨x,t,rfl,rfl⟩
  ·rcases Bc hb with ⟨j,u,rfl,e⟩|⟨y,u,rfl,e⟩
   ·injection e with e1 _;rw [e1]
   ·exact nomatch e
  ·rcases Bc hb with ⟨j,u,rfl,e⟩|⟨y,u,rfl,e⟩
   ·exact nomatch e
   ·injection e with e1 _;rw [e1]
 byValue:=fun k v h=>by
  rcases Bc h with ⟨i,t,rfl,rfl⟩ | ⟨x,t,rfl,rfl⟩ <;> rfl
 pyHash:=fun hv h=>by
  rcases Bc hv with ⟨i,t,rfl,rfl⟩|⟨x,t,rfl,rfl⟩
  ·exact wpAny_pyHash_int h
  ·exact wpAny_pyHash_str h
 eqBool:=fun hu hv h=>by
  rcases Bc hu with ⟨i,t,rfl,rfl⟩|⟨x,t,rfl,rfl⟩
  ·rcases Bc hv with ⟨j,u,rfl,rfl⟩|⟨y,u,rfl,rfl⟩
   ·rw [qL] at h;exact wpAny_eqBool_int h
   ·rw [qN] at h;exact SeqAt.EqAt.int_str i t y u _ _ _ _ h
  ·rcases Bc hv with ⟨j,u,rfl,rfl⟩|⟨y,u,rfl,rfl⟩
   ·rw [qO] at h;exact SeqAt.EqAt.str_int x t j u _ _ _ _ h
   ·rw [qM] at h;exact wpAny_eqBool_str h
 «strs»:=fun k x t v h=>by
  rcases Bc h with ⟨i,u,rfl,e⟩|⟨y,u,rfl,e⟩
  ·exact nomatch e
  ·injection e with e1 _
   subst e1;cases v <;> rfl
theorem U0 (prog:Program) (w:World) (k:Key) (v:Value):(Be prog w).is k v=K3 k v:=rfl
theorem R3 (prog:Program) (w:World) (i:Int) (t:Tok):(Be prog w).is (.inl i) (.int i t)=true:=Yx i t
theorem R4 (prog:Program) (w:World) (x:Str) (t:Tok):(Be prog w).is (.inr x) (.str x t)=true:=Yy x t
inductive V where
 | non | bl (b:Bool) | int (i:Int) | str (x:Str) | byt (b:Array UInt8) | flt (b:UInt64) | ref (a:Addr) | ty (n:String)
 deriving DecidableEq
noncomputable def RelV:V->Value->Prop
 | .non,u=>u=Value.none
 | .bl b,u=>u=Value.bool b
 | .int i,u=>∃ t,u=Value.int i t
 | .str x,u=>∃ t,u=Value.str x t
 | .byt b,u=>∃ t,u=Value.bytes b t
 | .flt b,u=>∃ t,u=Value.float b t
 | .ref a,u=>u=Value.ref a
 | .ty n,u=>u=Value.type n
noncomputable abbrev Vals:List V->List Value->Prop:=Paired RelV
theorem Vals.length {xs:List V}{us:List Value}(r:Vals xs us):xs.length=us.length:=Paired.length r
theorem Vals.get:∀ {xs:List V}{us:List Value}{i:Nat}{x:V},Vals xs us->xs[i]?=some x->∃ u,us[i]?=some u/\RelV x u
 | _,_,_,_,.nil,e=>by simp at e
 | _,_,0,_,.cons r _,e=>by simp at e;subst e;exact ⟨_,rfl,r⟩
 | _,_,i+1,x,.cons _ t,e=>by
  obtain ⟨u,h1,h2⟩:=Vals.get (i:=i) (x:=x) t (by simpa using e);exact ⟨u,by simpa using h1,h2⟩
theorem Vals.set {x:V}{u:Value}(r:RelV x u):∀ {xs:List V}{us:List Value}(i:Nat),Vals xs us->Vals (xs.set i x) (us.set i u)
 | _,_,_,.nil=>.nil
 | _,_,0,.cons _ t=>.cons r t
 | _,_,i+1,.cons q t=>.cons q (Vals.set r i t)
theorem Vals.append:∀ {xs ys:List V}{us ws:List Value},Vals xs us->Vals ys ws->Vals (xs++ys) (us++ws)
 | _,_,_,_,.nil,s=>s
 | _,_,_,_,.cons r t,s=>.cons r (Vals.append t s)
theorem Vals.take:∀ {xs:List V}{us:List Value}(n:Nat),Vals xs us->Vals (xs.take n) (us.take n)
 | _,_,0,_=>.nil
 | _,_,_+1,.nil=>.nil
 | _,_,n+1,.cons r t=>.cons r (Vals.take n t)
theorem Vals.drop:∀ {xs:List V}{us:List Value}(n:Nat),Vals xs us->Vals (xs.drop n) (us.drop n)
 | _,_,0,r=>r
 | _,_,_+1,.nil=>.nil
 | _,_,n+1,.cons _ t=>Vals.drop n t
noncomputable def Hq:Option V->Option Value->Prop
 | some v,some u=>RelV v u
 | none,none=>True
 | _,_=>False
noncomputable def KV {κ:Type}:List (κ×V)->List (κ×Value)->Prop:=Paired fun (p:κ×V) (q:κ×Value)=>p.1=q.1/\RelV p.2 q.2
noncomputable def kV:Key->V
 | .inl i=>.int i
 | .inr x=>.str x
inductive HO where
 | lst (xs:List V)
 | tup (xs:List V)
 | dK (kvs:List (Key×V)) | dT (kvs:List (List Key×V)) | dN (kvs:List (PyData×Addr×V))
 | set (S:Int->Bool) (n:Nat)
 | ins (C dx:Addr) (fs:List (Str×V))
 | own (x:Addr)
 | xd (fs:List (Str×V))
 | met (f x:Addr)
 | rng (lo hi:Int)
 | frz (o:Obj) (u:HO)
 | tbl (ps:Array Value)
 | ext (φ:Heap->Prop)
noncomputable abbrev Hp:=Addr->Option HO
noncomputable def upd (H:Hp) (a:Addr) (o:HO):Hp:=fun b=>if b=a then some o else H b
theorem Ak {H:Hp}{a:Addr}{o:HO}:upd H a o a=some o:=by unfold upd;rw [if_pos rfl]
theorem Ab {H:Hp}{a b:Addr}{o:HO}(h:b≠a):upd H a o b=H b:=by unfold upd;rw [if_neg h]
theorem iW {H:Hp}{a:Addr}{o u:HO}:upd (upd H a o) a u=upd H a u:=by
 funext b;unfold upd;split <;> rfl
theorem Gp {H:Hp}{a b:Addr}{o u:HO}(h:H a=some o) (h':H b=some u) (d:o≠u):a≠b:=by
 intro e;subst e;rw [h] at h';exact d (Option.some.inj h')
theorem Aj {H:Hp}{a b:Addr}{o:HO}(h:H a=some o) (h':H b=none):a≠b:=by
 intro e;subst e;rw [h] at h';cases h'
section
variable (P:Program) (w:World)
noncomputable def Pq (h:Heap) (a:Addr) (its:Array Value):Prop:=∃ o,h.get? a=some o/\o.cls=.type "tuple"/\o.dict=none/\∃ n,o.data=.seq its n
theorem Pq.to {h:Heap}{a:Addr}{its:Array Value}(x:Pq h a its):IsTup h a its:=let ⟨o,e,c,_,n,d⟩:=x;⟨o,e,c,n,d⟩
theorem Pq.new (h:Heap) (its:Array Value):Pq (h.push { cls:=.type "tuple",data:=.seq its }) h.objs.size its:=⟨_,Heap.get?_push_size _ rfl,rfl,rfl,_,rfl⟩
noncomputable def Cg (H:Hp) (h:Heap) (a:Addr):HO->Prop
 | .lst xs=>xs.length<=sizeLine/\∃ (its:List Value) (n:Nat),Vals xs its/\h.get? a=some { cls:=.type "list",data:=.seq its.toArray n }
 | .tup xs=>xs.length<=sizeLine/\∃ its:List Value,Vals xs its/\Pq h a its.toArray
 | .dK kvs=>kvs.length<=sizeLine/\(a==sysModules)=false/\∃ vs,KV kvs vs/\h.DictOf (Be P w) a vs
 | .dT kvs=>kvs.length<=sizeLine/\(a==sysModules)=false/\∃ xs:List (List Key×Addr×Value),
   Paired (fun (p:List Key×V) (q:List Key×Addr×Value)=>p.1=q.1/\H q.2.1=some (.tup (p.1.map kV))/\RelV p.2 q.2.2) kvs xs /\
   ∃ o es ep,h.get? a=some o/\o.ExactDict/\o.data=.dict es ep/\es.toList=xs.map (entryOfKey (tupleKind (Be P w)))/\(xs.map (·.1)).Nodup
 | .dN kvs=>kvs.length<=sizeLine/\(a==sysModules)=false/\∃ xs:List (PyData×Addr×Value),
   Paired (fun (p:PyData×Addr×V) (q:PyData×Addr×Value)=>p.1=q.1/\p.2.1=q.2.1/\RelV p.2.2 q.2.2) kvs xs /\
   ∃ o es ep,h.get? a=some o/\o.ExactDict/\o.data=.dict es ep/\es.toList=xs.map (entryOfKey (Fj P w))/\(xs.map (·.1)).Nodup
 | .set S n=>h.SetOf (intKind P w) a S n
 | .ins C dx fs=>H dx=some (.own a)/\fs.length<=1000/\dx≠a/\h.get? a=some (PySem.W.instObj C dx) /\
   ∃ mA,h.Ns1 dx mA/\(∀ f,Hq (fs.lookup f) (mA f))/\PySem.Within mA (fs.map (·.1))
 | .own _=>∃ o,h.get? a=some o
 | .xd fs=>∃ mA,h.Ns1 a mA/\∀ f,Hq (fs.lookup f) (mA f)
 | .rng lo hi=>∃ t u v,h.get? a=some { cls:=.type "range",data:=.fields #[.int lo t,.int hi u,.int 1 v] }
 | .frz o u=>h.get? a=some o/\Cg H h a u
 | .tbl ps=>h.get? a=some { cls:=.none,data:=.fields ps }
 | .met f x=>h.get? a=some (PySem.W.methodObj (.ref f) (.ref x))
 | .ext φ=>φ h/\(∃ o,h.get? a=some o)/\∀ h1 h2:Heap,φ h1->(∀ o,h1.get? a=some o->h2.get? a=some o)->φ h2
noncomputable def HOk (H:Hp) (h:Heap):Prop:=∀ a o,H a=some o->Cg P w H h a o
end
section
variable {P:Program}{w:World}{H H':Hp}{h h':Heap}{a:Addr}{o:HO}
theorem Cg.lt (x:Cg P w H h a o):a < h.objs.size:=by
 cases o with
 | lst xs=>obtain ⟨_,_,_,_,e⟩:=x;exact Heap.lt_size e
 | tup xs=>obtain ⟨_,_,_,p⟩:=x;exact p.to.lt
 | dK kvs=>obtain ⟨_,_,_,_,o,_,_,e,_⟩:=x;exact Heap.lt_size e
 | dT kvs=>obtain ⟨_,_,_,_,o,_,_,e,_⟩:=x;exact Heap.lt_size e
 | dN kvs=>obtain ⟨_,_,_,_,o,_,_,e,_⟩:=x;exact Heap.lt_size e
 | set S n=>obtain ⟨o,_,_,_,e,_⟩:=x;exact Heap.lt_size e
 | ins C dx fs=>obtain ⟨_,_,_,e,_⟩:=x;exact Heap.lt_size e
 | own y=>obtain ⟨_,e⟩:=x;exact Heap.lt_size e
 | xd fs=>obtain ⟨_,⟨_,_,_,e,_⟩,_⟩:=x;exact Heap.lt_size e
 | rng lo hi=>obtain ⟨_,_,_,e⟩:=x;exact Heap.lt_size e
 | frz ob u=>obtain ⟨e,_⟩:=x;exact Heap.lt_size e
 | tbl ps=>exact Heap.lt_size (show h.get? a=some _ from x)
 | met f y=>exact Heap.lt_size (show h.get? a=some _ from x)
 | ext φ=>obtain ⟨_,⟨_,e⟩,_⟩:=x;exact Heap.lt_size e
theorem Paired.mapP {α β:Type}{F G:α->β->Prop}:∀ {l₁:List α}{l₂:List β},Paired F l₁ l₂->(∀ a b,F a b->G a b)->Paired G l₁ l₂
 | _,_,.nil,_=>.nil
 | _,_,.cons r t,f=>.cons (f _ _ r) (Paired.mapP t f)
theorem Cg.stay (x:Cg P w H h a o) (k:∀ b u,(b=a\/H b=some (.own a))->h.get? b=some u->h'.get? b=some u)
  (ho:∀ b,H b=some (.own a)->H' b=some (.own a)) (ht:∀ b xs,H b=some (.tup xs)->H' b=some (.tup xs)):Cg P w H' h' a o:=by
 induction o with
 | lst xs=>obtain ⟨z,its,n,r,e⟩:=x;exact ⟨z,its,n,r,k _ _ (.inl rfl) e⟩
 | tup xs=>obtain ⟨z,its,r,ob,e,c⟩:=x;exact ⟨z,its,r,ob,k _ _ (.inl rfl) e,c⟩
 | dK kvs=>obtain ⟨z,y,vs,r,ob,es,ep,e,c⟩:=x;exact ⟨z,y,vs,r,ob,es,ep,k _ _ (.inl rfl) e,c⟩
 | dT kvs =>
  obtain ⟨z,y,xs,r,ob,es,ep,e,c⟩:=x;exact ⟨z,y,xs,Paired.mapP r fun p q z=>⟨z.1,ht _ _ z.2.1,z.2.2⟩,ob,es,ep,k _ _ (.inl rfl) e,c⟩
 | dN kvs=>obtain ⟨z,y,xs,r,ob,es,ep,e,c⟩:=x;exact ⟨z,y,xs,r,ob,es,ep,k _ _ (.inl rfl) e,c⟩
 | set S n=>obtain ⟨ob,es,ep,t,e,c⟩:=x;exact ⟨ob,es,ep,t,k _ _ (.inl rfl) e,c⟩
 | ins C dx fs =>
  obtain ⟨d,z,ne,e,mA,⟨od,es,ep,e2,c⟩,r⟩:=x;exact ⟨ho _ d,z,ne,k _ _ (.inl rfl) e,mA,⟨od,es,ep,k _ _ (.inr d) e2,c⟩,r⟩
 | own y=>obtain ⟨ob,e⟩:=x;exact ⟨ob,k _ _ (.inl rfl) e⟩
 | xd fs=>obtain ⟨mA,⟨od,es,ep,e,c⟩,r⟩:=x;exact ⟨mA,⟨od,es,ep,k _ _ (.inl rfl) e,c⟩,r⟩
 | rng lo hi=>obtain ⟨t,u,v,e⟩:=x;exact ⟨t,u,v,k _ _ (.inl rfl) e⟩
 | frz ob u ih=>obtain ⟨e,q⟩:=x;exact ⟨k _ _ (.inl rfl) e,ih q⟩
 | tbl ps =>
  have e:h.get? a=some { cls:=.none,data:=.fields ps }:=x;show h'.get? a=some { cls:=.none,data:=.fields ps };exact k a _ (.inl rfl) e
 | met f y =>
  have e:h.get? a=some (PySem.W.methodObj (.ref f) (.ref y)):=x;show h'.get? a=some (PySem.W.methodObj (.ref f) (.ref y));exact k a _ (.inl rfl) e
 | ext φ=>obtain ⟨p,⟨o,e⟩,st⟩:=x;exact ⟨st _ _ p fun o q=>k _ _ (.inl rfl) q,⟨o,k _ _ (.inl rfl) e⟩,st⟩
theorem HOk.lt (x:HOk P w H h) (e:H a=some o):a < h.objs.size:=(x a o e).lt
theorem HOk.fresh (x:HOk P w H h) (e:h.objs.size<=a):H a=none:=by
 cases q:H a with
 | none=>rfl
 | some u=>exact absurd (Nat.lt_of_lt_of_le (x.lt q) e) (Nat.lt_irrefl _)
theorem HOk.kept (x:HOk P w H h) (k:∀ b u,h.get? b=some u->h'.get? b=some u):HOk P w H h':=fun a o e =>
 (x a o e).stay (fun b u _ q=>k b u q) (fun _ q=>q) fun _ _ q=>q
theorem HOk.laid (x:HOk P w H h) (k:∀ b u,h.get? b=some u->h'.get? b=some u) (hp:h.objs.size<=a) (new:Cg P w (upd H a o) h' a o):HOk P w (upd H a o) h':=fun b u e=>by
 have hn:=x.fresh hp
 by_cases hb:b=a
 ·subst hb;rw [Ak] at e;cases e;exact new
 ·rw [Ab hb] at e;exact (x b u e).stay (fun c v _ q=>k c v q) (fun c q=>by rw [Ab (Aj q hn)];exact q) fun c xs q=>by rw [Ab (Aj q hn)];exact q
end
noncomputable def Rd (H:Hp) (a:Addr) (u:HO):Prop:=H a=some u\/∃ o,H a=some (.frz o u)
theorem Rd.of {H:Hp}{a:Addr}{u:HO}(h:H a=some u):Rd H a u:=.inl h
theorem Rd.ok {P:Program}{w:World}{H:Hp}{h:Heap}{a:Addr}{u:HO}(r:Rd H a u) (x:HOk P w H h):Cg P w H h a u:=by
 rcases r with r|⟨o,r⟩
 ·exact x a u r
 ·obtain ⟨_,q⟩:=x a _ r;exact q
noncomputable def Mut:Option HO->Prop
 | some (.lst _)=>True
 | some (.dK _)=>True
 | some (.dT _)=>True
 | some (.dN _)=>True
 | some (.set _ _)=>True
 | some (.ins _ _ _)=>True
 | some (.ext _)=>True
 | _=>False
section
variable {P:Program}{w:World}{H:Hp}{h h':Heap}{x e:Addr}{o':HO}
theorem HOk.write (ok:HOk P w H h) (mu:Mut (H x)) (he:e=x\/H e=some (.own x)) (k:∀ b u,b≠e->h.get? b=some u->h'.get? b=some u) (heo:∃ u,h'.get? e=some u)
  (new:Cg P w (upd H x o') h' x o'):HOk P w (upd H x o') h':=fun b u q=>by
 have nown:∀ c y,H c=some (.own y)->c≠x:=fun c y r z=>by subst z;rw [r] at mu;exact mu
 have ntup:∀ c xs,H c=some (.tup xs)->c≠x:=fun c xs r z=>by subst z;rw [r] at mu;exact mu
 by_cases hb:b=x
 ·subst hb;rw [Ak] at q;cases q;exact new
 ·rw [Ab hb] at q
  by_cases hbe:b=e
  ·have q':H b=some (.own x):=by
    rcases he with z|z
    ·exact absurd (hbe.trans z) hb
    ·rw [hbe];exact z
   rw [q] at q';cases q';obtain ⟨v,hv⟩:=heo;exact ⟨v,by rw [hbe];exact hv⟩
  ·refine (ok b u q).stay (fun c v hc r=>k c v ?_ r) (fun c r=>by rw [Ab (nown c b r)];exact r) fun c xs r=>by rw [Ab (ntup c xs r)];exact r
   rcases hc with rfl|hc
   ·exact hbe
   ·rintro rfl;rcases he with z|z
    ·exact nown c b hc z
    ·rw [hc] at z;cases z;exact hb rfl
end
structure Un (fs ex:List Addr) (H H':Hp) (h h':Heap):Prop where
 keep:∀ b o,h.get? b=some o->H b=none->b ∉ fs->b ∉ ex->h'.get? b=some o
 slot:∀ b o,h.get? b=some o->H b=none->b∈fs->b ∉ ex->∃ sl,h'.get? b=some { o with slots:=sl }
 free:∀ b o,h.get? b=some o->H b=none->b ∉ ex->H' b=none
 there:∀ b o,h.get? b=some o->b ∉ ex->∃ o',h'.get? b=some o'
 tups:∀ b xs,H b=some (.tup xs)->H' b=some (.tup xs)
 frzs:∀ b o u,H b=some (.frz o u)->H' b=some (.frz o u)
 tbls:∀ b ps,H b=some (.tbl ps)->∃ more,H' b=some (.tbl (ps++more))
section
variable {fs fs' ex ex':List Addr}{H H1 H2:Hp}{h h1 h2 h':Heap}{a x e:Addr}{o:HO}
theorem Un.any (u:Un fs ex H H1 h h1) {b:Addr}{ob:Obj}(q:h.get? b=some ob) (n:H b=none) (hx:b ∉ ex):∃ sl,h1.get? b=some { ob with slots:=sl }:=by
 by_cases hb:b∈fs
 ·exact u.slot b ob q n hb hx
 ·exact ⟨ob.slots,u.keep b ob q n hb hx⟩
theorem Un.kept (k:∀ b u,h.get? b=some u->h'.get? b=some u):Un fs ex H H h h' :=
 ⟨fun b ob q _ _ _=>k b ob q,fun b ob q _ _ _=>⟨ob.slots,k b ob q⟩,fun _ _ _ n _=>n,fun b ob q _=>⟨ob,k b ob q⟩,fun _ _ q=>q,fun _ _ _ q=>q,fun _ ps q=>⟨#[],by rw [q];simp⟩⟩
theorem Un.refl:Un fs ex H H h h:=Un.kept fun _ _ q=>q
theorem Un.laid (k:∀ b u,h.get? b=some u->h'.get? b=some u) (hp:h.objs.size<=a) (hn:H a=none):Un fs ex H (upd H a o) h h' where
 keep:=fun b u q _ _ _=>k b u q
 slot:=fun b u q _ _ _=>⟨u.slots,k b u q⟩
 free:=fun b u q n _=>by rw [Ab (Nat.ne_of_lt (Nat.lt_of_lt_of_le (Heap.lt_size q) hp))];exact n
 there:=fun b u q _=>⟨u,k b u q⟩
 tups:=fun b xs q=>by rw [Ab (Aj q hn)];exact q
 frzs:=fun b u xs q=>by rw [Ab (Aj q hn)];exact q
 tbls:=fun b ps q=>⟨#[],by rw [Ab (Aj q hn),q];simp⟩
theorem Un.write (mu:Mut (H x)) (he:e=x\/H e=some (.own x)) (k:∀ b u,b≠e->h.get? b=some u->h'.get? b=some u) (heo:∃ u,h'.get? e=some u):Un fs ex H (upd H x o) h h':=by
 have hx:∀ b,H b=none->b≠x:=fun b n z=>by subst z;rw [n] at mu;exact mu
 have hb:∀ b,H b=none->b≠e:=fun b n z=>by
  subst z;rcases he with r|r
  ·exact hx b n r
  ·rw [n] at r;cases r
 have hm:∀ b u,H b=some u->¬ Mut (some u)->b≠x:=fun b u q nm z=>by subst z;rw [q] at mu;exact nm mu
 refine ⟨fun b u q n _ _=>k b u (hb b n) q,fun b u q n _ _=>⟨u.slots,k b u (hb b n) q⟩,fun b u q n _=>by rw [Ab (hx b n)];exact n,fun b u q _=>?_,
  fun b xs q=>by rw [Ab (hm b _ q fun z=>z)];exact q,fun b u xs q=>by rw [Ab (hm b _ q fun z=>z)];exact q,fun b ps q=>⟨#[],by rw [Ab (hm b _ q fun z=>z),q];simp⟩⟩
 by_cases hbe:b=e
 ·subst hbe;exact heo
 ·exact ⟨u,k b u hbe q⟩
end
noncomputable def trk (h:Heap) (H:Hp):List Addr:=(List.range h.objs.size).filter fun a=>(H a).isSome
noncomputable def Pr (h:Heap) (H:Hp):Heap:=PySem.W.hideAll h (trk h H)
theorem Yz (h:Heap) (H:Hp):(Pr h H).objs.size=h.objs.size:=PySem.W.hideAll_size _ _
theorem aP {h:Heap}{H:Hp}{b:Addr}{o:Obj}(e:h.get? b=some o) (n:H b=none):(Pr h H).get? b=some o :=
 PySem.W.hideAll_get _ e fun hm=>by
  have q:(H b).isSome=true:=(List.mem_filter.mp hm).2;rw [n] at q;simp at q
theorem iY {h:Heap}{H:Hp}{b:Addr}{o:Obj}(e:(Pr h H).get? b=some o):h.get? b=some o/\H b=none:=by
 have e':h.get? b=some o:=PySem.W.of_hideAll (trk h H) e;refine ⟨e',?_⟩;cases q:H b with
 | none=>rfl
 | some x =>
  have hm:b∈trk h H:=List.mem_filter.mpr ⟨List.mem_range.mpr (Heap.lt_size e'),by simp [q]⟩;have z:(Pr h H).get? b=none:=PySem.W.hideAll_none (trk h H) hm;rw [z] at e;cases e
structure Mod (K:PySem.W.Frag) (mg:Str->Option Value) (base:Heap):Prop where
 kin:K.In base
 glob:base.Ns mainGlobals mg
 blt:∃ mb,base.Ns builtinsNs mb/\∀ x:Str,x ≠ "__name__"->mb x=bootBuiltins x
 nolimit:base.NoLimit
structure Cx where
 prog:Program
 w:World
 K:PySem.W.Frag
 mg:Str->Option Value
 base:Heap
 A:Around
 N:List Str
 s₀:Shared
 H₀:Hp
 env:Env
 outer:List Env
 stack:List Env
 ex:List Addr
 fn:Str->Bool
 calm:Bool
 pn:List (Addr×Obj)
 xe:Value->Shared->Prop
noncomputable def frs (l:List Env):List Addr:=l.filterMap (·.frame)
noncomputable abbrev Cx.fs (X:Cx):List Addr:=frs X.outer
noncomputable def Vis (sc:Scope) (x:Str):Prop:=sc.names.lookup x=some .local\/sc.names.lookup x=some .cell\/sc.names.lookup x=some .free
noncomputable def Loc (sc:Scope) (x:Str):Prop:=sc.names.lookup x=some .local\/sc.names.lookup x=some .cell
noncomputable def Look (env:Env) (h:Heap) (m:Str->Option Value) (x:Str) (u:Value):Prop :=
 (env.kindOf x=some .local/\m x=some u)\/((env.kindOf x=some .cell\/env.kindOf x=some .free)/\∃ c,env.cells.lookup x=some c/\h.IsCell c (some u))
structure Cx.Ok (X:Cx):Prop where
 mod:Mod X.K X.mg X.base
 kind:X.env.scope.kind=.function
 glob:X.env.globals=mainGlobals
 blt:X.env.builtins=builtinsNs
 above:X.s₀.heap.objs.size<=X.env.locals
 inj:∀ x y c,X.env.cells.lookup x=some c->X.env.cells.lookup y=some c->x=y
 has:∀ x,(X.env.kindOf x=some .cell\/X.env.kindOf x=some .free)->∃ c,X.env.cells.lookup x=some c
 cab:∀ x c,X.fn x=true->X.env.cells.lookup x=some c->X.s₀.heap.objs.size<=c
 hd:X.calm=true->X.A.handled=none
 frames:X.A.frames=some X.stack
 stk:X.stack=X.outer\/(X.stack=X.env::X.outer/\X.env.frame=some X.env.locals)
 exf:∀ b∈X.ex,b≠X.env.locals/\∀ x c,X.env.cells.lookup x=some c->c≠b
 bs:∀ b o,X.base.get? b=some o->X.s₀.heap.get? b=some o/\X.H₀ b=none
 bsz:X.base.objs.size<=X.s₀.heap.objs.size
 noex:∀ b o,X.base.get? b=some o->b ∉ X.ex
 exfs:∀ b∈X.ex,b ∉ X.fs
 funs:X.s₀.heap.FunFrames X.base X.outer
 frf:∀ b∈X.fs,X.H₀ b=none
structure Inv (X:Cx) (pins:List (Addr×Obj)) (σ:List (Option V)) (H:Hp) (s:Shared):Prop where
 ok:X.Ok
 os:s.os=X.s₀.os
 bare:AllBare s.gens
 base:Un X.fs X.ex X.H₀ H X.s₀.heap s.heap
 loc:∃ m,s.heap.Ns X.env.locals m/\∀ (i:Nat) (x:Str) (v:V),X.N[i]?=some x->σ[i]?=some (some v)->Vis X.env.scope x->∃ u,RelV v u/\Look X.env s.heap m x u
 cell:∀ x c,X.env.cells.lookup x=some c->∃ v,s.heap.IsCell c v
 free:H X.env.locals=none
 freeC:∀ x c,X.env.cells.lookup x=some c->H c=none\/(X.fn x=false/\∃ o u,H c=some (.frz o u))
 pin:∀ p∈X.pn++pins,s.heap.get? p.1=some p.2/\H p.1=none/\p.1≠X.env.locals/\p.1 ∉ X.fs/\∀ v,p.2.data≠.cell v
 hok:HOk X.prog X.w H s.heap
 len:σ.length=X.N.length
section
variable {X:Cx}{pins:List (Addr×Obj)}{σ:List (Option V)}{H H':Hp}{s:Shared}{h':Heap}
theorem Cx.Ok.nofr (ok:X.Ok) {b:Addr}{o:Obj}(e:X.base.get? b=some o):b ∉ X.fs:=fun hb=>by
 have:=(ok.funs.mem hb).1;rw [e] at this;cases this
theorem Inv.bs (I:Inv X pins σ H s):∀ b o,X.base.get? b=some o->s.heap.get? b=some o/\H b=none:=fun b o e =>
 ⟨I.base.keep b o (I.ok.bs b o e).1 (I.ok.bs b o e).2 (I.ok.nofr e) (I.ok.noex b o e),I.base.free b o (I.ok.bs b o e).1 (I.ok.bs b o e).2 (I.ok.noex b o e)⟩
theorem Inv.bk (I:Inv X pins σ H s):∀ b o,X.base.get? b=some o->s.heap.get? b=some o:=fun b o e=>(I.bs b o e).1
theorem Inv.mod (I:Inv X pins σ H s):Mod X.K X.mg X.base:=I.ok.mod
theorem Inv.kIn (I:Inv X pins σ H s):X.K.In s.heap:=I.ok.mod.kin.keeps I.bk
theorem Inv.lt (I:Inv X pins σ H s):X.env.locals < s.heap.objs.size:=let ⟨_,hn,_⟩:=I.loc;hn.lt
theorem Inv.sz (I:Inv X pins σ H s):X.s₀.heap.objs.size<=s.heap.objs.size:=Nat.le_trans I.ok.above (Nat.le_of_lt I.lt)
theorem Inv.nofs (I:Inv X pins σ H s) {a:Addr}(h:s.heap.objs.size<=a):a ∉ X.fs:=fun hb=>by
 obtain ⟨_,o,ho,_⟩:=I.ok.funs.mem hb;exact absurd (Nat.lt_of_lt_of_le (Heap.lt_size ho) (Nat.le_trans I.sz h)) (Nat.lt_irrefl _)
theorem Inv.cne (I:Inv X pins σ H s):∀ x c,X.env.cells.lookup x=some c->c≠X.env.locals:=fun x c e z=>by
 obtain ⟨v,o,ho,hd⟩:=I.cell x c e;obtain ⟨m,⟨o',es,ep,ho',hd',_⟩,_⟩:=I.loc;rw [z,ho'] at ho;cases ho;rw [hd'] at hd;cases hd
theorem Inv.funs (I:Inv X pins σ H s):s.heap.FunFrames X.base X.outer:=by
 have all:∀ (l:List Env),(∀ b∈frs l,b∈X.fs)->X.s₀.heap.FunFrames X.base l->s.heap.FunFrames X.base l:=by
  intro l
  induction l with
  | nil=>intro _ _;trivial
  | cons env r ih =>
   intro hs hl;obtain ⟨hk,⟨L,o,hf,hn,ho,hd⟩,hr⟩:=hl;have hL:L∈X.fs:=hs L (by unfold frs;rw [List.filterMap_cons,hf];exact List.mem_cons_self);obtain ⟨sl,e⟩:=I.base.slot L o ho (I.ok.frf L hL) hL fun z=>I.ok.exfs L z hL
   exact ⟨hk,⟨L,_,hf,hn,e,hd⟩,ih (fun b hb=>hs b (by unfold frs;rw [List.filterMap_cons,hf];exact List.mem_cons_of_mem _ hb)) hr⟩
 exact all X.outer (fun _ hb=>hb) I.ok.funs
theorem Inv.stack (I:Inv X pins σ H s):s.heap.FunFrames X.base X.stack:=by
 rcases I.ok.stk with e|⟨e,hf⟩
 ·rw [e];exact I.funs
 ·rw [e];obtain ⟨m,hn,_⟩:=I.loc;refine .cons (by rw [I.ok.kind];decide) hf hn ?_ I.funs;exact Heap.get?_none_of_le (Nat.le_trans I.ok.bsz I.ok.above)
theorem Inv.stkSub (I:Inv X pins σ H s):∀ b∈frs X.stack,b∈X.env.locals::X.fs:=fun b hb=>by
 rcases I.ok.stk with e|⟨e,hf⟩
 ·rw [e] at hb;exact List.mem_cons_of_mem _ hb
 ·rw [e] at hb;unfold frs at hb;rw [List.filterMap_cons,hf] at hb;exact hb
theorem Inv.stkFree (I:Inv X pins σ H s):∀ b∈frs X.stack,H b=none:=fun b hb=>by
 rcases List.mem_cons.mp (I.stkSub b hb) with e|hb
 ·rw [e];exact I.free
 ·obtain ⟨_,o,ho,_⟩:=I.ok.funs.mem hb;exact I.base.free b o ho (I.ok.frf b hb) fun z=>I.ok.exfs b z hb
theorem Inv.step {g':Array GenState}{t':Nat}{d':Drawn}{ch:List Addr}(I:Inv X pins σ H s)
  (hch:∀ b∈ch,(b∈X.ex\/X.s₀.heap.objs.size<=b)/\b≠X.env.locals/\(∀ x c,X.env.cells.lookup x=some c->c≠b)/\∀ p∈X.pn++pins,p.1≠b)
  (keep:∀ b o,b≠X.env.locals->b ∉ X.fs->b ∉ ch->s.heap.get? b=some o->H b=none->h'.get? b=some o)
  (slot:∀ b o,b≠X.env.locals->b∈X.fs->b ∉ ch->s.heap.get? b=some o->H b=none->∃ sl,h'.get? b=some { o with slots:=sl }) (free:∀ b o,b ∉ ch->s.heap.get? b=some o->H b=none->H' b=none)
  (there:∀ b o,b ∉ ch->s.heap.get? b=some o->∃ o',h'.get? b=some o')
  (tups:∀ b xs,H b=some (.tup xs)->H' b=some (.tup xs)) (frzs:∀ b o u,H b=some (.frz o u)->H' b=some (.frz o u)) (tbls:∀ b ps,H b=some (.tbl ps)->∃ more,H' b=some (.tbl (ps++more)))
  (ns:∀ m,s.heap.Ns X.env.locals m->h'.Ns X.env.locals m) (hok:HOk X.prog X.w H' h') (hg:AllBare g') :
  Inv X pins σ H' { s with heap:=h',gens:=g',drawn:=d',toks:=t' }:=by
 have neL:∀ b o,X.s₀.heap.get? b=some o->b≠X.env.locals:=fun b o e=>Nat.ne_of_lt (Nat.lt_of_lt_of_le (Heap.lt_size e) I.ok.above)
 have neC:∀ b o,X.s₀.heap.get? b=some o->b ∉ X.ex->b ∉ ch:=fun b o e hx hb=>by
  rcases (hch b hb).1 with z|z
  ·exact hx z
  ·exact absurd (Nat.lt_of_lt_of_le (Heap.lt_size e) z) (Nat.lt_irrefl _)
 have cellK:∀ x c,X.env.cells.lookup x=some c->∀ v,s.heap.IsCell c v->h'.IsCell c v:=by
  rintro x c e v ⟨o,ho,hd⟩;have nch:c ∉ ch:=fun z=>(hch c z).2.2.1 x c e rfl
  rcases I.freeC x c e with fc|⟨_,oz,uz,fz⟩
  ·by_cases hc:c∈X.fs
   ·obtain ⟨sl,q⟩:=slot c o (I.cne x c e) hc nch ho fc;exact ⟨_,q,hd⟩
   ·exact ⟨o,keep c o (I.cne x c e) hc nch ho fc,hd⟩
  ·obtain ⟨e1,_⟩:=I.hok c _ fz;obtain ⟨e2,_⟩:=hok c _ (frzs c _ _ fz);rw [ho] at e1;cases e1;exact ⟨_,e2,hd⟩
 refine ⟨I.ok,I.os,hg,⟨fun b o e n hb hx=>?_,fun b o e n hb hx=>?_,fun b o e n hx=>?_,fun b o e hx=>?_,fun b xs e=>tups b xs (I.base.tups b xs e),fun b o xs e=>frzs b o xs (I.base.frzs b o xs e),fun b ps e=>?_⟩,?_,fun x c e=>?_,?_,fun x c e=>?_,fun p hp=>?_,hok,I.len⟩
 ·exact keep b o (neL b o e) hb (neC b o e hx) (I.base.keep b o e n hb hx) (I.base.free b o e n hx)
 ·obtain ⟨sl,e1⟩:=I.base.slot b o e n hb hx;obtain ⟨sl',e2⟩:=slot b _ (neL b o e) hb (neC b o e hx) e1 (I.base.free b o e n hx);exact ⟨sl',e2⟩
 ·obtain ⟨o',e1⟩:=I.base.there b o e hx;exact free b o' (neC b o e hx) e1 (I.base.free b o e n hx)
 ·obtain ⟨o',e1⟩:=I.base.there b o e hx;exact there b o' (neC b o e hx) e1
 ·obtain ⟨m1,e1⟩:=I.base.tbls b ps e;obtain ⟨m2,e2⟩:=tbls b _ e1;exact ⟨m1++m2,by rw [e2,Array.append_assoc]⟩
 ·obtain ⟨m,hn,hl⟩:=I.loc;refine ⟨m,ns m hn,fun i x v e1 e2 e3=>?_⟩;obtain ⟨u,r,l⟩:=hl i x v e1 e2 e3;refine ⟨u,r,?_⟩;rcases l with l|⟨k,c,e,z⟩
  ·exact .inl l
  ·exact .inr ⟨k,c,e,cellK x c e _ z⟩
 ·obtain ⟨v,z⟩:=I.cell x c e;exact ⟨v,cellK x c e v z⟩
 ·obtain ⟨m,⟨o,_,_,ho,_⟩,_⟩:=I.loc;exact free _ o (fun z=>(hch _ z).2.1 rfl) ho I.free
 ·obtain ⟨v,o,ho,hd⟩:=I.cell x c e;rcases I.freeC x c e with fc|⟨fx,oz,uz,fz⟩
  ·exact .inl (free c o (fun z=>(hch c z).2.2.1 x c e rfl) ho fc)
  ·exact .inr ⟨fx,oz,uz,frzs c _ _ fz⟩
 ·obtain ⟨e,n,ne,nf,d⟩:=I.pin p hp;have nch:p.1 ∉ ch:=fun z=>(hch p.1 z).2.2.2 p hp rfl
  exact ⟨keep p.1 p.2 ne nf nch e n,free p.1 p.2 nch e n,ne,nf,d⟩
theorem Inv.un {t':Nat}(I:Inv X pins σ H s) (u:Un X.fs [] H H' s.heap h') (hok:HOk X.prog X.w H' h'):Inv X pins σ H' { s with heap:=h',toks:=t' }:=by
 obtain ⟨m,⟨o,es,ep,ho,r⟩,_⟩:=id I.loc;obtain ⟨sl,hL⟩:=u.any ho I.free (by simp)
 exact I.step (g':=s.gens) (d':=s.drawn) (ch:=[]) (fun _ z=>nomatch z) (fun b o _ hb _ e n=>u.keep b o e n hb (by simp)) (fun b o _ hb _ e n=>u.slot b o e n hb (by simp)) (fun b o _ e n=>u.free b o e n (by simp)) (fun b o _ e=>u.there b o e (by simp)) u.tups u.frzs u.tbls (fun m' hm=>by
  obtain ⟨o',es',ep',ho',r'⟩:=hm;rw [ho] at ho';cases ho'
  exact ⟨_,es',ep',hL,r'⟩) hok I.bare
theorem Inv.call {g':Array GenState}{t':Nat}{d':Drawn}{ch:List Addr}(I:Inv X pins σ H s) (u:Un (frs X.stack) ch H H' s.heap h') (hok:HOk X.prog X.w H' h') (hg:AllBare g')
  (hch:∀ b∈ch,(b∈X.ex\/X.s₀.heap.objs.size<=b)/\b≠X.env.locals/\(∀ x c,X.env.cells.lookup x=some c->c≠b)/\∀ p∈X.pn++pins,p.1≠b) :
  Inv X pins σ H' { s with heap:=h',gens:=g',drawn:=d',toks:=t' }:=by
 obtain ⟨m,⟨o,es,ep,ho,r⟩,_⟩:=id I.loc;obtain ⟨sl,hL⟩:=u.any ho I.free fun z=>(hch _ z).2.1 rfl
 exact I.step (ch:=ch) hch (fun b o hL hb hc e n=>u.keep b o e n (fun z=>(List.mem_cons.mp (I.stkSub b z)).elim hL hb) hc) (fun b o _ _ hc e n=>u.any e n hc) (fun b o hc e n=>u.free b o e n hc) (fun b o hc e=>u.there b o e hc) u.tups u.frzs u.tbls (fun m' hm=>by
  obtain ⟨o',es',ep',ho',r'⟩:=hm;rw [ho] at ho';cases ho'
  exact ⟨_,es',ep',hL,r'⟩) hok hg
theorem Inv.turned {t':Nat}{it:Addr}(I:Inv X pins σ H s) (k:∀ b o,b≠it->s.heap.get? b=some o->h'.get? b=some o) (hn:H it=none) (hL:it≠X.env.locals)
  (h1:it∈X.ex\/X.s₀.heap.objs.size<=it) (h2:∀ x c,X.env.cells.lookup x=some c->c≠it) (h3:∀ p∈X.pn++pins,p.1≠it):Inv X pins σ H { s with heap:=h',toks:=t' }:=by
 have nit:∀ b u,H b=some u->b≠it:=fun b u e z=>by rw [z,hn] at e;cases e
 refine I.step (g':=s.gens) (d':=s.drawn) (ch:=[it]) (fun b hb=>?_) (fun b o _ _ hc e _=>k b o (fun z=>hc (by simp [z])) e) (fun b o _ _ hc e _=>⟨o.slots,k b o (fun z=>hc (by simp [z])) e⟩) (fun _ _ _ _ n=>n)
  (fun b o hc e=>⟨o,k b o (fun z=>hc (by simp [z])) e⟩) (fun _ _ e=>e) (fun _ _ _ e=>e) (fun b ps e=>⟨#[],by rw [e];simp⟩) (fun m hm=>?_) (fun b u e=>?_) I.bare
 ·have e:b=it:=by simpa using hb
  subst e;exact ⟨h1,hL,h2,h3⟩
 ·obtain ⟨o,es,ep,ho,r⟩:=hm;exact ⟨o,es,ep,k _ o (Ne.symm hL) ho,r⟩
 ·refine (I.hok b u e).stay (fun c v hc q=>k c v ?_ q) (fun _ q=>q) fun _ _ q=>q
  rcases hc with z|z
  ·rw [z];exact nit b u e
  ·exact nit c _ z
theorem Inv.tok (I:Inv X pins σ H s) (t:Nat):Inv X pins σ H { s with toks:=t }:=I.un (h':=s.heap) (t':=t) Un.refl I.hok
theorem Inv.kept {t':Nat}(I:Inv X pins σ H s) (k:∀ b u,s.heap.get? b=some u->h'.get? b=some u):Inv X pins σ H { s with heap:=h',toks:=t' }:=I.un (Un.kept k) (I.hok.kept k)
theorem Inv.laid {a:Addr}{o:HO}{t':Nat}(I:Inv X pins σ H s) (k:∀ b u,s.heap.get? b=some u->h'.get? b=some u) (hp:s.heap.objs.size<=a) (new:Cg X.prog X.w (upd H a o) h' a o) :
  Inv X pins σ (upd H a o) { s with heap:=h',toks:=t' }:=I.un (Un.laid k hp (I.hok.fresh hp)) (I.hok.laid k hp new)
theorem Inv.write {x e:Addr}{o:HO}{t':Nat}(I:Inv X pins σ H s) (mu:Mut (H x)) (he:e=x\/H e=some (.own x)) (k:∀ b u,b≠e->s.heap.get? b=some u->h'.get? b=some u) (heo:∃ u,h'.get? e=some u)
  (new:Cg X.prog X.w (upd H x o) h' x o):Inv X pins σ (upd H x o) { s with heap:=h',toks:=t' }:=I.un (Un.write mu he k heo) (I.hok.write mu he k heo new)
theorem Inv.weak {σ':List (Option V)}(I:Inv X pins σ H s) (hl:σ'.length=σ.length) (w:∀ (i:Nat) v,σ'[i]?=some (some v)->σ[i]?=some (some v)):Inv X pins σ' H s :=
 ⟨I.ok,I.os,I.bare,I.base,let ⟨m,hn,hl'⟩:=I.loc;⟨m,hn,fun i x v e1 e2 e3=>hl' i x v e1 (w i v e2) e3⟩,I.cell,I.free,I.freeC,I.pin,I.hok,hl.trans I.len⟩
theorem Inv.pins_of {pins':List (Addr×Obj)}(I:Inv X pins σ H s) (h:∀ p∈pins',s.heap.get? p.1=some p.2/\H p.1=none/\p.1≠X.env.locals/\p.1 ∉ X.fs/\∀ v,p.2.data≠.cell v):Inv X pins' σ H s :=
 ⟨I.ok,I.os,I.bare,I.base,I.loc,I.cell,I.free,I.freeC,fun p hp=>(List.mem_append.mp hp).elim (fun z=>I.pin p (List.mem_append_left _ z)) (h p),I.hok,I.len⟩
theorem R5 {N:List Str}(hN:N.Nodup) {i j:Nat}{x:Str}(a:N[i]?=some x) (b:N[j]?=some x):i=j:=by
 obtain ⟨h1,e1⟩:=List.getElem?_eq_some_iff.mp a;obtain ⟨h2,e2⟩:=List.getElem?_eq_some_iff.mp b;exact (List.getElem_inj hN).mp (e1.trans e2.symm)
theorem Y0 {M:Model}{A:Around}{E:Value->Shared->Prop}{i:Nat}{x:Str}{v:V}{u:Value}{Q:Unit->Shared->Prop}(I:Inv X pins σ H s) (hN:X.N.Nodup) (hi:X.N[i]?=some x) (hx:Loc X.env.scope x) (r:RelV v u)
  (h:∀ s',Inv X pins (σ.set i (some v)) H s'->(∃ a,Heap.SameBut a s.heap s'.heap/\(a=X.env.locals\/X.env.cells.lookup x=some a))->Q () s') (hf:X.fn x=true\/X.env.scope.names.lookup x=some .local:=by first | exact .inl rfl | exact .inr rfl | assumption):wpAny M A (storeName X.env x u) Q E s:=by
 obtain ⟨m,hn,hl⟩:=id I.loc;have hcls:(X.env.scope.kind==.class || (X.env.scope.kind==.module&&X.env.locals != X.env.globals))=false:=by rw [I.ok.kind];rfl
 have hiσ:i < σ.length:=by rw [I.len];exact (List.getElem?_eq_some_iff.mp hi).1
 have cne:=I.cne;have tracked:∀ {a:Addr} {h':Heap},(∃ o,s.heap.get? a=some o/\H a=none)->Heap.SameBut a s.heap h'->HOk X.prog X.w H h':=fun {a h'} ha hs b ob e=>by
  obtain ⟨_,_,hfree⟩:=ha;refine (I.hok b ob e).stay (fun c w' hc q=>(hs.2 c ?_).trans q) (fun _ q=>q) fun _ _ q=>q
  rintro rfl;rcases hc with rfl|hc
  ·rw [hfree] at e;cases e
  ·rw [hfree] at hc;cases hc
 rcases hx with hk|hk
 ·refine wpAny_storeName_local hk hn (fun h' hn' hs=>?_) hcls;obtain ⟨oL,_,_,hoL,_⟩:=id hn;refine h _ ⟨I.ok,I.os,I.bare,⟨fun b o e n hb hx=>?_,fun b o e n hb hx=>?_,I.base.free,fun b o e hx=>?_,I.base.tups,I.base.frzs,I.base.tbls⟩,⟨_,hn',fun j y v' e1 e2 e3=>?_⟩,fun y c e=>?_,I.free,I.freeC,fun p hp=>?_,tracked ⟨oL,hoL,I.free⟩ hs,by simpa using I.len⟩ ⟨_,hs,.inl rfl⟩
  ·exact (hs.2 b (Nat.ne_of_lt (Nat.lt_of_lt_of_le (Heap.lt_size e) I.ok.above))).trans (I.base.keep b o e n hb hx)
  ·obtain ⟨sl,e1⟩:=I.base.slot b o e n hb hx;exact ⟨sl,(hs.2 b (Nat.ne_of_lt (Nat.lt_of_lt_of_le (Heap.lt_size e) I.ok.above))).trans e1⟩
  ·obtain ⟨o',e1⟩:=I.base.there b o e hx;exact ⟨o',(hs.2 b (Nat.ne_of_lt (Nat.lt_of_lt_of_le (Heap.lt_size e) I.ok.above))).trans e1⟩
  ·by_cases hj:j=i
   ·subst hj;rw [hi] at e1;cases e1;rw [List.getElem?_set_self hiσ] at e2;cases e2;exact ⟨u,r,.inl ⟨hk,by simp⟩⟩
   ·rw [List.getElem?_set_ne (Ne.symm hj)] at e2;obtain ⟨u',r',q⟩:=hl j y v' e1 e2 e3;refine ⟨u',r',?_⟩;rcases q with ⟨k,e⟩|⟨k,c,e,z⟩
    ·refine .inl ⟨k,?_⟩;have:y≠x:=fun e=>hj (R5 hN e1 (e ▸ hi))
     simp [this,e]
    ·exact .inr ⟨k,c,e,z.sameBut hs (cne y c e)⟩
  ·obtain ⟨w',z⟩:=I.cell y c e;exact ⟨w',z.sameBut hs (cne y c e)⟩
  ·obtain ⟨e,n,ne,nf,d⟩:=I.pin p hp;exact ⟨(hs.2 p.1 ne).trans e,n,ne,nf,d⟩
 ·have hfn:X.fn x=true:=by
   rcases hf with z|z
   ·exact z
   ·rw [z] at hk;cases hk
  obtain ⟨c,hc⟩:=I.ok.has x (.inl hk);obtain ⟨w',z⟩:=I.cell x c hc;refine wpAny_storeName_cell I.ok.kind hk hc z (fun h' hc' hs=>?_);obtain ⟨oc,hoc,hocd⟩:=id z;refine h { s with heap:=h' } ⟨I.ok,I.os,I.bare,⟨fun b o e n hb hx=>?_,fun b o e n hb hx=>?_,I.base.free,fun b o e hx=>?_,I.base.tups,I.base.frzs,I.base.tbls⟩,⟨m,hn.sameBut hs (Ne.symm (cne x c hc)),fun j y v' e1 e2 e3=>?_⟩,fun y c' e=>?_,I.free,I.freeC,fun p hp=>?_,tracked ⟨oc,hoc,(I.freeC x c hc).resolve_right fun z=>by rw [hfn] at z;cases z.1⟩ hs,by simpa using I.len⟩ ⟨c,hs,.inr hc⟩
  ·exact (hs.2 b (Nat.ne_of_lt (Nat.lt_of_lt_of_le (Heap.lt_size e) (I.ok.cab x c hfn hc)))).trans (I.base.keep b o e n hb hx)
  ·obtain ⟨sl,e1⟩:=I.base.slot b o e n hb hx;exact ⟨sl,(hs.2 b (Nat.ne_of_lt (Nat.lt_of_lt_of_le (Heap.lt_size e) (I.ok.cab x c hfn hc)))).trans e1⟩
  ·obtain ⟨o',e1⟩:=I.base.there b o e hx;exact ⟨o',(hs.2 b (Nat.ne_of_lt (Nat.lt_of_lt_of_le (Heap.lt_size e) (I.ok.cab x c hfn hc)))).trans e1⟩
  ·by_cases hj:j=i
   ·subst hj;rw [hi] at e1;cases e1;rw [List.getElem?_set_self hiσ] at e2;cases e2;exact ⟨u,r,.inr ⟨.inl hk,c,hc,hc'⟩⟩
   ·rw [List.getElem?_set_ne (Ne.symm hj)] at e2;obtain ⟨u',r',q⟩:=hl j y v' e1 e2 e3;refine ⟨u',r',?_⟩;rcases q with q|⟨k,c',e,z'⟩
    ·exact .inl q
    ·refine .inr ⟨k,c',e,z'.sameBut hs ?_⟩;rintro rfl;exact hj (R5 hN e1 (I.ok.inj _ _ _ e hc ▸ hi))
  ·by_cases hcc:c'=c
   ·subst hcc;exact ⟨_,hc'⟩
   ·obtain ⟨w2,z2⟩:=I.cell y c' e;exact ⟨w2,z2.sameBut hs hcc⟩
  ·obtain ⟨e,n,ne,nf,d⟩:=I.pin p hp;refine ⟨(hs.2 p.1 ?_).trans e,n,ne,nf,d⟩;intro q;rw [q,hoc] at e;have q':oc=p.2:=Option.some.inj e;exact d w' (by rw [← q'];exact hocd)
theorem K7 {M:Model}{A:Around}{E:Value->Shared->Prop}{i:Nat}{x:Str}{v:V}{u:Value}{Q:Unit->Shared->Prop}(I:Inv X pins σ H s) (hN:X.N.Nodup) (hi:X.N[i]?=some x) (hx:Loc X.env.scope x) (r:RelV v u)
  (h:∀ s',Inv X pins (σ.set i (some v)) H s'->Q () s') (hf:X.fn x=true\/X.env.scope.names.lookup x=some .local:=by first | exact .inl rfl | exact .inr rfl | assumption):wpAny M A (storeName X.env x u) Q E s :=
 Y0 I hN hi hx r (fun s' I' _=>h s' I') hf
theorem Inv.call' {s':Shared}{ch:List Addr}(I:Inv X pins σ H s) (ho:s'.os=s.os) (u:Un (frs X.stack) ch H H' s.heap s'.heap) (hok:HOk X.prog X.w H' s'.heap) (hg:AllBare s'.gens)
  (hch:∀ b∈ch,(b∈X.ex\/X.s₀.heap.objs.size<=b)/\b≠X.env.locals/\(∀ x c,X.env.cells.lookup x=some c->c≠b)/\∀ p∈X.pn++pins,p.1≠b):Inv X pins σ H' s':=by
 obtain ⟨h',g',d',t',o'⟩:=s';have e:o'=s.os:=ho;subst e;exact I.call (g':=g') (t':=t') (d':=d') u hok hg hch
end
noncomputable abbrev XK:=Value->Option Addr->Hp->Prop
noncomputable abbrev St:=List (Option V)
noncomputable abbrev VK:=V->Hp->Prop
noncomputable abbrev TE:=St->Hp->VK->Prop
noncomputable abbrev TT:=St->Hp->(Bool->Hp->Prop)->Prop
noncomputable abbrev TA:=St->Hp->(List V->Hp->Prop)->Prop
structure Ends where
 nx:St->Hp->Prop
 rt:VK
 bk:St->Hp->Prop:=fun _ _=>False
 ct:St->Hp->Prop:=fun _ _=>False
noncomputable abbrev TS:=Ends->St->Hp->Prop
noncomputable def EP (X:Cx) (pins:List (Addr×Obj)) (σ:St) (Q:VK) (u:Value) (s':Shared):Prop:=∃ v H',Inv X pins σ H' s'/\RelV v u/\Q v H'
noncomputable def TP (X:Cx) (pins:List (Addr×Obj)) (σ:St) (Q:Bool->Hp->Prop) (b:Bool) (s':Shared):Prop:=∃ H',Inv X pins σ H' s'/\Q b H'
noncomputable def AP (X:Cx) (pins:List (Addr×Obj)) (σ:St) (Q:List V->Hp->Prop) (us:List Value) (s':Shared):Prop:=∃ vs H',Inv X pins σ H' s'/\Vals vs us/\Q vs H'
noncomputable def SP (X:Cx) (pins:List (Addr×Obj)) (D:Ends) (f:Flow) (s':Shared):Prop :=
 match f with
 | .next=>∃ σ' H',Inv X pins σ' H' s'/\D.nx σ' H'
 | .brk=>∃ σ' H',Inv X pins σ' H' s'/\D.bk σ' H'
 | .cont=>∃ σ' H',Inv X pins σ' H' s'/\D.ct σ' H'
 | .ret u=>∃ v σ' H',Inv X pins σ' H' s'/\RelV v u/\D.rt v H'
noncomputable def PE (X:Cx) (e:Expr) (t:TE):Prop :=
 ∀ (pins:List (Addr×Obj)) (s:Shared) (σ:St) (H:Hp) (Q:VK),Inv X pins σ H s->t σ H Q->wpAny (model X.prog X.w) X.A (eval e X.env) (EP X pins σ Q) X.xe s
noncomputable def PT (X:Cx) (e:Expr) (t:TT):Prop :=
 ∀ (pins:List (Addr×Obj)) (s:Shared) (σ:St) (H:Hp) (Q:Bool->Hp->Prop),Inv X pins σ H s->t σ H Q->wpAny (model X.prog X.w) X.A (isTrue e X.env (eval e X.env)) (TP X pins σ Q) X.xe s
noncomputable def PW (X:Cx) (e:Expr) (t:TT):Prop :=
 ∀ (whole:Sem Value) (pins:List (Addr×Obj)) (s:Shared) (σ:St) (H:Hp) (Q:Bool->Hp->Prop),Inv X pins σ H s->t σ H Q->wpAny (model X.prog X.w) X.A (isTrue e X.env whole) (TP X pins σ Q) X.xe s
theorem PW.pt {X:Cx}{e:Expr}{t:TT}(h:PW X e t):PT X e t:=h _
noncomputable def PA (X:Cx) (es:List Expr) (t:TA):Prop :=
 ∀ (pos:Pos) (pins:List (Addr×Obj)) (s:Shared) (σ:St) (H:Hp) (Q:List V->Hp->Prop),Inv X pins σ H s->t σ H Q->wpAny (model X.prog X.w) X.A (spliced (backTo pos (starEach es X.env))) (AP X pins σ Q) X.xe s
noncomputable def PS (X:Cx) (st:Stmt) (t:TS):Prop :=
 ∀ (pins:List (Addr×Obj)) (s:Shared) (σ:St) (H:Hp) (D:Ends),Inv X pins σ H s->t D σ H->wpAny (model X.prog X.w) X.A (exec st X.env) (SP X pins D) X.xe s
noncomputable def PSs (X:Cx) (st:List Stmt) (t:TS):Prop :=
 ∀ (pins:List (Addr×Obj)) (s:Shared) (σ:St) (H:Hp) (D:Ends),Inv X pins σ H s->t D σ H->wpAny (model X.prog X.w) X.A (execs st X.env) (SP X pins D) X.xe s
theorem thn {α:Type}{t:Sem α}{Q Q':α->Shared->Prop}{M:Model}{A:Around}{E:Value->Shared->Prop}{s:Shared}(h:wpAny M A t Q E s) (hQ:∀ a s,Q a s->Q' a s):wpAny M A t Q' E s:=wpAny_mono h hQ fun _ _ x=>x
section
variable {X:Cx}
noncomputable def qP (i:Nat):TE:=fun σ H Q=>∃ v,σ[i]?=some (some v)/\Q v H
noncomputable def tC (v:V):TE:=fun _ H Q=>Q v H
theorem U3 {i:Nat}{x:Str}{pos:Pos}(hN:X.N[i]?=some x) (hv:Vis X.env.scope x) (hd:(x==("__debug__":Str))=false:=by decide) (hcd:(x==("__classdict__":Str))=false:=by decide):PE X (.Name x pos) (qP i):=by
 intro pins s σ H Q I h;obtain ⟨v,e,h⟩:=h;obtain ⟨m,hn,hl⟩:=I.loc;obtain ⟨u,r,l⟩:=hl i x v hN e hv;have fin:EP X pins σ Q u s:=⟨v,H,I,r,h⟩;rcases l with ⟨hk,hm⟩|⟨hk,c,hc,hcell⟩
 ·exact wpAny_Name (wpAny_loadName_local I.ok.kind hk hn hm fin) hd
 ·rcases hk with hk|hk
  ·exact wpAny_Name (wpAny_loadName_cell I.ok.kind hk hc hcell fin) hd
  ·exact wpAny_Name (wpAny_loadName_free I.ok.kind hk hc hcell fin hcd) hd
theorem qQ {i j pos}:PE X (.Constant (.int i) j pos) (tC (.int i)):=fun _ _ _ H _ I h=>wpAny_Constant_int ⟨.int i,H,I.tok _,⟨_,rfl⟩,h⟩
theorem xP {b j pos}:PE X (.Constant (.bool b) j pos) (tC (.bl b)):=fun _ _ _ H _ I h=>Constant_bool ⟨.bl b,H,I,rfl,h⟩
theorem qR {j pos}:PE X (.Constant .none j pos) (tC .non):=fun _ _ _ H _ I h=>Constant_none ⟨.non,H,I,rfl,h⟩
theorem qT {x j pos}:PE X (.Constant (.str x) j pos) (tC (.str x)):=fun _ _ _ H _ I h=>Calls.Constant_str ⟨.str x,H,I.tok _,⟨_,rfl⟩,h⟩
noncomputable def Gl (X:Cx) (x:Str):Prop:=X.env.kindOf x=some .globalImplicit
theorem Km {E:Value->Shared->Prop}{pins:List (Addr×Obj)}{s:Shared}{σ:St}{H:Hp}{x:Str}{u:Value}{pos:Pos}{Q:Value->Shared->Prop}(I:Inv X pins σ H s) (hg:Gl X x) (hm:X.mg x=some u) (h:Q u s)
  (hd:(x==("__debug__":Str))=false:=by decide):wpAny (model X.prog X.w) X.A (eval (.Name x pos) X.env) Q E s :=
 Calls.Name_function_global I.ok.kind hg (Calls.loadGlobal_global (by rw [I.ok.glob];exact I.mod.glob.keeps I.bk) hm h) hd
theorem K8 {E:Value->Shared->Prop}{pins:List (Addr×Obj)}{s:Shared}{σ:St}{H:Hp}{x:Str}{u:Value}{pos:Pos}{Q:Value->Shared->Prop}(I:Inv X pins σ H s) (hg:Gl X x) (hm:X.mg x=none) (hv:bootBuiltins x=some u) (h:Q u s)
  (hn:x ≠ "__name__":=by decide) (hd:(x==("__debug__":Str))=false:=by decide):wpAny (model X.prog X.w) X.A (eval (.Name x pos) X.env) Q E s:=by
 obtain ⟨mb,h1,h2⟩:=I.mod.blt;exact Calls.Name_function_global I.ok.kind hg (Calls.loadGlobal_builtin (by rw [I.ok.glob];exact I.mod.glob.keeps I.bk) hm (by rw [I.ok.blt];exact h1.keeps I.bk) ((h2 x hn).trans hv) h) hd
theorem iZ {x:Str}{v:V}{u:Value}{pos:Pos}(hg:Gl X x) (hm:X.mg x=some u) (r:RelV v u) (hd:(x==("__debug__":Str))=false:=by decide):PE X (.Name x pos) (tC v) :=
 fun _ _ _ H _ I h=>Km I hg hm ⟨v,H,I,r,h⟩ hd
theorem jA {x:Str}{v:V}{u:Value}{pos:Pos}(hg:Gl X x) (hm:X.mg x=none) (hv:bootBuiltins x=some u) (r:RelV v u) (hn:x ≠ "__name__":=by decide) (hd:(x==("__debug__":Str))=false:=by decide):PE X (.Name x pos) (tC v) :=
 fun _ _ _ H _ I h=>K8 I hg hm hv ⟨v,H,I,r,h⟩ hn hd
variable {a b:Expr}{ta tb:TE}{pos:Pos}
variable {tA tB':TT}{rest:List Expr}
noncomputable def Aa3 (t u:TT):TT:=fun σ H Q=>t σ H fun c H1=>if c=true then u σ H1 Q else Q false H1
noncomputable def tOr (t u:TT):TT:=fun σ H Q=>t σ H fun c H1=>if c=true then Q true H1 else u σ H1 Q
noncomputable def Aa4 (t:TT):TT:=fun σ H Q=>t σ H fun c H1=>Q (!c) H1
theorem jB (ha:PT X a tA):PW X (.BoolOp .And [a] pos) tA:=by
 intro wh pins s σ H Q I h;refine isTrue_and (thn (ha pins s σ H Q I h) fun c s1 e=>?_);cases c with
 | true=>exact isTrue_and_nil e
 | false=>exact e
theorem qU (ha:PT X a tA):PW X (.BoolOp .Or [a] pos) tA:=by
 intro wh pins s σ H Q I h;refine isTrue_or (thn (ha pins s σ H Q I h) fun c s1 e=>?_);cases c with
 | false=>exact isTrue_or_nil e
 | true=>exact e
theorem qW (ha:PT X a tA) (hb:PW X (.BoolOp .And (b::rest) pos) tB'):PW X (.BoolOp .And (a::b::rest) pos) (Aa3 tA tB'):=by
 intro wh pins s σ H Q I h;refine isTrue_and (thn (ha pins s σ H _ I h) ?_);rintro c s1 ⟨H1,I1,q1⟩;cases c with
 | true=>exact hb wh pins s1 σ H1 Q I1 q1
 | false=>exact ⟨H1,I1,q1⟩
theorem xQ (ha:PT X a tA) (hb:PW X (.BoolOp .Or (b::rest) pos) tB'):PW X (.BoolOp .Or (a::b::rest) pos) (tOr tA tB'):=by
 intro wh pins s σ H Q I h;refine isTrue_or (thn (ha pins s σ H _ I h) ?_);rintro c s1 ⟨H1,I1,q1⟩;cases c with
 | true=>exact ⟨H1,I1,q1⟩
 | false=>exact hb wh pins s1 σ H1 Q I1 q1
theorem qX (ha:PT X a tA):PT X (.UnaryOp .Not a pos) (Aa4 tA):=by
 intro pins s σ H Q I h;exact isTrue_not (ha pins s σ H (fun c H1=>Q (!c) H1) I h)
noncomputable def xR (ta tb:TE):TE:=fun σ H Q=>ta σ H fun x H1=>∃ c,x=.bl c/\if c=true then tb σ H1 Q else Q (.bl false) H1
noncomputable def Aa5 (ta tb:TE):TE:=fun σ H Q=>ta σ H fun x H1=>∃ c,x=.bl c/\if c=true then Q (.bl true) H1 else tb σ H1 Q
noncomputable def xU (ta:TE):TE:=fun σ H Q=>ta σ H fun x H1=>∃ c,x=.bl c/\Q (.bl (!c)) H1
theorem qY {op}{t:TE}(h:PE X a t):PE X (.BoolOp op [a] pos) t:=fun pins s σ H Q I hw=>BoolOp_one (h pins s σ H Q I hw)
theorem qZ (ha:PE X a ta) (hb:PE X (.BoolOp .And (b::rest) pos) tb):PE X (.BoolOp .And (a::b::rest) pos) (xR ta tb):=by
 intro pins s σ H Q I h;refine BoolOp_and (thn (ha pins s σ H _ I h) ?_);rintro v s1 ⟨x,H1,I1,r1,q1⟩;obtain ⟨c,rfl,q1⟩:=q1;cases r1;refine wpAny_truthy_bool ?_;cases c with
 | true=>exact hb pins s1 σ H1 Q I1 q1
 | false=>exact ⟨.bl false,H1,I1,rfl,q1⟩
theorem xV (ha:PE X a ta) (hb:PE X (.BoolOp .Or (b::rest) pos) tb):PE X (.BoolOp .Or (a::b::rest) pos) (Aa5 ta tb):=by
 intro pins s σ H Q I h;refine BoolOp_or (thn (ha pins s σ H _ I h) ?_);rintro v s1 ⟨x,H1,I1,r1,q1⟩;obtain ⟨c,rfl,q1⟩:=q1;cases r1;refine wpAny_truthy_bool ?_;cases c with
 | false=>exact hb pins s1 σ H1 Q I1 q1
 | true=>exact ⟨.bl true,H1,I1,rfl,q1⟩
theorem rA (ha:PE X a ta):PE X (.UnaryOp .Not a pos) (xU ta):=by
 intro pins s σ H Q I h;refine UnaryOp_ (thn (ha pins s σ H _ I h) ?_);rintro v s1 ⟨x,H1,I1,r1,q1⟩;obtain ⟨c,rfl,q1⟩:=q1;cases r1;exact not_of (wpAny_truthy_bool ⟨.bl (!c),H1,I1,rfl,q1⟩)
noncomputable def tIf (t:TT) (ta tb:TE):TE:=fun σ H Q=>t σ H fun c H1=>if c=true then ta σ H1 Q else tb σ H1 Q
theorem aQ {c:Expr}(hc:PT X c tA) (ha:PE X a ta) (hb:PE X b tb):PE X (.IfExp c a b pos) (tIf tA ta tb):=by
 intro pins s σ H Q I h;refine wpAny_IfExp (thn (hc pins s σ H _ I h) ?_);rintro d s1 ⟨H1,I1,q1⟩;cases d with
 | true=>exact ha pins s1 σ H1 Q I1 q1
 | false=>exact hb pins s1 σ H1 Q I1 q1
end
noncomputable def SqL (K:PySem.W.Frag) (H:Hp) (a:Addr) (xs:List V):Prop :=
 Rd H a (.lst xs) \/
  ∃ (o:Obj) (its:Array Value) (n:Nat),K.lookup a=some o/\o.cls=.type "list"/\o.dict=none/\o.data=.seq its n/\its.size<=sizeLine/\Vals xs its.toList
noncomputable def SqT (K:PySem.W.Frag) (H:Hp) (a:Addr) (xs:List V):Prop :=
 Rd H a (.tup xs) \/
  ∃ (o:Obj) (its:Array Value) (n:Nat),K.lookup a=some o/\o.cls=.type "tuple"/\o.dict=none/\o.data=.seq its n/\its.size<=sizeLine/\Vals xs its.toList
noncomputable def Aa6:Value->Option V
 | .none=>some .non
 | .bool b=>some (.bl b)
 | .int i _=>some (.int i)
 | .str x _=>some (.str x)
 | .bytes b _=>some (.byt b)
 | .float b _=>some (.flt b)
 | .ref a=>some (.ref a)
 | .type n=>some (.ty n)
 | _=>none
theorem RelV.abs {x:V}{u:Value}(r:RelV x u):Aa6 u=some x:=by
 cases x with
 | non=>cases r;rfl
 | bl _=>cases r;rfl
 | int _=>obtain ⟨t,rfl⟩:=r;rfl
 | str _=>obtain ⟨t,rfl⟩:=r;rfl
 | byt _=>obtain ⟨t,rfl⟩:=r;rfl
 | flt _=>obtain ⟨t,rfl⟩:=r;rfl
 | ref _=>cases r;rfl
 | ty _=>cases r;rfl
theorem RelV.inj {x y:V}{u:Value}(r:RelV x u) (q:RelV y u):x=y:=Option.some.inj (r.abs.symm.trans q.abs)
theorem Vals.inj {xs ys:List V}{us:List Value}(a:Vals xs us) (b:Vals ys us):xs=ys:=by
 induction a generalizing ys with
 | nil=>cases b;rfl
 | cons r t ih =>
  cases b with
  | cons r' t'=>rw [r.inj r',ih t']
section
variable {X:Cx}{pins:List (Addr×Obj)}{σ:St}{H:Hp}{s:Shared}{a:Addr}{xs ys:List V}
theorem Inv.list (I:Inv X pins σ H s) (h:SqL X.K H a xs):∃ its:List Value,Vals xs its/\PlainL s.heap a its.toArray/\xs.length<=sizeLine:=by
 rcases h with h|⟨o,its,n,hk,hc,hd,hs,hz,r⟩
 ·obtain ⟨z,its,n,r,e⟩:=h.ok I.hok;exact ⟨its,r,⟨_,n,e,rfl,rfl,rfl⟩,z⟩
 ·refine ⟨its.toList,r,⟨o,n,I.kIn a o hk,hc,hd,by simpa using hs⟩,?_⟩;have e:=r.length;simp only [Array.length_toList] at e;omega
theorem Inv.tuple (I:Inv X pins σ H s) (h:SqT X.K H a xs):∃ its:List Value,Vals xs its/\IsTup s.heap a its.toArray/\xs.length<=sizeLine:=by
 rcases h with h|⟨o,its,n,hk,hc,hd,hs,hz,r⟩
 ·obtain ⟨z,its,r,p⟩:=h.ok I.hok;exact ⟨its,r,p.to,z⟩
 ·refine ⟨its.toList,r,⟨o,I.kIn a o hk,hc,n,by simpa using hs⟩,?_⟩;have e:=r.length;simp only [Array.length_toList] at e;omega
theorem Inv.tupleP (I:Inv X pins σ H s) (h:SqT X.K H a xs):∃ its:List Value,Vals xs its/\Pq s.heap a its.toArray/\xs.length<=sizeLine:=by
 rcases h with h|⟨o,its,n,hk,hc,hd,hs,hz,r⟩
 ·obtain ⟨z,its,r,p⟩:=h.ok I.hok;exact ⟨its,r,p,z⟩
 ·refine ⟨its.toList,r,⟨o,I.kIn a o hk,hc,hd,n,by simpa using hs⟩,?_⟩;have e:=r.length;simp only [Array.length_toList] at e;omega
theorem Inv.list_inj (I:Inv X pins σ H s) (h:SqL X.K H a xs) (h':SqL X.K H a ys):xs=ys:=by
 obtain ⟨its,r,⟨o,n,e,_,_,d⟩,_⟩:=I.list h;obtain ⟨its',r',⟨o',n',e',_,_,d'⟩,_⟩:=I.list h';rw [e] at e';cases e';rw [d] at d';injection d' with d1 _
 have:its=its':=by simpa using congrArg Array.toList d1
 subst this;exact r.inj r'
theorem Inv.tuple_inj (I:Inv X pins σ H s) (h:SqT X.K H a xs) (h':SqT X.K H a ys):xs=ys:=by
 obtain ⟨its,r,⟨o,e,_,n,d⟩,_⟩:=I.tuple h;obtain ⟨its',r',⟨o',e',_,n',d'⟩,_⟩:=I.tuple h';rw [e] at e';cases e';rw [d] at d';injection d' with d1 _
 have:its=its':=by simpa using congrArg Array.toList d1
 subst this;exact r.inj r'
end
noncomputable abbrev Cx.wish (X:Cx) (E:Value->Shared->Prop):Cx:={ X with xe:=E }
noncomputable abbrev Cx.nox (X:Cx):Cx:=X.wish fun _ _=>False
theorem Cx.Ok.wish {X:Cx}(ok:X.Ok) (E:Value->Shared->Prop):(X.wish E).Ok :=
 ⟨ok.mod,ok.kind,ok.glob,ok.blt,ok.above,ok.inj,ok.has,ok.cab,ok.hd,ok.frames,ok.stk,ok.exf,ok.bs,ok.bsz,ok.noex,ok.exfs,ok.funs,ok.frf⟩
theorem Cx.Ok.unwish {X:Cx}{E:Value->Shared->Prop}(ok:(X.wish E).Ok):X.Ok :=
 ⟨ok.mod,ok.kind,ok.glob,ok.blt,ok.above,ok.inj,ok.has,ok.cab,ok.hd,ok.frames,ok.stk,ok.exf,ok.bs,ok.bsz,ok.noex,ok.exfs,ok.funs,ok.frf⟩
section
variable {X:Cx}{pins:List (Addr×Obj)}{σ:St}{H:Hp}{s:Shared}{E:Value->Shared->Prop}
theorem Inv.wish (I:Inv X pins σ H s) (E:Value->Shared->Prop):Inv (X.wish E) pins σ H s:=⟨I.ok.wish E,I.os,I.bare,I.base,I.loc,I.cell,I.free,I.freeC,I.pin,I.hok,I.len⟩
theorem Inv.unwish (I:Inv (X.wish E) pins σ H s):Inv X pins σ H s:=⟨I.ok.unwish,I.os,I.bare,I.base,I.loc,I.cell,I.free,I.freeC,I.pin,I.hok,I.len⟩
theorem SP.unwish {D:Ends}{f:Flow}{s':Shared}(h:SP (X.wish E) pins D f s'):SP X pins D f s':=by
 cases f with
 | next=>obtain ⟨σ',H',I,q⟩:=h;exact ⟨σ',H',I.unwish,q⟩
 | brk=>obtain ⟨σ',H',I,q⟩:=h;exact ⟨σ',H',I.unwish,q⟩
 | cont=>obtain ⟨σ',H',I,q⟩:=h;exact ⟨σ',H',I.unwish,q⟩
 | ret u=>obtain ⟨v,σ',H',I,r,q⟩:=h;exact ⟨v,σ',H',I.unwish,r,q⟩
theorem PSs.nox {st:List Stmt}{t:TS}(h:PSs X.nox st t):PSs X st t:=fun pins s σ H D I hw =>
 wpAny_mono (h pins s σ H D (I.wish _) hw) (fun _ _ q=>q.unwish) fun _ _ z=>False.elim z
end
section
variable {X:Cx}{st:Stmt}{rest:List Stmt}{t u:TS}{e:Expr}{te:TE}{pos:Pos}
noncomputable def pG:TS:=fun D σ H=>D.nx σ H
noncomputable def Aa7 (t u:TS):TS:=fun D σ H=>t { D with nx:=u D } σ H
theorem W7:PSs X [] pG:=fun _ _ σ H _ I h=>wpAny_execs_nil ⟨σ,H,I,h⟩
theorem Ig (h1:PS X st t) (h2:PSs X rest u):PSs X (st::rest) (Aa7 t u):=by
 intro pins s σ H D I h;refine wpAny_execs_cons (thn (h1 pins s σ H { D with nx:=u D } I h) fun f s1 q=>?_);cases f with
 | next =>
  obtain ⟨σ',H',I',q⟩:=q;exact h2 pins s1 σ' H' D I' q
 | ret v=>exact q
 | brk=>exact q
 | cont=>exact q
noncomputable def rB:TS:=fun D σ H=>D.bk σ H
noncomputable def xW:TS:=fun D σ H=>D.ct σ H
theorem jC:PS X (.Pass pos) pG:=fun _ _ σ H _ I h=>wpAny_Pass ⟨σ,H,I,h⟩
theorem aR:PS X (.Break pos) rB:=fun _ _ σ H _ I h=>wpAny_Break ⟨σ,H,I,h⟩
theorem R6:PS X (.Continue pos) xW:=fun _ _ σ H _ I h=>wpAny_Continue ⟨σ,H,I,h⟩
theorem Inv.quiet {pins:List (Addr×Obj)}{σ:St}{H:Hp}{s:Shared}(I:Inv X pins σ H s):interactive X.env=false:=by simp [interactive,I.ok.kind]
noncomputable def xX (te:TE):TS:=fun D σ H=>te σ H fun _ H1=>D.nx σ H1
theorem jD (he:PE X e te) (hs:swapsWith e none pos.line X.env=pure false:=by rfl):PS X (.Expr e pos) (xX te):=by
 intro pins s σ H D I h;exact wpAny_Expr_any (thn (he pins s σ H _ I h) fun v s1 ⟨x,H1,I1,r1,q1⟩=>⟨σ,H1,I1,q1⟩) I.quiet hs
noncomputable def Aa8 (te:TE):TS:=fun D σ H=>te σ H D.rt
theorem rC (he:PE X e te):PS X (.Return (some e) pos) (Aa8 te):=by
 intro pins s σ H D I h;refine wpAny_Return_some (thn (he pins s σ H _ I h) ?_);rintro v s1 ⟨x,H1,I1,r1,q1⟩;exact ⟨x,σ,H1,I1,r1,q1⟩
noncomputable def xY:TS:=fun D _ H=>D.rt .non H
theorem jE:PS X (.Return none pos) xY:=fun _ _ σ H _ I h=>wpAny_Return_none ⟨.non,σ,H,I,rfl,h⟩
noncomputable def Aa9 (c:TT) (t u:TS):TS:=fun D σ H=>c σ H fun b H1=>if b=true then t D σ H1 else u D σ H1
theorem xZ {c:Expr}{a b:List Stmt}{tc:TT}(hc:PT X c tc) (ha:PSs X a t) (hb:PSs X b u):PS X (.If c a b pos) (Aa9 tc t u):=by
 intro pins s σ H D I h;refine wpAny_If (thn (hc pins s σ H _ I h) ?_);rintro d s1 ⟨H1,I1,q1⟩;cases d with
 | true=>exact ha pins s1 σ H1 D I1 q1
 | false=>exact hb pins s1 σ H1 D I1 q1
end
noncomputable abbrev TG:=V->St->Hp->(St->Hp->Prop)->Prop
noncomputable abbrev TGs:=List V->St->Hp->(St->Hp->Prop)->Prop
noncomputable def PG (X:Cx) (target:Expr) (t:TG):Prop :=
 ∀ (pins:List (Addr×Obj)) (s:Shared) (σ:St) (H:Hp) (v:V) (u:Value) (Q:St->Hp->Prop),Inv X pins σ H s->RelV v u->t v σ H Q ->
  wpAny (model X.prog X.w) X.A (assign target X.env u) (fun _ s'=>∃ σ' H',Inv X pins σ' H' s'/\Q σ' H') X.xe s
noncomputable def PGs (X:Cx) (ts:List Expr) (t:TGs):Prop :=
 ∀ (pins:List (Addr×Obj)) (s:Shared) (σ:St) (H:Hp) (vs:List V) (us:List Value) (Q:St->Hp->Prop),Inv X pins σ H s->Vals vs us->t vs σ H Q ->
  wpAny (model X.prog X.w) X.A (assignInOrder ((assignEach ts X.env).map (·.2)) us) (fun _ s'=>∃ σ' H',Inv X pins σ' H' s'/\Q σ' H') X.xe s
noncomputable abbrev rE:=V->V->V->Hp->(Hp->Prop)->Prop
noncomputable def yC (X:Cx) (t:rE):Prop :=
 ∀ (pins:List (Addr×Obj)) (s:Shared) (σ:St) (H:Hp) (o i v:V) (ov iv u:Value) (Q:Hp->Prop),Inv X pins σ H s->RelV o ov->RelV i iv->RelV v u->t o i v H Q ->
  wpAny (model X.prog X.w) X.A (setItem ov iv u) (fun _ s'=>∃ H',Inv X pins σ H' s'/\Q H') X.xe s
section
variable {X:Cx}{pos:Pos}
noncomputable def aU (i:Nat):TG:=fun v σ H Q=>Q (σ.set i (some v)) H
theorem W8 {i:Nat}{x:Str}(hN:X.N.Nodup) (hi:X.N[i]?=some x) (hx:Loc X.env.scope x) (hf:X.fn x=true\/X.env.scope.names.lookup x=some .local:=by first | exact .inl rfl | exact .inr rfl | assumption):PG X (.Name x pos) (aU i):=by
 intro pins s σ H v u Q I r h;exact wpAny_assign_Name (K7 I hN hi hx r (fun s' I'=>⟨_,H,I',h⟩) hf)
noncomputable def yD:TGs:=fun vs σ H Q=>vs=[]/\Q σ H
noncomputable def pH (t:TG) (u:TGs):TGs:=fun vs σ H Q=>∃ v r,vs=v::r/\t v σ H fun σ' H'=>u r σ' H' Q
theorem jF:PGs X [] yD:=by
 intro pins s σ H vs us Q I r h;obtain ⟨e,h⟩:=h;subst e;cases r;exact assignInOrder_nil ⟨σ,H,I,h⟩
theorem aV {e:Expr}{es:List Expr}{t:TG}{u:TGs}(h1:PG X e t) (h2:PGs X es u)
  (hs:(assignEach (e::es) X.env).map (·.2)=assign e X.env::(assignEach es X.env).map (·.2):=by rfl):PGs X (e::es) (pH t u):=by
 intro pins s σ H vs us Q I r h;obtain ⟨v,vr,e1,h⟩:=h;subst e1;cases r with
 | cons r rr =>
  rw [hs];refine assignInOrder_cons (thn (h1 pins s σ H _ _ _ I r h) ?_);rintro _ s1 ⟨σ1,H1,I1,q1⟩;exact h2 pins s1 σ1 H1 _ _ Q I1 rr q1
noncomputable def Aba (K:PySem.W.Frag) (n:Nat) (t:TGs):TG:=fun v σ H Q=>∃ a xs,v=.ref a/\SqT K H a xs/\xs.length=n/\t xs σ H Q
theorem rF {es:List Expr}{k:Nat}{t:TGs}{n:Nat}(hc:X.calm=true) (h:PGs X es t)
  (hn:(assignEach es X.env).length=n:=by rfl) (hst:(assignEach es X.env).findIdx? (·.1)=none:=by rfl):PG X (.Tuple es k pos) (Aba X.K n t):=by
 intro pins s σ H v u Q I r hw;obtain ⟨a,xs,e1,hq,hl,hw⟩:=hw;subst e1;cases r;obtain ⟨its,rv,ht,hz⟩:=I.tuple hq;refine assign_Tuple_tuple (I.ok.hd hc) ht (by simp [hn,← hl,rv.length]) hst fun h' hx=>?_
 have I1:Inv X pins σ H { s with heap:=h' }:=I.kept (t':=s.toks) fun b o e=>hx b o (Nat.ne_of_lt (Heap.lt_size e)) e
 exact h pins _ σ H xs _ Q I1 (by simpa using rv) hw
noncomputable def Abb (to ti:TE) (t:rE):TG:=fun v σ H Q=>to σ H fun o H1=>ti σ H1 fun i H2=>t o i v H2 fun H3=>Q σ H3
theorem rG {o i:Expr}{to ti:TE}{t:rE}(ho:PE X o to) (hi:PE X i ti) (hs:yC X t)
  (ha:∀ v,assign (.Subscript o i pos) X.env v=(do
   let ov ← holding [v] (eval o X.env)
   let iv ← holding [v,ov] (eval i X.env)
   standAt pos
   holding [v,ov,iv] (setItem ov iv v)
   release [v,ov,iv] []):=by intro _;rfl):PG X (.Subscript o i pos) (Abb to ti t):=by
 intro pins s σ H v u Q I r h;rw [ha];refine wpAny_bind (wpAny_holding (thn (ho pins s σ H _ I h) ?_));rintro ov s1 ⟨x,H1,I1,r1,q1⟩;refine wpAny_bind (wpAny_holding (thn (hi pins s1 σ H1 _ I1 q1) ?_));rintro iv s2 ⟨y,H2,I2,r2,q2⟩;refine wpAny_bind (wpAny_standAt (wpAny_bind (wpAny_holding (thn (hs pins s2 σ H2 x y v ov iv u _ I2 r1 r2 r q2) ?_))));rintro _ s3 ⟨H3,I3,q3⟩;exact wpAny_release ⟨σ,H3,I3,q3⟩
noncomputable def rH (te:TE) (g:TG):TS:=fun D σ H=>te σ H fun x H1=>g x σ H1 D.nx
theorem rJ {tg e:Expr}{te:TE}{g:TG}(he:PE X e te) (hg:PG X tg g) (hs:swapsWithSole [tg] e pos.line X.env=pure false:=by rfl) (hw:swappedStores [tg] e X.env=pure none:=by rfl)
  (h1:(assignEach [tg] X.env).map (·.2)=[assign tg X.env]:=by rfl):PS X (.Assign [tg] e pos) (rH te g):=by
 intro pins s σ H D I h;refine wpAny_Assign_stores (thn (he pins s σ H _ I h) ?_) hs hw;rintro v s1 ⟨x,H1,I1,r1,q1⟩;rw [h1];exact thn (hg pins s1 σ H1 x v _ I1 r1 q1) fun _ s2 q=>q
noncomputable def Abd (i j:Nat) (ta:TA):TS:=fun D σ H=>ta σ H fun vs H1=>∃ v w,vs=[v,w]/\D.nx ((σ.set i (some v)).set j (some w)) H1
theorem rK {i j:Nat}{x y:Str}{a b:Expr}{ta:TA}{px py pt:Pos}{kt k2 pt2}(hc:X.calm=true) (hN:X.N.Nodup) (hi:X.N[i]?=some x) (hj:X.N[j]?=some y) (hij:i≠j)
  (hx:X.env.scope.names.lookup x=some .local) (hy:X.env.scope.names.lookup y=some .local) (ha:PA X [a,b] ta)
  (hw:swappedStores [.Tuple [.Name x px,.Name y py] kt pt] (.Tuple [a,b] k2 pt2) X.env=pure (some [x,y]))
  (hs:swapsWithSole [.Tuple [.Name x px,.Name y py] kt pt] (.Tuple [a,b] k2 pt2) pos.line X.env=pure false:=by rfl) :
  PS X (.Assign [.Tuple [.Name x px,.Name y py] kt pt] (.Tuple [a,b] k2 pt2) pos) (Abd i j ta):=by
 intro pins s σ H D I h;rw [exec_Assign_arm];refine wpAny_bind (wpAny_standAt ?_);rw [hs];refine wpAny_bind (wpAny_pure ?_);rw [if_neg (by decide)];refine wpAny_bind (Tuple_ (thn (ha _ pins s σ H _ I h) ?_));rintro us s1 ⟨vs,H1,I1,r1,q1⟩;obtain ⟨v,w,e1,q1⟩:=q1;subst e1;obtain ⟨u1,u2,rfl,rv,rw'⟩:∃ u1 u2,us=[u1,u2]/\RelV v u1/\RelV w u2:=by
  cases r1 with
  | cons p q =>
   cases q with
   | cons p' q' =>
    cases q';exact ⟨_,_,rfl,p,p'⟩
 refine wpAny_newObj_type ?_ (by show 2<=sizeLine;decide)
 have I2:Inv X pins σ H1 { s1 with heap:=s1.heap.push { cls:=.type "tuple",data:=.seq [u1,u2].toArray } }:=I1.kept (t':=s1.toks) fun b o e=>Heap.get?_push_of_some _ e
 rw [hw];refine wpAny_bind (wpAny_pure ?_)
 show wpAny (model X.prog X.w) X.A (do rule "assign.swapped-stores";let items ← unpackItems (.ref s1.heap.objs.size) 2 none;assignInOrder [fun v=>bindName X.env y v,fun v=>bindName X.env x v] items.reverse;pure Flow.next) _ _ _;refine wpAny_bind (wpAny_rule (wpAny_bind (unpackItems_tuple (items:=#[u1,u2]) (I.ok.hd hc) (IsTup.new s1.heap _) fun h' hx'=>?_)));have I3:=I2.kept (h':=h') (t':=s1.toks) fun b o e=>hx' b o (Nat.ne_of_lt (Heap.lt_size e)) e
 show wpAny _ _ (assignInOrder [fun v=>bindName X.env y v,fun v=>bindName X.env x v] [u2,u1] >>= fun _=>pure Flow.next) _ _ _;refine wpAny_bind (assignInOrder_cons (wpAny_bindName (K7 I3 hN hj (.inl hy) rw' (fun s2 I4=>?_) (.inr hy))));refine assignInOrder_cons (wpAny_bindName (K7 I4 hN hi (.inl hx) rv (fun s3 I5=>assignInOrder_nil (wpAny_pure ?_)) (.inr hx)));rw [List.set_comm _ _ (Ne.symm hij)] at I5;exact ⟨_,H1,I5,q1⟩
end
section
variable {X:Cx}{pos:Pos}
noncomputable def rM (c:TT) (tb:TS):TS:=fun D σ H=>∃ W:Nat->St->Hp->Prop,(∃ m,W m σ H)/\∀ m σ H,W m σ H ->
 c σ H fun b H1=>if b=true then ∃ N:St->Hp->Prop,(∀ σ' H',N σ' H'->∃ m',m' < m/\W m' σ' H')/\tb { D with nx:=N,ct:=N,bk:=D.nx } σ H1 else D.nx σ H1
theorem aW {c:Expr}{body:List Stmt}{tc:TT}{tb:TS}(hp:PassesOwn (model X.prog X.w) X.A X.env X.xe) (hc:PT X c tc) (hb:PSs X body tb):PS X (.While c body [] pos) (rM tc tb):=by
 intro pins s σ H D I h;obtain ⟨W,⟨m0,w0⟩,turn⟩:=h;refine wpAny_While (codeAny_whileLoop (fun n s'=>∃ σ' H',Inv X pins σ' H' s'/\W n σ' H') ?_ m0 ⟨σ,H,I,w0⟩);rintro n s1 ⟨σ1,H1,I1,w1⟩;refine wpAny_passesOwn hp (thn (hc pins s1 σ1 H1 _ I1 (turn n σ1 H1 w1)) ?_);rintro b s2 ⟨H2,I2,q2⟩;cases b with
 | true =>
  obtain ⟨N,hN,q2⟩:=q2;rw [if_pos rfl];refine wpAny_passesOwn hp (thn (hb pins s2 σ1 H2 _ I2 q2) fun f s3 q3=>?_);cases f with
  | next =>
   obtain ⟨σ3,H3,I3,n3⟩:=q3;obtain ⟨m',hm,w3⟩:=hN σ3 H3 n3;exact ⟨m',hm,σ3,H3,I3,w3⟩
  | cont =>
   obtain ⟨σ3,H3,I3,n3⟩:=q3;obtain ⟨m',hm,w3⟩:=hN σ3 H3 n3;exact ⟨m',hm,σ3,H3,I3,w3⟩
  | brk=>exact q3
  | ret v=>exact q3
 | false =>
  rw [if_neg Bool.false_ne_true];exact wpAny_execs_nil ⟨σ1,H2,I2,q2⟩
end
structure It where
 go:Nat->Hp->Prop
 yld:Nat->Hp->V->Hp->Prop
 stop:Nat->Hp->Prop
noncomputable def Nk (X:Cx) (pins:List (Addr×Obj)) (H:Hp) (b:Addr):Prop :=
 H b=none/\b≠X.env.locals/\b ∉ X.fs/\(b∈X.ex\/X.s₀.heap.objs.size<=b)/\(∀ x c,X.env.cells.lookup x=some c->c≠b)/\∀ p∈X.pn++pins,p.1≠b
theorem Inv.fpOk {X:Cx}{pins:List (Addr×Obj)}{σ:St}{H H':Hp}{s:Shared}{b:Addr}(I:Inv X pins σ H s) (hb:s.heap.objs.size<=b) (hn:H' b=none):Nk X pins H' b:=by
 refine ⟨hn,Nat.ne_of_gt (Nat.lt_of_lt_of_le I.lt hb),I.nofs hb,.inr (Nat.le_trans I.sz hb),fun x c e z=>?_,fun p hp z=>?_⟩
 ·obtain ⟨v,q⟩:=I.cell x c e;exact absurd (Nat.lt_of_lt_of_le q.lt (by rw [z];exact hb)) (Nat.lt_irrefl _)
 ·exact absurd (Nat.lt_of_lt_of_le (Heap.lt_size (I.pin p hp).1) (by rw [z];exact hb)) (Nat.lt_irrefl _)
structure Turn (P:Program) (w:World) (K:PySem.W.Frag) (tg:Expr) (J:It) (fp:List Addr) (it:Addr) (tn:Nat->Heap->Prop):Prop where
 mem:it∈fp
 obj:∀ i h,tn i h->∀ b∈fp,∃ o,h.get? b=some o/\∀ v,o.data≠.cell v
 keep:∀ i h h',tn i h->(∀ b∈fp,∀ o,h.get? b=some o->h'.get? b=some o)->tn i h'
 item:∀ (X:Cx),X.prog=P->X.w=w->X.K=K->X.calm=true->∀ (i:Nat) (pins:List (Addr×Obj)) (s:Shared) (σ:St) (H:Hp) (E:Value->Shared->Prop),Inv X pins σ H s->(∀ b∈fp,Nk X pins H b)->tn i s.heap->J.go i H ->
  wpAny (model P w) X.A (pyNext (.ref it)) (fun r s1=>∃ u,r=some u /\
   wpAny (model P w) X.A (letOwnedTupleGo tg (.ref it) u) (fun _ s2=>∃ x H',Inv X pins σ H' s2/\RelV x u/\J.yld i H x H'/\tn (i+1) s2.heap/\∀ b∈fp,H' b=none) E s1) E s
 done:∀ (X:Cx),X.prog=P->X.w=w->X.K=K->X.calm=true->∀ (i:Nat) (pins:List (Addr×Obj)) (s:Shared) (σ:St) (H:Hp) (E:Value->Shared->Prop),Inv X pins σ H s->(∀ b∈fp,Nk X pins H b)->tn i s.heap->J.stop i H ->
  wpAny (model P w) X.A (pyNext (.ref it)) (fun r s1=>r=none/\Inv X pins σ H s1) E s
 self:∀ (A:Around) (i:Nat) (s:Shared) (Q:Value->Shared->Prop) (E:Value->Shared->Prop),tn i s.heap->Q (.ref it) s->wpAny (model P w) A (pyIter (.ref it)) Q E s
noncomputable abbrev TI:=St->Hp->(It->Hp->Prop)->Prop
noncomputable def PIE (X:Cx) (pins:List (Addr×Obj)) (σ:St) (tg:Expr) (R:It->Hp->Prop) (itv:Value) (s2:Shared):Prop :=
 ∃ (it:Addr) (fp:List Addr) (tn:Nat->Heap->Prop) (J:It) (H':Hp),itv=.ref it/\Inv X pins σ H' s2/\Turn X.prog X.w X.K tg J fp it tn/\tn 0 s2.heap/\(∀ b∈fp,Nk X pins H' b)/\R J H'
noncomputable def PI (X:Cx) (tg iter:Expr) (wi:TI):Prop :=
 ∀ (pins:List (Addr×Obj)) (s:Shared) (σ:St) (H:Hp) (R:It->Hp->Prop),Inv X pins σ H s->wi σ H R ->
  wpAny (model X.prog X.w) X.A (eval iter X.env) (fun v s1=>wpAny (model X.prog X.w) X.A (pyIter v) (PIE X pins σ tg R) X.xe s1) X.xe s
theorem W9 {M:Model}{A:Around}{E:Value->Shared->Prop}{s:Shared}{tg:Expr}{it:Addr}{u:Value}{o:Obj}{n:String}{vs:Array Value}{Q:Unit->Shared->Prop}(ho:s.heap.get? it=some o) (hc:o.cls=.type n) (hd:o.data=.fields vs)
    (hn:["enumerate", "zip", "dict_itemiterator", "dict_reverseitemiterator", "odict_iterator", "itertools.zip_longest", "itertools.pairwise"].contains n=false) (hQ:Q () s):wpAny M A (letOwnedTupleGo tg (.ref it) u) Q E s:=by
  unfold letOwnedTupleGo;cases tg <;> first
    | exact wpAny_pure hQ
    | (cases u <;> first
        | exact wpAny_pure hQ
        | (refine wpAny_bind (wpAny_load ho ?_)
           rw [hc,hd]
           show wpAny M A (if (["enumerate", "zip", "dict_itemiterator", "dict_reverseitemiterator", "odict_iterator", "itertools.zip_longest", "itertools.pairwise"].contains n&&vs[0]?==some (rawInt _))=true then _ else _) Q E s;rw [if_neg (by intro h;rw [hn,Bool.false_and] at h;cases h)]
           exact wpAny_pure hQ))
noncomputable def Itl (K:PySem.W.Frag) (a:Addr):It :=
 ⟨fun i H=>∃ xs x,SqL K H a xs/\xs[i]?=some x,fun i H x H'=>H'=H/\∀ xs,SqL K H a xs->xs[i]?=some x,fun i H=>∃ xs,SqL K H a xs/\xs.length<=i⟩
noncomputable def Itt (K:PySem.W.Frag) (a:Addr):It :=
 ⟨fun i H=>∃ xs x,SqT K H a xs/\xs[i]?=some x,fun i H x H'=>H'=H/\∀ xs,SqT K H a xs->xs[i]?=some x,fun i H=>∃ xs,SqT K H a xs/\xs.length<=i⟩
noncomputable def Itr (lo:Int) (n:Nat):It:=⟨fun i _=>i < n,fun i H x H'=>H'=H/\x=.int (lo+i),fun i _=>n<=i⟩
theorem Y4 {P:Program}{w:World}{K:PySem.W.Frag}{tg:Expr}(a it:Addr):Turn P w K tg (Itl K a) [it] it (fun i h=>h.IsListIter it a i) where
 mem:=by simp
 obj:=fun i h st b hb=>by
  have e:b=it:=by simpa using hb
  subst e;obtain ⟨o,e,c,d⟩:=st;exact ⟨o,e,fun v z=>by rw [d] at z;cases z⟩
 keep:=fun i h h' st k=>st.at fun o e=>k it (by simp) o e
 item:=by
  intro X hP hw hK hc i pins s σ H E I hf st hg;subst hP hw hK;obtain ⟨xs,x,hq,hx⟩:=hg;obtain ⟨its,rv,p,hz⟩:=I.list hq;obtain ⟨u,hu,ru⟩:=rv.get hx;obtain ⟨f0,f1,f2,f3,f4,f5⟩:=hf it (by simp);refine wpAny_pyNext_list_item st p.isList (x:=u) (by simpa using hu) fun h' st' sb=>?_
  have I1:Inv X pins σ H { s with heap:=h' }:=I.turned (t':=s.toks) (fun b o hb e=>(sb.2 b hb).trans e) f0 f1 f3 f4 f5;obtain ⟨o,e,c,d⟩:=id st';exact ⟨u,rfl,W9 (s:={ s with heap:=h' }) e c d (by decide) ⟨x,H,I1,ru,⟨rfl,fun ys hy=>by rw [I.list_inj hy hq];exact hx⟩,st',fun b hb=>(hf b hb).1⟩⟩
 done:=by
  intro X hP hw hK hc i pins s σ H E I hf st hg;subst hP hw hK;obtain ⟨xs,hq,hx⟩:=hg;obtain ⟨its,rv,p,hz⟩:=I.list hq;obtain ⟨f0,f1,f2,f3,f4,f5⟩:=hf it (by simp);have hl:=rv.length;exact wpAny_pyNext_list_end (I.ok.hd hc) st p.isList (by simp;omega) fun h' eb=>⟨rfl,I.turned (t':=s.toks) (fun b o hb e=>eb b o hb e) f0 f1 f3 f4 f5⟩
 self:=fun _ _ _ _ _ st h=>wpAny_pyIter_listiter st h
theorem U4 {P:Program}{w:World}{K:PySem.W.Frag}{tg:Expr}(a it:Addr):Turn P w K tg (Itt K a) [it] it (fun i h=>h.IsTupleIter it a i) where
 mem:=by simp
 obj:=fun i h st b hb=>by
  have e:b=it:=by simpa using hb
  subst e;obtain ⟨o,e,c,d⟩:=st;exact ⟨o,e,fun v z=>by rw [d] at z;cases z⟩
 keep:=fun i h h' st k=>st.at fun o e=>k it (by simp) o e
 item:=by
  intro X hP hw hK hc i pins s σ H E I hf st hg;subst hP hw hK;obtain ⟨xs,x,hq,hx⟩:=hg;obtain ⟨its,rv,p,hz⟩:=I.tuple hq;obtain ⟨u,hu,ru⟩:=rv.get hx;obtain ⟨f0,f1,f2,f3,f4,f5⟩:=hf it (by simp);refine wpAny_pyNext_tuple_item st (show s.heap.IsTuple a its.toArray from p) (x:=u) (by simpa using hu) fun h' st' sb=>?_
  have I1:Inv X pins σ H { s with heap:=h' }:=I.turned (t':=s.toks) (fun b o hb e=>(sb.2 b hb).trans e) f0 f1 f3 f4 f5;obtain ⟨o,e,c,d⟩:=id st';exact ⟨u,rfl,W9 (s:={ s with heap:=h' }) e c d (by decide) ⟨x,H,I1,ru,⟨rfl,fun ys hy=>by rw [I.tuple_inj hy hq];exact hx⟩,st',fun b hb=>(hf b hb).1⟩⟩
 done:=by
  intro X hP hw hK hc i pins s σ H E I hf st hg;subst hP hw hK;obtain ⟨xs,hq,hx⟩:=hg;obtain ⟨its,rv,p,hz⟩:=I.tuple hq;obtain ⟨f0,f1,f2,f3,f4,f5⟩:=hf it (by simp);have hl:=rv.length;exact wpAny_pyNext_tuple_end (I.ok.hd hc) st (show s.heap.IsTuple a its.toArray from p) (by simp;omega) fun h' eb=>⟨rfl,I.turned (t':=s.toks) (fun b o hb e=>eb b o hb e) f0 f1 f3 f4 f5⟩
 self:=fun _ _ _ _ _ st h=>wpAny_pyIter_tupleiter st h
theorem U5 {P:Program}{w:World}{K:PySem.W.Frag}{tg:Expr}(it:Addr) (lo:Int) (n:Nat):Turn P w K tg (Itr lo n) [it] it (fun i h=>IsRangeIter h it (lo+(i:Nat) * 1) ((n:Int) - (i:Nat)) 1) where
 mem:=by simp
 obj:=fun i h st b hb=>by
  have e:b=it:=by simpa using hb
  subst e
  exact ⟨_,st,fun v z=>by
   have z':Data.fields _=Data.cell v:=z
   cases z'⟩
 keep:=fun i h h' st k=>k it (by simp) _ st
 item:=by
  intro X hP hw hK hc i pins s σ H E I hf st hg;subst hP hw hK;obtain ⟨f0,f1,f2,f3,f4,f5⟩:=hf it (by simp);have W:=Walks.range (prog:=X.prog) (w:=X.w) (I.ok.hd hc) it lo 1 n;refine W.item i s _ _ hg st fun v h' tk hv st' kk=>?_
  obtain ⟨t,rfl⟩:=hv;have I1:Inv X pins σ H { s with heap:=h',toks:=tk }:=I.turned (fun b o hb e=>kk b o (by simpa using hb) e) f0 f1 f3 f4 f5
  refine ⟨_,rfl,W9 (s:={ s with heap:=h',toks:=tk }) (n := "range_iterator") st' rfl rfl (by decide) ⟨.int (lo+i),H,I1,⟨t,?_⟩,⟨rfl,rfl⟩,st',fun b hb=>(hf b hb).1⟩⟩;rw [Int.mul_one]
 done:=by
  intro X hP hw hK hc i pins s σ H E I hf st hg;subst hP hw hK;obtain ⟨f0,f1,f2,f3,f4,f5⟩:=hf it (by simp);exact wpAny_pyNext_range_end (I.ok.hd hc) st (by have:n<=i:=hg;omega) fun h' eb=>⟨rfl,I.turned (t':=s.toks) (fun b o hb e=>eb b o hb e) f0 f1 f3 f4 f5⟩
 self:=fun _ _ _ _ _ st h=>wpAny_pyIter_rangeiter st h
section
variable {X:Cx}{tg:Expr}
noncomputable def yE (K:PySem.W.Frag) (tl:TE):TI:=fun σ H R=>tl σ H fun x H1=>∃ a,x=.ref a/\(∃ xs,SqL K H1 a xs)/\R (Itl K a) H1
noncomputable def Abe (K:PySem.W.Frag) (tl:TE):TI:=fun σ H R=>tl σ H fun x H1=>∃ a,x=.ref a/\(∃ xs,SqT K H1 a xs)/\R (Itt K a) H1
theorem Xa {l:Expr}{tl:TE}(hl:PE X l tl):PI X tg l (yE X.K tl):=by
 intro pins s σ H R I h;refine thn (hl pins s σ H _ I h) ?_;rintro v s1 ⟨x,H1,I1,r1,q1⟩;obtain ⟨a,e,⟨xs,hq⟩,q⟩:=q1;subst e;cases r1;obtain ⟨its,rv,p,hz⟩:=I1.list hq;refine wpAny_pyIter_list p.isList ?_;refine ⟨s1.heap.objs.size,[s1.heap.objs.size],_,_,H1,rfl,I1.kept (t':=s1.toks) fun b o e=>Heap.get?_push_of_some _ e,Y4 a _,⟨_,Heap.get?_push_size _ rfl,rfl,rfl⟩,fun b hb=>?_,q⟩;have e:b=s1.heap.objs.size:=by simpa using hb
 subst e;exact I1.fpOk (Nat.le_refl _) (I1.hok.fresh (Nat.le_refl _))
theorem rN {l:Expr}{tl:TE}(hl:PE X l tl):PI X tg l (Abe X.K tl):=by
 intro pins s σ H R I h;refine thn (hl pins s σ H _ I h) ?_;rintro v s1 ⟨x,H1,I1,r1,q1⟩;obtain ⟨a,e,⟨xs,hq⟩,q⟩:=q1;subst e;cases r1;obtain ⟨its,rv,p,hz⟩:=I1.tuple hq;refine wpAny_pyIter_tuple (show s1.heap.IsTuple a its.toArray from p) ?_;refine ⟨s1.heap.objs.size,[s1.heap.objs.size],_,_,H1,rfl,I1.kept (t':=s1.toks) fun b o e=>Heap.get?_push_of_some _ e,U4 a _,⟨_,Heap.get?_push_size _ rfl,rfl,rfl⟩,fun b hb=>?_,q⟩;have e:b=s1.heap.objs.size:=by simpa using hb
 subst e;exact I1.fpOk (Nat.le_refl _) (I1.hok.fresh (Nat.le_refl _))
theorem aX {pins:List (Addr×Obj)}{σ:St}{H:Hp}{s:Shared}{R:It->Hp->Prop}{E:Value->Shared->Prop}{lo hi:Int}{t u v:Tok}{tk:Nat}(I:Inv X pins σ H s) (h1:-(2 ^ 62)<=lo) (h2:lo < 2 ^ 62) (h3:-(2 ^ 62)<=hi) (h4:hi < 2 ^ 62)
  (q:R (Itr lo (hi - lo).toNat) H):wpAny (model X.prog X.w) X.A (pyIter (.ref s.heap.objs.size)) (PIE X pins σ tg R) E { s with heap:=s.heap.push { cls:=.type "range",data:=.fields #[.int lo t,.int hi u,.int 1 v] },toks:=tk }:=by
 refine wpAny_pyIter_range (IsRange.new ..) (small_one h1 h2 h3 h4) ?_
 have I1:Inv X pins σ H { s with heap:=s.heap.push { cls:=.type "range",data:=.fields #[.int lo t,.int hi u,.int 1 v] },toks:=tk }:=I.kept fun b o e=>Heap.get?_push_of_some _ e
 refine ⟨(s.heap.push { cls:=.type "range",data:=.fields #[.int lo t,.int hi u,.int 1 v] }).objs.size,[(s.heap.push { cls:=.type "range",data:=.fields #[.int lo t,.int hi u,.int 1 v] }).objs.size],_,_,H,rfl,
  I1.kept (t':=tk) fun b o e=>Heap.get?_push_of_some _ e,U5 _ lo (hi - lo).toNat,?_,fun b hb=>?_,q⟩
 ·have e1:lo+((0:Nat):Int) * 1=lo:=by simp
  have e2:(((hi - lo).toNat:Nat):Int) - ((0:Nat):Int)=Builtin.Range.rangeSize lo hi 1:=by rw [rangeSize_one];split <;> omega
  show IsRangeIter _ _ (lo+((0:Nat):Int) * 1) ((((hi - lo).toNat:Nat):Int) - ((0:Nat):Int)) 1;rw [e1,e2];exact Heap.get?_push_size _ rfl
 ·have e:b=(s.heap.push { cls:=.type "range",data:=.fields #[.int lo t,.int hi u,.int 1 v] }).objs.size:=by simpa using hb
  subst e;exact I1.fpOk (Nat.le_refl _) (I1.hok.fresh (Nat.le_refl _))
noncomputable def yF (ta:TA):TI:=fun σ H R=>ta σ H fun vs H1=>∃ j:Int,vs=[.int j]/\-(2 ^ 62)<=j/\j < 2 ^ 62/\R (Itr 0 j.toNat) H1
theorem Y5 {a:Expr}{ta:TA}{p pos:Pos}(hg:Gl X "range") (hm:X.mg "range"=none) (ha:PA X [a] ta) (hs:starEach [a] X.env=[(false,eval a X.env)]:=by rfl):PI X tg (.Call (.Name "range" p) [a] [] pos) (yF ta):=by
 intro pins s σ H R I h;refine Call_ (K8 I hg hm boot_range (PyProof.Rows.callWith_type1 (thn (ha pos pins s σ H _ I h) ?_) hs rfl));rintro us s1 ⟨vs,H1,I1,r1,q1⟩;obtain ⟨j,e,q1,q2,q⟩:=q1;subst e;cases r1 with
 | cons r rr =>
  cases rr;obtain ⟨t,rfl⟩:=r;exact call_range_1 (aX I1 (by omega) (by omega) q1 q2 (by simpa using q))
noncomputable def Abf (wi:TI) (g:TG) (tb:TS):TS:=fun D σ H=>wi σ H fun J H1=>∃ W:Nat->Nat->St->Hp->Prop,(∃ m,W 0 m σ H1)/\∀ i m σ H,W i m σ H ->
 (J.stop i H/\D.nx σ H)\/(J.go i H/\∃ N:St->Hp->Prop,(∀ σ' H',N σ' H'->∃ m',m' < m/\W (i+1) m' σ' H')/\∀ x H',J.yld i H x H'->g x σ H' fun σ2 H2=>tb { D with nx:=N,ct:=N,bk:=D.nx } σ2 H2)
noncomputable def Hr (fp:List Addr) (h:Heap):List (Addr×Obj):=fp.filterMap fun b=>(h.get? b).map fun o=>(b,o)
theorem Fy {fp:List Addr}{h:Heap}{b:Addr}{o:Obj}(hb:b∈fp) (e:h.get? b=some o):(b,o)∈Hr fp h:=List.mem_filterMap.mpr ⟨b,hb,by rw [e];rfl⟩
theorem Oa {fp:List Addr}{h:Heap}{p:Addr×Obj}(hp:p∈Hr fp h):p.1∈fp/\h.get? p.1=some p.2:=by
 obtain ⟨b,hb,e⟩:=List.mem_filterMap.mp hp;cases q:h.get? b with
 | none=>rw [q] at e;cases e
 | some o =>
  rw [q] at e;have e':(b,o)=p:=Option.some.inj e;subst e';exact ⟨hb,q⟩
theorem Inv.pinned {pins:List (Addr×Obj)}{σ:St}{H:Hp}{s:Shared}{fp:List Addr}(I:Inv X pins σ H s) (hf:∀ b∈fp,Nk X pins H b) (ho:∀ b∈fp,∃ o,s.heap.get? b=some o/\∀ v,o.data≠.cell v):Inv X (pins++Hr fp s.heap) σ H s :=
 I.pins_of fun p hp=>(List.mem_append.mp hp).elim (fun z=>I.pin p (List.mem_append_right _ z)) fun z=>by
  obtain ⟨hb,e⟩:=Oa z;obtain ⟨f0,f1,f2,_⟩:=hf p.1 hb;obtain ⟨o,e',d⟩:=ho p.1 hb;rw [e] at e';cases e';exact ⟨e,f0,f1,f2,d⟩
theorem Inv.unpinned {pins pl:List (Addr×Obj)}{σ:St}{H:Hp}{s:Shared}(I:Inv X (pins++pl) σ H s):Inv X pins σ H s:=I.pins_of fun p hp=>I.pin p (List.mem_append_right _ (List.mem_append_left _ hp))
theorem rO {iter:Expr}{body:List Stmt}{wi:TI}{g:TG}{tb:TS}{pos:Pos}(hp:PassesOwn (model X.prog X.w) X.A X.env X.xe) (hc:X.calm=true) (hi:PI X tg iter wi) (hg:PG X tg g) (hb:PSs X body tb)
  (hs:∀ x,foldedSetIterable iter X.env x=pure x:=by intro _;rfl):PS X (.For tg iter body [] pos) (Abf wi g tb):=by
 intro pins s σ H D I h;refine wpAny_For (thn (hi pins s σ H _ I h) fun v s1 h1=>thn h1 fun itv s2 h2=>?_) hs;obtain ⟨it,fp,tn,J,H2,e,I2,T,st2,f2,W,⟨m0,w0⟩,turn⟩:=h2;subst e
 -- what stays true of the iterator's objects through the loop
 have stat:∀ {H':Hp},(∀ b∈fp,H' b=none)->∀ b∈fp,Nk X pins H' b:=fun hn b hb=>⟨hn b hb,(f2 b hb).2⟩
 refine codeAny_forLoop_any (fun n s'=>∃ i σ' H',Inv X pins σ' H' s'/\tn i s'.heap/\(∀ b∈fp,H' b=none)/\W i n σ' H') ?_ m0 ⟨0,σ,H2,I2,st2,fun b hb=>(f2 b hb).1,w0⟩;rintro n s3 ⟨i,σ3,H3,I3,st3,fr3,w3⟩;rcases turn i n σ3 H3 w3 with ⟨stop,qn⟩|⟨go,N,hN,step⟩
 ·refine wpAny_passesOwn hp (thn (T.done X rfl rfl rfl hc i pins s3 σ3 H3 X.xe I3 (stat fr3) st3 stop) ?_);rintro r s4 ⟨hr,I4⟩;subst hr;exact wpAny_execs_nil ⟨σ3,H3,I4,qn⟩
 ·refine wpAny_passesOwn hp (thn (T.item X rfl rfl rfl hc i pins s3 σ3 H3 X.xe I3 (stat fr3) st3 go) ?_);rintro r s4 ⟨u,hr,h4⟩;subst hr;refine wpAny_passesOwn hp (thn h4 ?_);rintro _ s5 ⟨x,H5,I5,r5,y5,st5,fr5⟩;have I5':=I5.pinned (stat fr5) (T.obj _ _ st5);refine wpAny_passesOwn hp (thn (hg _ s5 σ3 H5 x u _ I5' r5 (step x H5 y5)) ?_);rintro _ s6 ⟨σ6,H6,I6,q6⟩;refine wpAny_passesOwn hp (thn (hb _ s6 σ6 H6 _ I6 q6) fun f s7 q7=>?_);have again:∀ {σ7:St} {H7:Hp},Inv X (pins++Hr fp s5.heap) σ7 H7 s7->N σ7 H7->∃ m,m < n/\∃ i σ' H',Inv X pins σ' H' s7/\tn i s7.heap/\(∀ b∈fp,H' b=none)/\W i m σ' H':=fun {σ7 H7} I7 n7=>by
   obtain ⟨m',hm,w7⟩:=hN σ7 H7 n7;refine ⟨m',hm,i+1,σ7,H7,I7.unpinned,T.keep _ _ _ st5 fun b hb o e=>(I7.pin (b,o) (List.mem_append_right _ (List.mem_append_right _ (Fy hb e)))).1,fun b hb=>?_,w7⟩;obtain ⟨o,e,d⟩:=T.obj _ _ st5 b hb;exact (I7.pin (b,o) (List.mem_append_right _ (List.mem_append_right _ (Fy hb e)))).2.1
  cases f with
  | next=>obtain ⟨σ7,H7,I7,n7⟩:=q7;exact again I7 n7
  | cont=>obtain ⟨σ7,H7,I7,n7⟩:=q7;exact again I7 n7
  | brk=>obtain ⟨σ7,H7,I7,q7⟩:=q7;exact ⟨σ7,H7,I7.unpinned,q7⟩
  | ret v=>obtain ⟨x7,σ7,H7,I7,r7,q7⟩:=q7;exact ⟨x7,σ7,H7,I7.unpinned,r7,q7⟩
end
noncomputable abbrev R2:=V->V->Hp->VK->Prop
noncomputable def OpR (X:Cx) (f:Value->Value->Sem Value) (r:R2):Prop :=
 ∀ (pins:List (Addr×Obj)) (s:Shared) (σ:St) (H:Hp) (x y:V) (v u:Value) (Q:VK),Inv X pins σ H s->RelV x v->RelV y u->r x y H Q ->
  wpAny (model X.prog X.w) X.A (f v u) (EP X pins σ Q) X.xe s
noncomputable def UnR (X:Cx) (f:Value->Sem Value) (r:V->Hp->VK->Prop):Prop :=
 ∀ (pins:List (Addr×Obj)) (s:Shared) (σ:St) (H:Hp) (x:V) (v:Value) (Q:VK),Inv X pins σ H s->RelV x v->r x H Q ->
  wpAny (model X.prog X.w) X.A (f v) (EP X pins σ Q) X.xe s
noncomputable def Ax (X:Cx) (f:Value) (r:List V->Hp->VK->Prop):Prop :=
 ∀ (pins:List (Addr×Obj)) (s:Shared) (σ:St) (H:Hp) (xs:List V) (us:List Value) (Q:VK),Inv X pins σ H s->Vals xs us->r xs H Q ->
  wpAny (model X.prog X.w) X.A (call f us) (EP X pins σ Q) X.xe s
noncomputable def Abg (X:Cx) (r:V->Hp->(Bool->Hp->Prop)->Prop):Prop :=
 ∀ (pins:List (Addr×Obj)) (s:Shared) (σ:St) (H:Hp) (x:V) (v:Value) (Q:Bool->Hp->Prop),Inv X pins σ H s->RelV x v->r x H Q ->
  wpAny (model X.prog X.w) X.A (truthy v) (TP X pins σ Q) X.xe s
noncomputable def tOp (r:R2) (ta tb:TE):TE:=fun σ H Q=>ta σ H fun x H1=>tb σ H1 fun y H2=>r x y H2 Q
noncomputable def tUn (r:V->Hp->VK->Prop) (ta:TE):TE:=fun σ H Q=>ta σ H fun x H1=>r x H1 Q
noncomputable def rI (C:Int->Int->Prop) (g:Int->Int->V):R2:=fun x y H Q=>∃ i j,x=.int i/\y=.int j/\C i j/\Q (g i j) H
noncomputable def rI0 (g:Int->Int->V):R2:=fun x y H Q=>∃ i j,x=.int i/\y=.int j/\Q (g i j) H
noncomputable def rU (g:Int->V):V->Hp->VK->Prop:=fun x H Q=>∃ i,x=.int i/\Q (g i) H
section
variable {X:Cx}{a b c:Expr}{ta tb tc:TE}{pos:Pos}
theorem rP (ha:PE X a ta) (hb:PE X b tb) {pins:List (Addr×Obj)}{s:Shared}{σ:St}{H:Hp}{R:V->V->Hp->Prop}(I:Inv X pins σ H s)
  (h:ta σ H fun x H1=>tb σ H1 fun y H2=>R x y H2) {Q:Value->Shared->Prop} {f:Value->Value->Sem Value}
  (hf:∀ v u s2 x y H2,Inv X pins σ H2 s2->RelV x v->RelV y u->R x y H2->wpAny (model X.prog X.w) X.A (f v u) Q X.xe s2) :
  wpAny (model X.prog X.w) X.A (eval a X.env) (fun v s₁=>wpAny (model X.prog X.w) X.A (eval b X.env) (fun u s₂=>wpAny (model X.prog X.w) X.A (f v u) Q X.xe s₂) X.xe s₁) X.xe s:=by
 refine thn (ha pins s σ H _ I h) ?_;rintro v s1 ⟨x,H1,I1,r1,q1⟩;refine thn (hb pins s1 σ H1 _ I1 q1) ?_;rintro u s2 ⟨y,H2,I2,r2,q2⟩;exact hf v u s2 x y H2 I2 r1 r2 q2
theorem yG {op:Operator}{r:R2}(ho:OpR X (binaryOp op) r) (ha:PE X a ta) (hb:PE X b tb):PE X (.BinOp a op b pos) (tOp r ta tb):=by
 intro pins s σ H Q I h;exact wpAny_BinOp (rP ha hb I h fun v u s2 x y H2 I2 rx ry q=>ho pins s2 σ H2 x y v u Q I2 rx ry q)
theorem yH {op:UnaryOp}{r:V->Hp->VK->Prop}(ho:UnR X (unaryOp op) r) (ha:PE X a ta):PE X (.UnaryOp op a pos) (tUn r ta):=by
 intro pins s σ H Q I h;refine UnaryOp_ (thn (ha pins s σ H _ I h) ?_);rintro v s1 ⟨x,H1,I1,r1,q1⟩;exact ho pins s1 σ H1 x v Q I1 r1 q1
theorem opI {f:Value->Value->Sem Value}{C:Int->Int->Prop}{g:Int->Int->Int}
  (rule:∀ (i j:Int) (t u:Tok) (s:Shared) (Q:Value->Shared->Prop) (E:Value->Shared->Prop),C i j->Q (.int (g i j) s.toks) { s with toks:=s.toks+1 }->wpAny (model X.prog X.w) X.A (f (.int i t) (.int j u)) Q E s) :
  OpR X f (rI C fun i j=>.int (g i j)):=by
 intro pins s σ H x y v u Q I rx ry h;obtain ⟨i,j,rfl,rfl,hc,q⟩:=h;obtain ⟨t,rfl⟩:=rx;obtain ⟨t',rfl⟩:=ry;exact rule i j t t' s _ _ hc ⟨.int (g i j),H,I.tok _,⟨_,rfl⟩,q⟩
theorem yI {f:Value->Value->Sem Value}{g:Int->Int->Int}
  (rule:∀ (i j:Int) (t u:Tok) (s:Shared) (Q:Value->Shared->Prop) (E:Value->Shared->Prop),Q (.int (g i j) s.toks) { s with toks:=s.toks+1 }->wpAny (model X.prog X.w) X.A (f (.int i t) (.int j u)) Q E s) :
  OpR X f (rI0 fun i j=>.int (g i j)):=by
 intro pins s σ H x y v u Q I rx ry h;obtain ⟨i,j,rfl,rfl,q⟩:=h;obtain ⟨t,rfl⟩:=rx;obtain ⟨t',rfl⟩:=ry;exact rule i j t t' s _ _ ⟨.int (g i j),H,I.tok _,⟨_,rfl⟩,q⟩
theorem jG {f:Value->Value->Sem Value}{g:Int->Int->Bool}
  (rule:∀ (i j:Int) (t u:Tok) (s:Shared) (Q:Value->Shared->Prop) (E:Value->Shared->Prop),Q (.bool (g i j)) s->wpAny (model X.prog X.w) X.A (f (.int i t) (.int j u)) Q E s) :
  OpR X f (rI0 fun i j=>.bl (g i j)):=by
 intro pins s σ H x y v u Q I rx ry h;obtain ⟨i,j,rfl,rfl,q⟩:=h;obtain ⟨t,rfl⟩:=rx;obtain ⟨t',rfl⟩:=ry;exact rule i j t t' s _ _ ⟨.bl (g i j),H,I,rfl,q⟩
noncomputable def Abh (i j:Int):Prop:=0<=j/\j<=1000000/\i.natAbs < 2 ^ 64
noncomputable def rQ (i j:Int):Prop:=(-(2 ^ 64) < i/\i < 2 ^ 64)\/(-(2 ^ 64) < j/\j < 2 ^ 64)
theorem rQ.ok {i j:Int}(h:rQ i j):IntMulOk i j:=by
 rcases h with ⟨h1,h2⟩|⟨h1,h2⟩
 ·exact .of_left (intBits_le_64 h1 h2)
 ·exact .of_right (intBits_le_64 h1 h2)
theorem rR:OpR X (binaryOp .Add) (rI0 fun i j=>.int (i+j)):=yI fun _ _ _ _ _ _ _ q=>add_int q
theorem rT:OpR X (binaryOp .Sub) (rI0 fun i j=>.int (i - j)):=yI fun _ _ _ _ _ _ _ q=>sub_int q
theorem rW:OpR X (binaryOp .Mult) (rI rQ fun i j=>.int (i * j)):=opI fun _ _ _ _ _ _ _ hc q=>mul_int q hc.ok
theorem jH:OpR X (binaryOp .Mod) (rI (fun _ j=>j≠0) fun i j=>.int (i.fmod j)):=opI fun _ _ _ _ _ _ _ hc q=>mod_int' hc q
theorem rY:OpR X (binaryOp .Pow) (rI Abh fun i j=>.int (i ^ j.toNat)):=opI fun _ _ _ _ _ _ _ hc q=>pow_int_small hc.1 hc.2.1 hc.2.2 q
theorem unI {f:Value->Sem Value}{g:Int->Int}
  (rule:∀ (i:Int) (t:Tok) (s:Shared) (Q:Value->Shared->Prop) (E:Value->Shared->Prop),Q (.int (g i) s.toks) { s with toks:=s.toks+1 }->wpAny (model X.prog X.w) X.A (f (.int i t)) Q E s) :
  UnR X f (rU fun i=>.int (g i)):=by
 intro pins s σ H x v Q I rx h;obtain ⟨i,rfl,q⟩:=h;obtain ⟨t,rfl⟩:=rx;exact rule i t s _ _ ⟨.int (g i),H,I.tok _,⟨_,rfl⟩,q⟩
theorem rZ:UnR X (unaryOp .USub) (rU fun i=>.int (-i)):=unI fun _ _ _ _ _ q=>neg_int q
end
section
variable {X:Cx}{a b c:Expr}{ta tb tc:TE}{pos:Pos}
theorem yJ:OpR X (compareOp .Lt) (rI0 fun i j=>.bl (decide (i < j))):=jG fun _ _ _ _ _ _ _ q=>lt_int q
theorem yK:OpR X (compareOp .LtE) (rI0 fun i j=>.bl (decide (i<=j))):=jG fun _ _ _ _ _ _ _ q=>le_int q
theorem yL:OpR X (compareOp .Gt) (rI0 fun i j=>.bl (decide (j < i))):=jG fun _ _ _ _ _ _ _ q=>gt_int q
theorem yM:OpR X (compareOp .GtE) (rI0 fun i j=>.bl (decide (j<=i))):=jG fun _ _ _ _ _ _ _ q=>ge_int q
theorem OpR.or {f:Value->Value->Sem Value}{r r':R2}(h:OpR X f r) (h':OpR X f r'):OpR X f (fun x y H Q=>r x y H Q\/r' x y H Q):=by
 intro pins s σ H x y v u Q I rx ry q;rcases q with q|q
 ·exact h pins s σ H x y v u Q I rx ry q
 ·exact h' pins s σ H x y v u Q I rx ry q
theorem jJ {op:CmpOp}{r:R2}(ho:OpR X (compareOp op) r) (ha:PE X a ta) (hb:PE X b tb) (hm:behindInMarks op b=false):PE X (.Compare a [op] [b] pos) (tOp r ta tb):=by
 intro pins s σ H Q I h;exact wpAny_Compare1 (rP ha hb I h fun v u s2 x y H2 I2 rx ry q=>ho pins s2 σ H2 x y v u Q I2 rx ry q) hm
noncomputable def aY (t:TE):TT:=fun σ H Q=>t σ H fun x H'=>∃ k,x=.bl k/\Q k H'
theorem jK {op:CmpOp}{r:R2}(ho:OpR X (compareOp op) r) (ha:PE X a ta) (hb:PE X b tb) (hm:behindInMarks op b=false):PT X (.Compare a [op] [b] pos) (aY (tOp r ta tb)):=by
 intro pins s σ H Q I h
 refine wpAny_isTrue_Compare1 (thn (ha pins s σ H _ I h) fun v s1 ⟨x,H1,I1,r1,q1⟩=>thn (hb pins s1 σ H1 _ I1 q1) fun u s2 ⟨y,H2,I2,r2,q2⟩ =>
  thn (ho pins s2 σ H2 x y v u _ I2 r1 r2 q2) fun c s3 ⟨z,H3,I3,r3,k,e,q3⟩=>?_) hm
 subst e;cases r3;exact wpAny_truthy_bool ⟨H3,I3,q3⟩
noncomputable def U6 (r r':R2) (ta tb tc:TE):TE:=fun σ H Q=>ta σ H fun x H1=>tb σ H1 fun y H2=>r x y H2 fun z H3=>∃ k,z=.bl k /\
 (if k=true then tc σ H3 fun w' H4=>r' y w' H4 Q else Q (.bl false) H3)
theorem aZ {op op':CmpOp}{r r':R2}(ho:OpR X (compareOp op) r) (ho':OpR X (compareOp op') r') (ha:PE X a ta) (hb:PE X b tb) (hc:PE X c tc)
  (hm:lastMarks [op,op'] [b,c]=false:=by with_unfolding_all rfl):PE X (.Compare a [op,op'] [b,c] pos) (U6 r r' ta tb tc):=by
 intro pins s σ H Q I h
 refine Compare_chain (thn (ha pins s σ H _ I h) fun v s1 ⟨x,H1,I1,r1,q1⟩=>chain_link (thn (hb pins s1 σ H1 _ I1 q1) fun u s2 ⟨y,H2,I2,r2,q2⟩ =>
  thn (ho pins s2 σ H2 x y v u _ I2 r1 r2 q2) fun d s3 ⟨z,H3,I3,r3,k,e,q3⟩=>?_)) hm
 subst e;cases r3;refine wpAny_truthy_bool ?_;cases k with
 | false=>exact ite_ff ⟨.bl false,H3,I3,rfl,q3⟩
 | true=>exact ite_tt (chain_last (thn (hc pins s3 σ H3 _ I3 q3) fun w' s4 ⟨z',H4,I4,r4,q4⟩=>ho' pins s4 σ H4 y z' u w' Q I4 r2 r4 q4))
theorem bA {op op':CmpOp}{r r':R2}(ho:OpR X (compareOp op) r) (ho':OpR X (compareOp op') r') (ha:PE X a ta) (hb:PE X b tb) (hc:PE X c tc)
  (hm:lastMarks [op,op'] [b,c]=false:=by with_unfolding_all rfl):PT X (.Compare a [op,op'] [b,c] pos) (aY (U6 r r' ta tb tc)):=by
 intro pins s σ H Q I h
 refine isTrue_chain (thn (ha pins s σ H _ I h) fun v s1 ⟨x,H1,I1,r1,q1⟩=>test_link (thn (hb pins s1 σ H1 _ I1 q1) fun u s2 ⟨y,H2,I2,r2,q2⟩ =>
  thn (ho pins s2 σ H2 x y v u _ I2 r1 r2 q2) fun d s3 ⟨z,H3,I3,r3,k,e,q3⟩=>?_)) hm
 subst e;cases r3;refine wpAny_truthy_bool ?_;cases k with
 | false =>
  obtain ⟨k',e',q'⟩:=q3;cases e';exact ite_ff ⟨H3,I3,q'⟩
 | true =>
  refine ite_tt (test_last (thn (hc pins s3 σ H3 _ I3 q3) ?_));rintro w' s4 ⟨z',H4,I4,r4,q4⟩;refine thn (ho' pins s4 σ H4 y z' u w' _ I4 r2 r4 q4) ?_;rintro d' s5 ⟨z2,H5,I5,r5,k2,e2,q5⟩;subst e2;cases r5;exact wpAny_truthy_bool ⟨H5,I5,q5⟩
noncomputable def sE (K:PySem.W.Frag) (x:V) (H:Hp) (k:Bool):Prop :=
 match x with
 | .non=>k=false
 | .bl b=>k=b
 | .int i=>k=(i != 0)
 | .str y=>y.length<=sizeLine/\k=((y.length:Int) != 0)
 | .byt y=>y.size<=sizeLine/\k=((y.size:Int) != 0)
 | .ref p=>(∃ xs,SqL K H p xs/\k=!xs.isEmpty)\/(∃ xs,SqT K H p xs/\k=!xs.isEmpty)\/∃ kvs,H p=some (.dK kvs)/\k=!kvs.isEmpty
 | _=>False
theorem U7 {κ:Type}{kvs:List (κ×V)}{vs:List (κ×Value)}(r:KV kvs vs):(!vs.isEmpty)=!kvs.isEmpty:=by
 cases r <;> rfl
theorem K9 {xs:List V}{its:List Value}(r:Vals xs its):(!its.toArray.isEmpty)=!xs.isEmpty:=by
 cases r <;> simp
theorem Hs:(sizeLine:Nat) < 2 ^ 63:=by rw [sizeLine_eq];decide
theorem sG:Abg X (fun x H Q=>∃ k,sE X.K x H k/\Q k H):=by
 intro pins s σ H x v Q I rx h;obtain ⟨k,e,q⟩:=h;have hl:=Hs;have hs:sizeLine=16777216:=sizeLine_eq;cases x with
 | non =>
  cases rx;have e':k=false:=e;subst e';exact truthy_none ⟨H,I,q⟩
 | bl b =>
  cases rx;have e':k=b:=e;subst e';exact wpAny_truthy_bool ⟨H,I,q⟩
 | int i =>
  obtain ⟨t,rfl⟩:=rx;have e':k=(i != 0):=e;subst e';exact PySem.P.truthy_int ⟨H,I,q⟩
 | str y =>
  obtain ⟨t,rfl⟩:=rx;obtain ⟨hy,e'⟩:y.length<=sizeLine/\k=((y.length:Int) != 0):=e;subst e';exact PySem.P.truthy_str (by omega) ⟨H,I.tok _,q⟩
 | byt y =>
  obtain ⟨t,rfl⟩:=rx;obtain ⟨hy,e'⟩:y.size<=sizeLine/\k=((y.size:Int) != 0):=e;subst e';exact PySem.W.truthy_bytes (by omega) ⟨H,I.tok _,q⟩
 | ref p =>
  cases rx;have e':(∃ xs,SqL X.K H p xs/\k=!xs.isEmpty)\/(∃ xs,SqT X.K H p xs/\k=!xs.isEmpty)\/∃ kvs,H p=some (.dK kvs)/\k=!kvs.isEmpty:=e;rcases e' with ⟨xs,hx,e'⟩|⟨xs,hx,e'⟩|⟨kvs,hx,e'⟩
  ·subst e';obtain ⟨its,r,pl,hz⟩:=I.list hx;have hlen:=r.length;exact wpAny_truthy_list pl.isList (by simp only [List.size_toArray];omega) ⟨H,I.tok _,by rw [K9 r];exact q⟩
  ·subst e';obtain ⟨its,r,pl,hz⟩:=I.tuple hx;have hlen:=r.length;exact truthy_tuple pl (by simp only [List.size_toArray];omega) ⟨H,I.tok _,by rw [K9 r];exact q⟩
  ·subst e';obtain ⟨hz,hS,vs,r,m⟩:kvs.length<=sizeLine/\(p==sysModules)=false/\∃ vs,KV kvs vs/\s.heap.DictOf (Be X.prog X.w) p vs:=I.hok p _ hx;have hlen:kvs.length=vs.length:=Paired.length r;exact wpAny_truthy_dict hS m (by omega) ⟨H,I.tok _,by rw [U7 r];exact q⟩
 | _=>exact (show False from e).elim
theorem bB (ha:PE X a ta) (he:∀ whole,isTrue a X.env whole=(do let v ← whole;standAt a.pos;holding [v] (truthy v))) :
  PT X a (fun σ H Q=>ta σ H fun x H'=>∃ k,sE X.K x H' k/\Q k H'):=by
 intro pins s σ H Q I h;exact isTrue_plain (thn (ha pins s σ H _ I h) fun v s1 ⟨x,H1,I1,r1,q1⟩=>sG pins s1 σ H1 x v Q I1 r1 q1) (he _)
theorem U8:OpR X (binaryOp .Add) (fun x y H Q=>∃ i j,x=.str i/\y=.str j/\i.length+j.length<=sizeLine/\Q (.str (i++j)) H):=by
 intro pins s σ H x y v u Q I rx ry h;obtain ⟨i,j,rfl,rfl,hz,q⟩:=h;obtain ⟨t,rfl⟩:=rx;obtain ⟨t',rfl⟩:=ry;exact add_str (fun t' tk=>⟨.str (i++j),H,I.tok _,⟨_,rfl⟩,q⟩) hz
theorem vals1 {x:V}{us:List Value}(r:Vals [x] us):∃ u,us=[u]/\RelV x u:=by
 cases r with
 | cons r1 r2=>cases r2;exact ⟨_,rfl,r1⟩
theorem vals2 {x y:V}{us:List Value}(r:Vals [x,y] us):∃ u w',us=[u,w']/\RelV x u/\RelV y w':=by
 cases r with
 | cons r1 r2 =>
  cases r2 with
  | cons r3 r4=>cases r4;exact ⟨_,_,rfl,r1,r3⟩
theorem Y6 (hc:X.calm=true):Ax X (.builtin "min") (fun xs H Q=>∃ i j,xs=[.int i,.int j]/\Q (.int (if j < i then j else i)) H):=by
 intro pins s σ H xs us Q I r h;obtain ⟨i,j,rfl,q⟩:=h;obtain ⟨u,w',rfl,⟨t,rfl⟩,⟨t',rfl⟩⟩:=vals2 r;refine min_two_ints (I.ok.hd hc) fun h' tk k=>⟨_,H,I.kept k,?_,q⟩
 by_cases hj:j < i
 ·rw [if_pos hj,if_pos hj];exact ⟨_,rfl⟩
 ·rw [if_neg hj,if_neg hj];exact ⟨_,rfl⟩
end
structure ObjM (h:Heap) (x dx C:Addr) (mA:Str->Option Value):Prop where
 obj:h.get? x=some (PySem.W.instObj C dx)
 ns:h.Ns1 dx mA
 ne:dx≠x
theorem Y7 {h:Heap}{dx:Addr}{mA:Str->Option Value}(n:h.Ns1 dx mA):∃ od,h.get? dx=some od/\∀ name,PySem.W.lookIn name od=some (mA name):=by
 obtain ⟨o,es,ep,ho,hd,hk,_,hm⟩:=n;refine ⟨o,ho,fun name=>?_⟩;have e:=hm name;unfold nsFind findBy at e;rw [← Array.find?_toList] at e;unfold PySem.W.lookIn;rw [hd];dsimp only;split
 ·rename_i y q;rw [q] at e;exact congrArg some e
 ·rename_i q;rw [q] at e;have a:es.toList.any (·.refKey)=false:=by
   rw [List.any_eq_false];intro y hy;obtain ⟨z,t,hkey⟩:=hk y (Array.mem_toList_iff.mp hy);simp [DictEntry.refKey,hkey]
  have a':¬ es.toList.any (·.refKey)=true:=by rw [a];exact Bool.false_ne_true
  rw [if_neg a'];exact congrArg some e
theorem ObjM.look {h:Heap}{x dx C:Addr}{mA:Str->Option Value}(I:ObjM h x dx C mA):∃ od,PySem.W.InstAt h x (PySem.W.instObj C dx) C (some od)/\∀ name,PySem.W.lookIn name od=some (mA name) :=
 let ⟨od,ho,hl⟩:=Y7 I.ns
 ⟨od,⟨I.obj,rfl,rfl,ho⟩,hl⟩
section
variable {prog:Program}{w:World}{A:Around}{E:Value->Shared->Prop}{s:Shared}{K:PySem.W.Frag}{x dx C f:Addr}{mA:Str->Option Value}{name:Str}{v:Value}
theorem get_map {expr:Bool}{Q:Value->Shared->Prop}(X:K.In s.heap) (I:ObjM s.heap x dx C mA) (hg:PySem.W.plainGet K C name=true) (hh:PySem.W.hasDictIn K C=true)
  (ha:PySem.W.findIn K (.ref C) name=some none) (hv:mA name=some v) (hv':PySem.W.handedIn v=true) (h:Q v { s with toks:=s.toks+1 }) :
  wpAny (model prog w) A (getAttr (.ref x) name expr) Q E s:=by
 obtain ⟨od,J,hl⟩:=I.look;exact PySem.W.get_value X J (PySem.W.plainGet_of hg).1 (PySem.W.findObj_own hh ha rfl (by rw [hl,hv])) hv' h
theorem bC {pl:Sem Bool}{Q:Value×List Value->Shared->Prop}(X:K.In s.heap) (I:ObjM s.heap x dx C mA) (hg:PySem.W.plainGet K C name=true)
  (hf:PySem.W.findIn K (.ref C) name=some (some (.ref f))) (ht:PySem.W.isFn K (.ref f)=true) (hv:mA name=none) (h:Q (.ref f,[.ref x]) s) :
  wpAny (model prog w) A (getMethod (.ref x) name pl) Q E s:=by
 obtain ⟨od,J,hl⟩:=I.look;exact PySem.W.method_fn X J (PySem.W.plainGet_of hg).1 (PySem.W.plainGet_of hg).2 hf (beq_iff_eq.mp ht) (by show (PySem.W.lookIn name od).map (·.isSome)=some false;rw [hl,hv];rfl) h
theorem jL {ns:List Str}{Q:Unit->Shared->Prop}(X:K.In s.heap) (I:ObjM s.heap x dx C mA)
  (hs:PySem.W.findIn K (.ref C) "__setattr__"=some (some (.builtin "object.__setattr__"))) (hp:PySem.W.plainOver K C=true) (ht:PySem.W.takerIn K C name=some none) (hh:PySem.W.hasDictIn K C=true)
  (hw:PySem.Within mA ns) (hsz:ns.length<=sizeLine)
  (h:∀ h',ObjM h' x dx C (fun y=>if y=name then some v else mA y)->Heap.SameBut dx s.heap h'->Q () { s with heap:=h',toks:=s.toks+2 }) :
  wpAny (model prog w) A (setAttr (.ref x) name v) Q E s:=by
 obtain ⟨od,J,hl⟩:=I.look;refine PySem.W.set_plain X J hs (PySem.W.osa_open (s:={ s with toks:=s.toks+1 }) (r:=none) X J hp ht fun b=>?_);obtain ⟨cd,hc,hd'⟩:=PySem.W.any_some hh;have hx:s.heap.get? x=some ⟨.ref C,some dx,.plain,#[]⟩:=I.obj;refine wpAny_bind (wpAny_pure (wpAny_bind (wpAny_bind (wpAny_loadPart hx (wpAny_bind (PySem.W.Looks.here (s:={ s with toks:=s.toks+1 }) (PySem.W.looks_clsIn X hc) ?_))))));rw [hd'];refine wpAny_pure (a:=some dx) (wpAny_bind (wpAny_pure (wpAny_bind ?_)));refine wpAny_nsSet1 (s:={ s with toks:=s.toks+1 }) I.ns fun h' hn2 hs2=>?_
 obtain ⟨oD,esD,epD,hoD,hdD,hcD⟩:=hn2.count (PySem.Within.cons name v hw);refine wpAny_bind (wpAny_lookBehind hoD (by rw [hdD];exact pastItsLine_dict (Nat.le_trans hcD (by rw [List.length_cons];omega))) ?_);exact wpAny_pure (h _ ⟨(hs2.2 _ (Ne.symm I.ne)).trans I.obj,hn2,I.ne⟩ hs2)
theorem bD {R:Result->Shared->Prop}{vs:List Value}{kw:List (Str×Value)}(X:K.In s.heap) (hm:PySem.W.makesIn K C=true)
    (hi:PySem.W.findIn K (.ref C) "__init__"=some (some (.ref f))) (hf:PySem.W.typeIn K (.ref f)=some (.type "function"))
    (h:codeAny (model prog w) (A.under (.builtin "type.__call__" ⟨.ref C::vs,kw⟩)) (.call (.ref f) ⟨.ref (s.heap.objs.size+1)::vs,kw⟩) (PySem.W.InitBack (s.heap.objs.size+1) R)
      { s with heap:=(s.heap.push PySem.W.emptyDict).push (PySem.W.instObj C s.heap.objs.size) }) :
    codeAny (model prog w) A (.call (.ref C) ⟨vs,kw⟩) R s:=by
  obtain ⟨hh,g,d,t,os⟩:=s;exact PySem.W.make_core (PySem.W.makes_of X hm) (PySem.W.looks_findIn X hi) (fun self=>PySem.W.bind_fn X self hf) (.inl rfl) h
end
noncomputable def Gm (f:Str) (v:V):List (Str×V)->List (Str×V)
 | []=>[(f,v)]
 | (g,x)::r=>if g=f then (g,v)::r else (g,x)::Gm f v r
theorem Jx (f g:Str) (v:V):∀ fs:List (Str×V),(Gm f v fs).lookup g=if g=f then some v else fs.lookup g
 | []=>by
  show List.lookup g [(f,v)]=_
  by_cases h:g=f
  ·have hb:(g==f)=true:=beq_iff_eq.mpr h;simp only [List.lookup,hb,if_pos h]
  ·have hb:(g==f)=false:=beq_eq_false_iff_ne.mpr h;simp only [List.lookup,hb,if_neg h]
 | (k,x)::r=>by
  have ih:=Jx f g v r;rw [show Gm f v ((k,x)::r)=(if k=f then (k,v)::r else (k,x)::Gm f v r) from rfl]
  by_cases hk:k=f
  ·rw [if_pos hk]
   by_cases h:g=k
   ·have hb:(g==k)=true:=beq_iff_eq.mpr h;simp only [List.lookup,hb,if_pos (h.trans hk)]
   ·have hb:(g==k)=false:=beq_eq_false_iff_ne.mpr h;simp only [List.lookup,hb,if_neg (fun e:g=f=>h (e.trans hk.symm))]
  ·rw [if_neg hk]
   by_cases h:g=k
   ·have hb:(g==k)=true:=beq_iff_eq.mpr h;simp only [List.lookup,hb,if_neg (fun e:g=f=>hk (h.symm.trans e))]
   ·have hb:(g==k)=false:=beq_eq_false_iff_ne.mpr h;simp only [List.lookup,hb];exact ih
theorem Jk (f:Str) (v:V):∀ fs:List (Str×V),f∈(Gm f v fs).map (·.1)/\∀ g,g∈fs.map (·.1)->g∈(Gm f v fs).map (·.1)
 | []=>⟨by simp [Gm],fun g h=>by simp at h⟩
 | (k,x)::r=>by
  obtain ⟨i1,i2⟩:=Jk f v r;rw [show Gm f v ((k,x)::r)=(if k=f then (k,v)::r else (k,x)::Gm f v r) from rfl]
  by_cases hk:k=f
  ·rw [if_pos hk];subst hk;exact ⟨by simp,fun g h=>by simpa using h⟩
  ·rw [if_neg hk];refine ⟨?_,fun g h=>?_⟩
   ·rw [List.map_cons];exact List.mem_cons_of_mem _ i1
   ·rw [List.map_cons] at h ⊢;rcases List.mem_cons.mp h with e|e
    ·exact List.mem_cons.mpr (.inl e)
    ·exact List.mem_cons_of_mem _ (i2 g e)
theorem Jy (f:Str) (v:V):∀ fs:List (Str×V),(Gm f v fs).length<=fs.length+1
 | []=>by simp [Gm]
 | (k,x)::r=>by
  have ih:=Jy f v r;rw [show Gm f v ((k,x)::r)=(if k=f then (k,v)::r else (k,x)::Gm f v r) from rfl]
  by_cases hk:k=f
  ·rw [if_pos hk,List.length_cons,List.length_cons];omega
  ·rw [if_neg hk,List.length_cons,List.length_cons];omega
theorem Hq.some_of {v:V}{o:Option Value}(r:Hq (some v) o):∃ u,o=some u/\RelV v u:=by
 cases o with
 | none=>exact (show False from r).elim
 | some u=>exact ⟨u,rfl,r⟩
theorem Hq.none_of {o:Option Value}(r:Hq none o):o=none:=by
 cases o with
 | none=>rfl
 | some u=>exact (show False from r).elim
theorem Y8 {v:V}{u:Value}(r:RelV v u):PySem.W.handedIn u=true:=by
 cases v with
 | non=>cases (show u=Value.none from r);rfl
 | bl b=>cases (show u=Value.bool b from r);rfl
 | int i=>obtain ⟨t,e⟩:=(show ∃ t,u=Value.int i t from r);cases e;rfl
 | str x=>obtain ⟨t,e⟩:=(show ∃ t,u=Value.str x t from r);cases e;rfl
 | byt b=>obtain ⟨t,e⟩:=(show ∃ t,u=Value.bytes b t from r);cases e;rfl
 | flt b=>obtain ⟨t,e⟩:=(show ∃ t,u=Value.float b t from r);cases e;rfl
 | ref a=>cases (show u=Value.ref a from r);rfl
 | ty n=>cases (show u=Value.type n from r);rfl
section
variable {P:Program}{w:World}{H H':Hp}{h h':Heap}{a C dx:Addr}{fs fs':List (Str×V)}
theorem Pu (hok:HOk P w H h) (e:H a=some (.ins C dx fs)):∃ mA,ObjM h a dx C mA/\(∀ f,Hq (fs.lookup f) (mA f))/\PySem.Within mA (fs.map (·.1))/\fs.length<=1000/\H dx=some (.own a):=by
 obtain ⟨d,z,ne,ob,mA,n,r,q⟩:=(show Cg P w H h a (.ins C dx fs) from hok a _ e);exact ⟨mA,⟨ob,n,ne⟩,r,q,z,d⟩
end
structure Cls (K:PySem.W.Frag) (C:Addr):Prop where
 pg:PySem.W.plainGet K C Str.empty=true
 hd:PySem.W.hasDictIn K C=true
 po:PySem.W.plainOver K C=true
 sa:PySem.W.findIn K (.ref C) "__setattr__"=some (some (.builtin "object.__setattr__"))
theorem Cls.get {K:PySem.W.Frag}{C:Addr}(c:Cls K C) (f:Str):PySem.W.plainGet K C f=true:=c.pg
noncomputable def Cq (K:PySem.W.Frag) (C:Addr) (f:Str):Prop:=PySem.W.findIn K (.ref C) f=some none
theorem Cq.taker {K:PySem.W.Frag}{C:Addr}{f:Str}(n:Cq K C f):PySem.W.takerIn K C f=some none:=by
 unfold PySem.W.takerIn;rw [show PySem.W.findIn K (.ref C) f=some none from n];rfl
structure Meth (K:PySem.W.Frag) (C:Addr) (m:Str) (f:Addr):Prop where
 at_:PySem.W.findIn K (.ref C) m=some (some (.ref f))
 fn:PySem.W.isFn K (.ref f)=true
 kp:PySem.W.keepIn K (.ref f)=true
section
variable {X:Cx}{pins:List (Addr×Obj)}{σ:St}{H:Hp}{s:Shared}{a C dx:Addr}{fs:List (Str×V)}{f:Str}{v:V}{A:Around}{E:Value->Shared->Prop}
theorem U9 {b:Bool}{Q:Value->Shared->Prop}(I:Inv X pins σ H s) (e:H a=some (.ins C dx fs)) (c:Cls X.K C) (n:Cq X.K C f) (l:fs.lookup f=some v)
  (h:∀ u s',Inv X pins σ H s'->RelV v u->Q u s'):wpAny (model X.prog X.w) A (getAttr (.ref a) f b) Q E s:=by
 obtain ⟨mA,O,r,_,_,_⟩:=Pu I.hok e;obtain ⟨u,hu,ru⟩:=Hq.some_of (v:=v) (o:=mA f) (by rw [← l];exact r f);exact get_map I.kIn O (c.get f) c.hd n hu (Y8 ru) (h u _ (I.tok _) ru)
theorem La {m:Str}{g:Addr}{pl:Sem Bool}{Q:Value×List Value->Shared->Prop}(I:Inv X pins σ H s) (e:H a=some (.ins C dx fs)) (c:Cls X.K C) (k:Meth X.K C m g) (l:fs.lookup m=none)
  (h:Q (.ref g,[.ref a]) s):wpAny (model X.prog X.w) A (getMethod (.ref a) m pl) Q E s:=by
 obtain ⟨mA,O,r,_,_,_⟩:=Pu I.hok e;have hn:mA m=none:=Hq.none_of (by rw [← l];exact r m);exact bC I.kIn O (c.get m) k.at_ k.fn hn h
theorem Va {y:V}{u:Value}{Q:Unit->Shared->Prop}(I:Inv X pins σ H s) (e:H a=some (.ins C dx fs)) (c:Cls X.K C) (n:Cq X.K C f) (hl:fs.length < 1000) (ry:RelV y u)
  (h:∀ s',Inv X pins σ (upd H a (.ins C dx (Gm f y fs))) s'->Q () s'):wpAny (model X.prog X.w) A (setAttr (.ref a) f u) Q E s:=by
 obtain ⟨mA,O,r,wi,_,ho⟩:=Pu I.hok e;have hz:(fs.map (·.1)).length<=sizeLine:=by rw [List.length_map,sizeLine_eq];omega
 refine jL I.kIn O c.sa c.po n.taker c.hd wi hz fun h' O' sb=>h _ ?_
 have hd:∃ o,h'.get? dx=some o:=let ⟨o,_,_,e',_⟩:=O'.ns;⟨o,e'⟩;refine I.write (x:=a) (e:=dx) (by rw [e];exact True.intro) (.inr ho) (fun b q hb z=>(sb.2 b hb).trans z) hd ?_;refine ⟨by rw [Ab O.ne];exact ho,?_,O.ne,O'.obj,_,O'.ns,fun g=>?_,fun g hg=>?_⟩
 ·have:=Jy f y fs;omega
 ·show Hq ((Gm f y fs).lookup g) (if g=f then some u else mA g);rw [Jx]
  by_cases q:g=f
  ·rw [if_pos q,if_pos q];exact ry
  ·rw [if_neg q,if_neg q];exact r g
 ·by_cases q:g=f
  ·rw [q];exact (Jk f y fs).1
  ·refine (Jk f y fs).2 g (wi g fun z=>hg ?_);show (if g=f then some u else mA g)=none;rw [if_neg q];exact z
theorem Inv.made (I:Inv X pins σ H s):Inv X pins σ (upd (upd H s.heap.objs.size (.own (s.heap.objs.size+1))) (s.heap.objs.size+1) (.ins C s.heap.objs.size []))
    { s with heap:=(s.heap.push PySem.W.emptyDict).push (PySem.W.instObj C s.heap.objs.size) }:=by
  have e1:(s.heap.push PySem.W.emptyDict).get? s.heap.objs.size=some PySem.W.emptyDict:=Heap.get?_push_size s.heap rfl;have e2:((s.heap.push PySem.W.emptyDict).push (PySem.W.instObj C s.heap.objs.size)).get? (s.heap.objs.size+1)=some (PySem.W.instObj C s.heap.objs.size):=by
    have:=Heap.get?_push_size (s.heap.push PySem.W.emptyDict) (o:=PySem.W.instObj C s.heap.objs.size) rfl
    rwa [Heap.size_push] at this
  have e3:(s.heap.push PySem.W.emptyDict).Ns s.heap.objs.size (fun _=>none):=⟨PySem.W.emptyDict,#[],_,e1,rfl,(fun e he=>absurd he (by simp)),fun _=>rfl⟩;have I1:=I.laid (a:=s.heap.objs.size) (o:=.own (s.heap.objs.size+1)) (h':=s.heap.push PySem.W.emptyDict) (t':=s.toks) (fun b u q=>Heap.get?_push_of_some _ q) (Nat.le_refl _) ⟨_,e1⟩;refine I1.laid (a:=s.heap.objs.size+1) (o:=.ins C s.heap.objs.size []) (t':=s.toks) (fun b u q=>Heap.get?_push_of_some _ q) (Nat.le_of_eq (Heap.size_push _ _)) ?_;have ne:s.heap.objs.size≠s.heap.objs.size+1:=Nat.ne_of_lt (Nat.lt_succ_self _);refine ⟨by rw [Ab ne,Ak],Nat.zero_le _,ne,e2,fun _=>none,(Heap.Ns1.of_empty e3).at fun o q=>Heap.get?_push_of_some _ q,fun _=>True.intro,fun y hy=>absurd rfl hy⟩
theorem jM {prog:Program}{w:World}{env:Env}{e:Expr}{f:Str}{pos:Pos}{s:Shared}{Q:Value->Shared->Prop}(hb:attributeBase e f env (eval e env)=eval e env)
  (h:wpAny (model prog w) A (eval e env) (fun o s₁=>wpAny (model prog w) A (getAttr o f true) Q E s₁) E s):wpAny (model prog w) A (eval (.Attribute e f pos) env) Q E s :=
 Attribute_any_ h (by rw [arm_eval_Attribute,hb])
end
noncomputable def Abi (K:PySem.W.Frag) (ta:TE) (f:Str):TE:=fun σ H Q=>ta σ H fun x H1=>∃ a C dx fs v,x=.ref a/\H1 a=some (.ins C dx fs)/\Cls K C/\Cq K C f/\fs.lookup f=some v/\Q v H1
noncomputable def Abj (K:PySem.W.Frag) (ta tv:TE) (f:Str):TS:=fun D σ H=>tv σ H fun y H1=>ta σ H1 fun x H2=>∃ a C dx fs,x=.ref a/\H2 a=some (.ins C dx fs)/\Cls K C/\Cq K C f/\fs.length < 1000 /\
 D.nx σ (upd H2 a (.ins C dx (Gm f y fs)))
section
variable {X:Cx}{o e value:Expr}{f:Str}{pos pos' tpos:Pos}{ta tv:TE}
theorem sH (he:PE X e ta) (hb:attributeBase e f X.env (eval e X.env)=eval e X.env):PE X (.Attribute e f pos) (Abi X.K ta f):=by
 intro pins s σ H Q I h;refine jM hb (thn (he pins s σ H _ I h) ?_);rintro u s1 ⟨x,H1,I1,rx,a,C,dx,fs,v,ex,ea,c,n,l,q⟩;subst ex;obtain rfl:u=Value.ref a:=rx;exact U9 I1 ea c n l fun u' s2 I2 ru=>⟨v,H1,I2,ru,q⟩
theorem Vb (ha:PE X o ta) (hv:PE X value tv) (hs:swapsWith value (some (.Attribute o f pos')) pos.line X.env=pure false):PS X (.Assign [.Attribute o f pos'] value pos) (Abj X.K ta tv f):=by
 intro pins s σ H D I h;refine plainObj_wpAny_Assign_Attribute (thn (hv pins s σ H _ I h) fun u s1 ⟨y,H1,I1,ry,q⟩=>thn (ha pins s1 σ H1 _ I1 q) ?_) hs;rintro ov s2 ⟨x,H2,I2,rx,a,C,dx,fs,ex,ea,c,n,l,q2⟩;subst ex;obtain rfl:ov=Value.ref a:=rx;exact Va I2 ea c n l ry fun s3 I3=>⟨σ,_,I3,q2⟩
end
section
variable {X:Cx}{pins:List (Addr×Obj)}{σ:St}{H:Hp}{s:Shared}{A:Around}{E:Value->Shared->Prop}{Q:Value->Shared->Prop}{c:Value}{b:Bool}
end
structure Room (k:Nat) (A:Around):Prop where
 hd:A.handled=none
 dp:A.depth+3 * k+5 < recursionLimit
 un:A.units+16 * k+200 < cLine
theorem Room.mono {j k:Nat}{A:Around}(r:Room k A) (h:j<=k):Room j A:=⟨r.hd,by have:=r.dp;omega,by have:=r.un;omega⟩
theorem Room.deeper {k:Nat}{A:Around}(r:Room (k+1) A) (env:Env):Room k (A.deeper env) :=
 ⟨r.hd,by have:=r.dp;show A.depth+1+3 * k+5 < _;omega,by have:=r.un;show A.units+3+16 * k+200 < _;omega⟩
theorem Vc {A:Around}{C:Addr}{us:List Value}{kw:List (Str×Value)}:(A.under (.builtin "type.__call__" ⟨.ref C::us,kw⟩)).depth=A.depth+1:=by
 first | rfl | simp [Around.under,Code.weight,Code.isCreation,Code.isGuard,Code.isCaller,Code.frames,Code.isFrame,guardIds]
theorem Vd {A:Around}{C:Addr}{us:List Value}{kw:List (Str×Value)}:(A.under (.builtin "type.__call__" ⟨.ref C::us,kw⟩)).units=A.units+1:=by
 first | rfl | simp [Around.under,Code.cUnits,Code.frames,Code.isFrame]
theorem Room.make {k:Nat}{A:Around}(r:Room (k+1) A) (C:Addr) (us:List Value) (kw:List (Str×Value)):Room k (A.under (.builtin "type.__call__" ⟨.ref C::us,kw⟩)) :=
 ⟨r.hd,by have:=r.dp;rw [Vc];omega,by have:=r.un;rw [Vd];omega⟩
theorem Room.depth {k:Nat}{A:Around}(r:Room k A):A.depth < recursionLimit:=by have:=r.dp;omega
theorem Room.units {k:Nat}{A:Around}(r:Room k A):A.units+64 < cLine:=by have:=r.un;omega
noncomputable def sI:TA:=fun _ H Q=>Q [] H
noncomputable def yN (ta:TE) (tr:TA):TA:=fun σ H Q=>ta σ H fun x H1=>tr σ H1 fun xs H2=>Q (x::xs) H2
section
variable {X:Cx}{e:Expr}{es:List Expr}{te:TE}{t:TA}{pos:Pos}
theorem Fz:PA X [] sI:=fun _ _ _ _ H Q I h=>Calls.spliced_nil ⟨[],H,I,.nil,h⟩
theorem Ed (ha:PE X e te) (hr:PA X es t) (hs:starEach (e::es) X.env=(false,eval e X.env)::starEach es X.env:=by rfl):PA X (e::es) (yN te t):=by
 intro pos pins s σ H Q I h;rw [hs];show wpAny _ _ (spliced ((false,eval e X.env)::backTo pos (starEach es X.env))) _ _ s;refine Calls.spliced_cons (thn (ha pins s σ H _ I h) ?_);rintro u s1 ⟨x,H1,I1,r1,q1⟩;refine thn (hr pos pins s1 σ H1 _ I1 q1) ?_;rintro us s2 ⟨xs,H2,I2,r2,q2⟩;exact ⟨x::xs,H2,I2,.cons r1 r2,q2⟩
noncomputable def Abk (t:TA):TE:=fun σ H Q=>t σ H fun xs H1=>xs.length<=sizeLine/\∀ p,H1 p=none->Q (.ref p) (upd H1 p (.tup xs))
noncomputable def Abl (t:TA):TE:=fun σ H Q=>t σ H fun xs H1=>xs.length<=sizeLine/\∀ p,H1 p=none->Q (.ref p) (upd H1 p (.lst xs))
theorem sJ {x1}(h:PA X es t):PE X (.Tuple es x1 pos) (Abk t):=by
 intro pins s σ H Q I hq;refine wpAny_Tuple_spliced (thn (h pos pins s σ H _ I hq) ?_);rintro us s1 ⟨xs,H1,I1,r,z,q⟩;refine ⟨by rw [← r.length];exact z,?_⟩;have hf:H1 s1.heap.objs.size=none:=I1.hok.fresh (Nat.le_refl _);refine ⟨.ref s1.heap.objs.size,upd H1 s1.heap.objs.size (.tup xs),I1.laid (t':=s1.toks) (fun b u e=>Heap.get?_push_of_some _ e) (Nat.le_refl _) ?_,rfl,q _ hf⟩;exact ⟨z,us,r,⟨_,Heap.get?_push_size _ rfl,rfl,rfl,_,rfl⟩⟩
theorem bF (h:PA X es t):PE X (.List es pos) (Abl t):=by
 intro pins s σ H Q I hq;refine wpAny_List_spliced (thn (h pos pins s σ H _ I hq) ?_);rintro us s1 ⟨xs,H1,I1,r,z,q⟩;refine ⟨by rw [← r.length];exact z,?_⟩;have hf:H1 s1.heap.objs.size=none:=I1.hok.fresh (Nat.le_refl _);refine ⟨.ref s1.heap.objs.size,upd H1 s1.heap.objs.size (.lst xs),I1.laid (t':=s1.toks) (fun b u e=>Heap.get?_push_of_some _ e) (Nat.le_refl _) ?_,rfl,q _ hf⟩;exact ⟨z,us,0,r,Heap.get?_push_size _ rfl⟩
end
noncomputable abbrev Sp:=List V->Hp->VK->XK->Prop
noncomputable abbrev CXT:=List Env->Hp->Shared->XK->Value->Shared->Prop
structure Env0 (P:Program) (w:World) (K:PySem.W.Frag) (mg:Str->Option Value) (base:Heap) (A:Around) (outer:List Env) (s:Shared) (H:Hp):Prop where
 frames:A.frames=some outer
 mod:Mod K mg base
 bs:∀ b o,base.get? b=some o->s.heap.get? b=some o/\H b=none
 bsz:base.objs.size<=s.heap.objs.size
 funs:s.heap.FunFrames base outer
 frf:∀ b∈frs outer,H b=none
 hok:HOk P w H s.heap
 bare:AllBare s.gens
noncomputable def CE (outer:List Env) (P:Program) (w:World) (H:Hp) (s:Shared) (Q:VK) (u:Value) (s':Shared):Prop :=
 ∃ v H',s'.os=s.os/\AllBare s'.gens/\Un (frs outer) [] H H' s.heap s'.heap/\HOk P w H' s'.heap/\RelV v u/\Q v H'
noncomputable def CR (CX:CXT) (outer:List Env) (P:Program) (w:World) (H:Hp) (s:Shared) (Q:VK) (E:XK) (r:Result) (s':Shared):Prop :=
 match r with
 | .ok (.ret u)=>CE outer P w H s Q u s'
 | .ok _=>False
 | .error e=>CX outer H s E e s'
structure FnOk (P:Program) (w:World) (K:PySem.W.Frag) (mg:Str->Option Value) (base:Heap) (CX:CXT) (k:Nat) (f:Addr) (fd:FuncData) (ps:List Str) (sp:Sp):Prop where
 len:∀ vs H Q E,sp vs H Q E->vs.length=ps.length
 run:∀ (A:Around) (outer:List Env) (s:Shared) (H:Hp) (args:Args) (us:List Value) (vs:List V) (Q:VK) (E:XK),Room k A->Env0 P w K mg base A outer s H->BindsTo s fd args (ps.zip us)->Vals vs us->sp vs H Q E ->
  codeAny (model P w) A (.call (.ref f) args) (CR CX outer P w H s Q E) s
theorem Env0.make {P:Program}{w:World}{K:PySem.W.Frag}{mg:Str->Option Value}{base:Heap}{A:Around}{outer:List Env}{s:Shared}{H:Hp}(e:Env0 P w K mg base A outer s H) (C:Addr) (us:List Value) (kw:List (Str×Value)) :
  Env0 P w K mg base (A.under (.builtin "type.__call__" ⟨.ref C::us,kw⟩)) outer s H:=⟨by first | exact e.frames | (simpa [Around.under,Code.envs,Code.isFrame,pushEnvs] using e.frames),e.mod,e.bs,e.bsz,e.funs,e.frf,e.hok,e.bare⟩
section
variable {X:Cx}{pins:List (Addr×Obj)}{σ:St}{H:Hp}{s s':Shared}
theorem Inv.env0 (I:Inv X pins σ H s):Env0 X.prog X.w X.K X.mg X.base X.A X.stack s H :=
 ⟨I.ok.frames,I.ok.mod,I.bs,Nat.le_trans I.ok.bsz I.sz,I.stack,I.stkFree,I.hok,I.bare⟩
theorem Inv.after {Q:VK}{u:Value}(I:Inv X pins σ H s) (h:CE X.stack X.prog X.w H s Q u s'):EP X pins σ Q u s':=by
 obtain ⟨v,H',os,bare,un,hok,r,q⟩:=h;obtain ⟨hh,g,d,t,os'⟩:=s';obtain rfl:os'=s.os:=os;exact ⟨v,H',I.call (h':=hh) (g':=g) (d':=d) (t':=t) (ch:=[]) un hok bare (fun b z=>absurd z (by simp)),r,q⟩
end
noncomputable def pI (sp:Sp) (dvs:List V) (E:XK) (t:TA):TE:=fun σ H Q=>t σ H fun vs H1=>sp (vs++dvs) H1 Q E
noncomputable def pJ (C:Addr) (m:Str) (sp:Sp) (dvs:List V) (E:XK) (ta:TE) (t:TA):TE:=fun σ H Q=>ta σ H fun x H1=>∃ a dx fs,x=.ref a/\H1 a=some (.ins C dx fs)/\fs.lookup m=none /\
 t σ H1 fun vs H2=>sp (x::(vs++dvs)) H2 Q E
noncomputable def yO (C:Addr) (sp:Sp) (dvs:List V) (E:XK) (t:TA):TE:=fun σ H Q=>t σ H fun vs H1=>∀ x dx,H1 x=none->H1 dx=none->dx≠x ->
 sp (.ref x::(vs++dvs)) (upd (upd H1 dx (.own x)) x (.ins C dx [])) (fun v H2=>v=.non/\Q (.ref x) H2) E
noncomputable def Binds (K:PySem.W.Frag) (fd:FuncData) (ps:List Str) (ds:List Value):Prop :=
 ∀ (s:Shared) (us:List Value),K.In s.heap->(us++ds).length=ps.length->BindsTo s fd ⟨us,[]⟩ (ps.zip (us++ds))
theorem Binds.all {K:PySem.W.Frag}{fd:FuncData}{ps:List Str}(h:∀ us:List Value,us.length=ps.length->bindArgs fd ⟨us,[]⟩=pure (ps.zip us)):Binds K fd ps []:=fun s us _ hl=>by
 rw [List.append_nil] at hl ⊢;exact .of_eq (h us hl)
noncomputable def Cr (CX:CXT) (X:Cx) (E:XK):Prop:=∀ (pins:List (Addr×Obj)) (σ:St) (H:Hp) (s:Shared) (e:Value) (s':Shared),Inv X pins σ H s->CX X.stack H s E e s'->X.xe e s'
section
variable {X:Cx}{CX:CXT}{k:Nat}{f C:Addr}{fd:FuncData}{ps:List Str}{sp:Sp}{dvs:List V}{ds:List Value}{E:XK}{x m:Str}{p pos apos:Pos}{e o:Expr}{es:List Expr}{ta:TE}{t:TA}
theorem Px {pins:List (Addr×Obj)}{σ:St}{H:Hp}{s:Shared}{Q:VK}{us:List Value}{vs:List V}(F:FnOk X.prog X.w X.K X.mg X.base CX k f fd ps sp) (hr:Room k X.A) (hb:Binds X.K fd ps ds) (hd:Vals dvs ds) (hx:Cr CX X E)
  (I:Inv X pins σ H s) (r:Vals vs us) (h:sp (vs++dvs) H Q E):wpAny (model X.prog X.w) X.A (call (.ref f) us) (EP X pins σ Q) X.xe s:=by
 have r2:Vals (vs++dvs) (us++ds):=r.append hd;have hl:(us++ds).length=ps.length:=by rw [← r2.length];exact F.len _ _ _ _ h
 refine wpAny_call (codeAny_mono (F.run X.A X.stack s H ⟨us,[]⟩ (us++ds) (vs++dvs) Q E hr I.env0 (hb s us I.kIn hl) r2 h) fun r s' hq=>?_);cases r with
 | error e=>exact hx pins σ H s e s' I hq
 | ok fl =>
  cases fl with
  | ret u=>exact I.after hq
  | next=>exact False.elim hq
  | brk=>exact False.elim hq
  | cont=>exact False.elim hq
theorem jN (F:FnOk X.prog X.w X.K X.mg X.base CX k f fd ps sp) (hr:Room k X.A) (hg:Gl X x) (hm:X.mg x=some (.ref f)) (hk:PySem.W.keepIn X.K (.ref f)=true) (hb:Binds X.K fd ps ds) (hd:Vals dvs ds) (hx:Cr CX X E)
  (ha:PA X (e::es) t) (hdb:(x==("__debug__":Str))=false:=by decide) (he:starEach (e::es) X.env=(false,eval e X.env)::starEach es X.env:=by rfl) (hpl:(backTo pos (starEach es X.env)).any (·.1)=false:=by rfl) :
  PE X (.Call (.Name x p) (e::es) [] pos) (pI sp dvs E t):=by
 intro pins s σ H Q I h;refine wpAny_Call_Name_kw (Km I hg hm ?_ hdb);refine PySem.W.callWith_K (h₀:=X.base) I.ok.mod.kin hk (thn (ha pos pins s σ H _ I h) fun us s1 ⟨vs,H1,I1,r,q⟩=>⟨I1.kIn,?_⟩) he hpl;exact Px F hr hb hd hx I1 r q
theorem bG (F:FnOk X.prog X.w X.K X.mg X.base CX k f fd ps sp) (hr:Room k X.A) (hg:Gl X x) (hm:X.mg x=some (.ref f)) (hk:PySem.W.keepIn X.K (.ref f)=true) (hb:Binds X.K fd ps ds) (hd:Vals dvs ds) (hx:Cr CX X E)
  (hdb:(x==("__debug__":Str))=false:=by decide):PE X (.Call (.Name x p) [] [] pos) (pI sp dvs E sI):=by
 intro pins s σ H Q I h;refine wpAny_Call_Name_kw (Km I hg hm ?_ hdb);exact PySem.W.callWith_K0 I.kIn hk (Px (us:=[]) F hr hb hd hx I .nil h)
theorem jO {pl:Sem Bool}(he:PE X o ta) (c:Cls X.K C) (hm:Meth X.K C m f) (F:FnOk X.prog X.w X.K X.mg X.base CX k f fd ps sp) (hr:Room k X.A) (hb:Binds X.K fd ps ds) (hd:Vals dvs ds) (hx:Cr CX X E) (ha:PA X (e::es) t)
  (hst:starEach (e::es) X.env=(false,eval e X.env)::starEach es X.env:=by rfl) (hpl:(backTo pos (starEach es X.env)).any (·.1)=false:=by rfl)
  (ht:eval (.Call (.Attribute o m apos) (e::es) [] pos) X.env=(do
   let ov ← eval o X.env
   standAt apos.atName
   let (f,first) ← holding [ov] (getMethod ov m pl)
   callWith pos f first (backTo pos (starEach (e::es) X.env)) (backToKw pos (keywordEach [] X.env))):=by rfl) :
  PE X (.Call (.Attribute o m apos) (e::es) [] pos) (pJ C m sp dvs E ta t):=by
 intro pins s σ H Q I h;refine PySem.W.methodCall_KW (pl:=pl) (thn (he pins s σ H _ I h) ?_) ht;rintro u s1 ⟨x,H1,I1,rx,a,dx,fs,ex,ea,l,q⟩;subst ex;obtain rfl:u=Value.ref a:=rx;refine La I1 ea c hm l ?_;refine PySem.W.callWith_K (first:=[.ref a]) (h₀:=X.base) I.ok.mod.kin hm.kp (thn (ha pos pins s1 σ H1 _ I1 q) fun us s2 ⟨vs,H2,I2,r,q2⟩=>⟨I2.kIn,?_⟩) hst hpl;exact Px (us:=.ref a::us) (vs:=.ref a::vs) F hr hb hd hx I2 (.cons rfl r) q2
theorem bH {pl:Sem Bool}(he:PE X o ta) (c:Cls X.K C) (hm:Meth X.K C m f) (F:FnOk X.prog X.w X.K X.mg X.base CX k f fd ps sp) (hr:Room k X.A) (hb:Binds X.K fd ps ds) (hd:Vals dvs ds) (hx:Cr CX X E)
  (ht:eval (.Call (.Attribute o m apos) [] [] pos) X.env=(do
   let ov ← eval o X.env
   standAt apos.atName
   let (f,first) ← holding [ov] (getMethod ov m pl)
   callWith pos f first (backTo pos (starEach [] X.env)) (backToKw pos (keywordEach [] X.env))):=by rfl) :
  PE X (.Call (.Attribute o m apos) [] [] pos) (pJ C m sp dvs E ta sI):=by
 intro pins s σ H Q I h;refine PySem.W.methodCall_KW (pl:=pl) (thn (he pins s σ H _ I h) ?_) ht;rintro u s1 ⟨x,H1,I1,rx,a,dx,fs,ex,ea,l,q⟩;subst ex;obtain rfl:u=Value.ref a:=rx;refine La I1 ea c hm l ?_;exact PySem.W.callWith_K0 (first:=[.ref a]) I1.kIn hm.kp (Px (us:=[.ref a]) (vs:=[.ref a]) F hr hb hd hx I1 (.cons rfl .nil) q)
structure Mk (K:PySem.W.Frag) (C f:Addr):Prop where
 makes:PySem.W.makesIn K C=true
 init:PySem.W.findIn K (.ref C) "__init__"=some (some (.ref f))
 fn:PySem.W.isFn K (.ref f)=true
 kp:PySem.W.keepIn K (.ref C)=true
theorem bI {pins:List (Addr×Obj)}{σ:St}{H:Hp}{s:Shared}{Q:VK}{us:List Value}{vs:List V}(M:Mk X.K C f) (F:FnOk X.prog X.w X.K X.mg X.base CX k f fd ps sp) (hr:Room (k+1) X.A) (hb:Binds X.K fd ps ds) (hd:Vals dvs ds)
  (hx:Cr CX X E) (I:Inv X pins σ H s) (r:Vals vs us)
  (h:∀ x dx,H x=none->H dx=none->dx≠x->sp (.ref x::(vs++dvs)) (upd (upd H dx (.own x)) x (.ins C dx [])) (fun v H2=>v=.non/\Q (.ref x) H2) E) :
  wpAny (model X.prog X.w) X.A (call (.ref C) us) (EP X pins σ Q) X.xe s:=by
 have hq:=h (s.heap.objs.size+1) s.heap.objs.size (I.hok.fresh (Nat.le_succ _)) (I.hok.fresh (Nat.le_refl _)) (Nat.ne_of_lt (Nat.lt_succ_self _));have I2:=Inv.made (C:=C) I;have r2:Vals (V.ref (s.heap.objs.size+1)::(vs++dvs)) (Value.ref (s.heap.objs.size+1)::(us++ds)):=.cons rfl (r.append hd);have hl:(Value.ref (s.heap.objs.size+1)::us++ds).length=ps.length:=by
  have e:=r2.length;rw [F.len _ _ _ _ hq] at e;exact e.symm
 refine wpAny_call (bD (f:=f) I.kIn M.makes M.init (beq_iff_eq.mp M.fn) (codeAny_mono (F.run _ X.stack _ _ ⟨Value.ref (s.heap.objs.size+1)::us,[]⟩ (Value.ref (s.heap.objs.size+1)::(us++ds)) _ _ E (hr.make C us [])
  (I2.env0.make C us []) (hb _ (Value.ref (s.heap.objs.size+1)::us) I2.kIn hl) r2 hq) fun r s' hq'=>?_))
 cases r with
 | error e=>exact hx pins σ _ _ e s' I2 hq'
 | ok fl =>
  cases fl with
  | ret u =>
   obtain ⟨v,H',I3,rv,ev,q3⟩:=I2.after hq';subst ev;exact ⟨rv,⟨V.ref (s.heap.objs.size+1),H',I3,rfl,q3⟩⟩
  | next=>exact False.elim hq'
  | brk=>exact False.elim hq'
  | cont=>exact False.elim hq'
theorem jP (M:Mk X.K C f) (F:FnOk X.prog X.w X.K X.mg X.base CX k f fd ps sp) (hr:Room (k+1) X.A) (hg:Gl X x) (hm:X.mg x=some (.ref C)) (hb:Binds X.K fd ps ds) (hd:Vals dvs ds) (hx:Cr CX X E)
  (ha:PA X (e::es) t) (hdb:(x==("__debug__":Str))=false:=by decide) (he:starEach (e::es) X.env=(false,eval e X.env)::starEach es X.env:=by rfl) (hpl:(backTo pos (starEach es X.env)).any (·.1)=false:=by rfl) :
  PE X (.Call (.Name x p) (e::es) [] pos) (yO C sp dvs E t):=by
 intro pins s σ H Q I h;refine wpAny_Call_Name_kw (Km I hg hm ?_ hdb);refine PySem.W.callWith_K (h₀:=X.base) I.ok.mod.kin M.kp (thn (ha pos pins s σ H _ I h) fun us s1 ⟨vs,H1,I1,r,q⟩=>⟨I1.kIn,?_⟩) he hpl;exact bI M F hr hb hd hx I1 r q
end
section
variable {X:Cx}{CX:CXT}{k:Nat}{f C:Addr}{fd:FuncData}{ps ks:List Str}{sp:Sp}{E:XK}{x m:Str}{p pos apos kpos:Pos}{e o:Expr}{es:List Expr}{kws:List Keyword}{te ta:TE}{t tk:TA}{nm:Option Str}
variable {g:List Value->List Value->List Value}{gV:List V->List V->List V}
end
structure FnScope (N P:List Str) (sc:Scope):Prop where
 kind:sc.kind=.function
 co:sc.isCoroutine=false
 gen:sc.isGenerator=false
 nd:N.Nodup
 pre:N.take P.length=P
 par:∀ x∈P,sc.names.lookup x=some .local\/sc.names.lookup x=some .cell
 nofree:∀ y∈sc.names,y.2≠.free
theorem Ob {kindOf:Str->Option NameKind}{x:Str}:∀ {binds:List (Str×Value)}{m:Str->Option Value},(∀ v,(x,v) ∉ binds)->bindL kindOf binds m x=m x
 | [],_,_=>rfl
 | (n,v)::r,m,h=>by
  unfold bindL;rw [Ob fun w hw=>h w (List.mem_cons_of_mem _ hw)];split
  ·have:x≠n:=by rintro rfl;exact h v List.mem_cons_self
   simp [this]
  ·rfl
theorem Oc {kindOf:Str->Option NameKind}{x:Str}:∀ {binds:List (Str×Value)}{m:Str->Option Value},(∀ v,(x,v) ∉ binds)->bindC kindOf binds m x=m x
 | [],_,_=>rfl
 | (n,v)::r,m,h=>by
  unfold bindC;rw [Oc fun w hw=>h w (List.mem_cons_of_mem _ hw)];split
  ·rfl
  ·have:x≠n:=by rintro rfl;exact h v List.mem_cons_self
   simp [this]
theorem Od {kindOf:Str->Option NameKind}{x:Str}{v:Value}:∀ {P:List Str}{vs:List Value}{i:Nat}{m:Str->Option Value},P.Nodup->P[i]?=some x->vs[i]?=some v->kindOf x=some .local ->
  bindL kindOf (P.zip vs) m x=some v
 | [],_,_,_,_,h,_,_=>by simp at h
 | _::_,[],_,_,_,_,h,_=>by simp at h
 | p::P,w::vs,0,m,nd,h1,h2,hk=>by
  simp at h1 h2;subst h1;subst h2;show bindL kindOf ((p,w)::P.zip vs) m p=_;unfold bindL;rw [Ob fun v hv=>(List.nodup_cons.mp nd).1 (List.of_mem_zip hv).1,if_pos hk];simp
 | p::P,w::vs,i+1,m,nd,h1,h2,hk=>by
  show bindL kindOf ((p,w)::P.zip vs) m x=_;unfold bindL;exact Od (i:=i) (List.nodup_cons.mp nd).2 (by simpa using h1) (by simpa using h2) hk
theorem Oe {kindOf:Str->Option NameKind}{x:Str}{v:Value}:∀ {P:List Str}{vs:List Value}{i:Nat}{m:Str->Option Value},P.Nodup->P[i]?=some x->vs[i]?=some v->kindOf x≠some .local ->
  bindC kindOf (P.zip vs) m x=some v
 | [],_,_,_,_,h,_,_=>by simp at h
 | _::_,[],_,_,_,_,h,_=>by simp at h
 | p::P,w::vs,0,m,nd,h1,h2,hk=>by
  simp at h1 h2;subst h1;subst h2;show bindC kindOf ((p,w)::P.zip vs) m p=_;unfold bindC;rw [Oc fun v hv=>(List.nodup_cons.mp nd).1 (List.of_mem_zip hv).1,if_neg hk];simp
 | p::P,w::vs,i+1,m,nd,h1,h2,hk=>by
  show bindC kindOf ((p,w)::P.zip vs) m x=_;unfold bindC;exact Oe (i:=i) (List.nodup_cons.mp nd).2 (by simpa using h1) (by simpa using h2) hk
noncomputable def start (N:List Str) (vs:List V):St:=vs.map some++List.replicate (N.length - vs.length) none
noncomputable def Ve (CX:CXT) (P:Program) (w:World) (K:PySem.W.Frag) (mg:Str->Option Value) (base:Heap) (N:List Str) (qual:Str) (scope:Scope) (f:Addr) (cd:Value) (A:Around) (outer:List Env) (s:Shared) (H:Hp) (E:XK):Cx where
 prog:=P
 w:=w
 K:=K
 mg:=mg
 base:=base
 A:=A.deeper (envOfC qual scope s.heap.objs.size f cd)
 N:=N
 s₀:=s
 H₀:=H
 env:=envOfC qual scope s.heap.objs.size f cd
 outer:=outer
 stack:=envOfC qual scope s.heap.objs.size f cd::outer
 ex:=[]
 calm:=true
 fn:=fun _=>true
 pn:=[]
 xe:=fun e s'=>wpAny (model P w) (A.deeper (envOfC qual scope s.heap.objs.size f cd)) (leaving (envOfC qual scope s.heap.objs.size f cd) e) (fun _ s''=>CX outer H s E e s'') (fun e' s''=>CX outer H s E e' s'') s'
theorem R7 {sc:Scope}{n:Nat}{x:Str}(h:sc.names.lookup x=some .cell):∃ c,(cellsFrom n sc.names []).lookup x=some c:=by
 have q:=PySem.W.cellsFrom_some sc.names n [] (.inl h);exact Option.isSome_iff_exists.mp q
theorem Y9 {CX:CXT}{P:Program}{w:World}{K:PySem.W.Frag}{mg:Str->Option Value}{base:Heap}{N ps:List Str}{qual:Str}{scope:Scope}{f:Addr}{cd:Value}{A:Around}{outer:List Env}{s s1:Shared}{H:Hp}{E:XK}{us:List Value}{vs:List V}
  (S:FnScope N ps scope) (hd:A.handled=none) (e0:Env0 P w K mg base A outer s H) (hl:vs.length=ps.length) (r:Vals vs us)
  (x:InCallC s s.heap.objs.size (bindL (envOfC qual scope s.heap.objs.size f cd).kindOf (ps.zip us) fun _=>none) (cellsFrom (s.heap.objs.size+1) scope.names []) (bindC (envOfC qual scope s.heap.objs.size f cd).kindOf (ps.zip us) fun _=>none) s1) :
  Inv (Ve CX P w K mg base N qual scope f cd A outer s H E) [] (start N vs) H s1:=by
 have hpl:ps.length<=N.length:=by have:=congrArg List.length S.pre;rw [List.length_take] at this;omega
 obtain ⟨h1,tk,rfl,hk⟩:=x.done;have noA:∀ b:Addr,b ∉ (Ve CX P w K mg base N qual scope f cd A outer s H E).ex:=fun b z=>absurd (show b∈([]:List Addr) from z) (by simp)
 refine ⟨⟨e0.mod,S.kind,rfl,rfl,Nat.le_refl _,fun y z c h1 h2=>?_,fun y hy=>?_,fun y c _ h=>?_,fun _=>hd,Around.frames_deeper e0.frames,.inr ⟨rfl,rfl⟩,fun b z=>absurd z (noA b),e0.bs,e0.bsz,fun b _ _=>noA b,fun b z=>absurd z (noA b),e0.funs,e0.frf⟩,
  rfl,e0.bare,Un.kept hk,⟨_,x.toInCall.ns,fun i y v h1 h2 h3=>?_⟩,fun y c h=>⟨_,x.cell y c h⟩,e0.hok.fresh (Nat.le_refl _),fun y c h=>?_,fun p hp=>absurd (show p∈([]:List (Addr×Obj)) from hp) (by simp),e0.hok.kept hk,?_⟩
 ·exact name_of_addr x.apart (PySem.mem_of_lookup h1) (PySem.mem_of_lookup h2)
 ·have hy:scope.names.lookup y=some .cell\/scope.names.lookup y=some .free:=hy;rcases hy with hy|hy
  ·exact R7 hy
  ·exact absurd rfl (S.nofree _ (PySem.mem_of_lookup hy))
 ·exact Nat.le_of_lt (x.above y c (PySem.mem_of_lookup h))
 ·have hi:i < vs.length:=by
   unfold start at h2
   by_cases hi:i < vs.length
   ·exact hi
   ·rw [List.getElem?_append_right (by simpa using hi)] at h2;rw [List.getElem?_replicate] at h2;split at h2 <;> cases h2
  have ha:vs[i]?=some v:=by
   unfold start at h2;rw [List.getElem?_append_left (by simpa using hi),List.getElem?_map] at h2;cases e:vs[i]? with
   | none=>rw [e] at h2;cases h2
   | some a=>rw [e] at h2;cases h2;rfl
  obtain ⟨u,hu,rv⟩:=r.get ha;have hp:ps[i]?=some y:=by
   rw [← S.pre,List.getElem?_take_of_lt (by omega)];exact h1
  have ndP:ps.Nodup:=by rw [← S.pre];exact S.nd.sublist (List.take_sublist _ _)
  refine ⟨u,rv,?_⟩;rcases S.par y (List.mem_of_getElem? hp) with k|k
  ·exact .inl ⟨k,Od ndP hp hu k⟩
  ·obtain ⟨c,e⟩:=R7 (n:=s.heap.objs.size+1) k;refine .inr ⟨.inl k,c,e,?_⟩;have q:=x.cell y c e;rw [Oe ndP hp hu (by show scope.names.lookup y≠_;rw [k];decide)] at q;exact q
 ·exact .inl (e0.hok.fresh (Nat.le_of_lt (x.above y c (PySem.mem_of_lookup h))))
 ·unfold start;show _=N.length;rw [List.length_append,List.length_map,List.length_replicate];omega
theorem yP {CX:CXT}{P:Program}{w:World}{K:PySem.W.Frag}{mg:Str->Option Value}{base:Heap}{k:Nat}{f:Addr}{name qual:Str}{params:Arguments}{body:List Stmt}{scope:Scope}{dV kV doc pm cdv ct oc:Value}{an od:Option Addr}
  {osl:Array (Option Value)} {N ps:List Str} {sp:Sp} (lk:K.lookup f=some ⟨oc,od,.func (PySem.W.fnOf name qual params body scope dV kV doc pm an cdv ct),osl⟩) (hcd:PySem.W.codeIn K cdv qual=true) (S:FnScope N ps scope)
  (len:∀ vs H Q E,sp vs H Q E->vs.length=ps.length)
  (hbody:∀ (A:Around) (outer:List Env) (s:Shared) (H:Hp) (vs:List V) (Q:VK) (E:XK),Room k (A.deeper (envOfC qual scope s.heap.objs.size f cdv))->sp vs H Q E ->
   ∃ t,PSs (Ve CX P w K mg base N qual scope f cdv A outer s H E) body t/\t { nx:=fun _ H'=>Q .non H',rt:=Q } (start N vs) H) :
  FnOk P w K mg base CX (k+1) f (PySem.W.fnOf name qual params body scope dV kV doc pm an cdv ct) ps sp:=by
 refine ⟨len,fun A outer s H args us vs Q E hr e0 hb r hsp=>?_⟩;have hl:=len _ _ _ _ hsp;have KX:K.In s.heap:=e0.mod.kin.keeps fun b o e=>(e0.bs b o e).1
 have lim:s.heap.NoLimit:=e0.mod.nolimit.keeps fun b o e=>(e0.bs b o e).1
 have hkind:∀ y∈ps.zip us,scope.names.lookup y.1=some .local\/(scope.names.lookup y.1=some .cell/\((cellsFrom (s.heap.objs.size+1) scope.names []).lookup y.1).isSome=true):=by
  rintro ⟨n,v⟩ hy;rcases S.par n (List.of_mem_zip hy).1 with q|q
  ·exact .inl q
  ·exact .inr ⟨q,PySem.W.cellsFrom_some _ _ _ (.inl q)⟩
 refine codeAny_call_function hr.depth (KX _ _ lk) rfl S.co S.gen rfl (PySem.W.codeRec_of KX hcd) (hb _ _ _ _ ?_);refine wpAny_newFunctionEnv_cells S.kind hkind fun env he s1 x=>?_
 subst he;refine ⟨lim.keeps x.toInCall.keep,codeAny_func ?_⟩;obtain ⟨t,ht,hq⟩:=hbody A outer s H vs Q E (hr.deeper _) hsp;have I:Inv (Ve CX P w K mg base N qual scope f cdv A outer s H E) [] (start N vs) H s1:=Y9 S hr.hd e0 hl r x;refine wpAny_mono (ht [] s1 (start N vs) H _ I hq) (fun fl s' hs=>?_) fun e s' hs=>hs
 have fin:∀ {σ':St} {H':Hp} {v:V} {u:Value},Inv (Ve CX P w K mg base N qual scope f cdv A outer s H E) [] σ' H' s'->RelV v u->Q v H'->CE outer P w H s Q u s' :=
  fun {σ' H' v u} J rv q=>⟨v,H',J.os,J.bare,J.base,J.hok,rv,q⟩
 cases fl with
 | ret u =>
  obtain ⟨v,σ',H',J,rv,q⟩:=hs;exact fin J rv q
 | next =>
  obtain ⟨σ',H',J,q⟩:=hs;exact fin (v:=V.non) (u:=Value.none) J rfl q
 | brk =>
  obtain ⟨_,_,_,q⟩:=hs;exact False.elim q
 | cont =>
  obtain ⟨_,_,_,q⟩:=hs;exact False.elim q
section
variable {X:Cx}{x:Str}{p pos:Pos}{e:Expr}{es:List Expr}{t:TA}{id T:String}{r:List V->Hp->VK->Prop}
noncomputable def tCB (r:List V->Hp->VK->Prop) (t:TA):TE:=fun σ H Q=>t σ H fun vs H1=>r vs H1 Q
theorem R8 (hc:Ax X (.builtin id) r) (hg:Gl X x) (hm:X.mg x=none) (hv:bootBuiltins x=some (.builtin id)) (ha:PA X (e::es) t) (hn:x ≠ "__name__":=by decide) (hdb:(x==("__debug__":Str))=false:=by decide)
  (he:starEach (e::es) X.env=(false,eval e X.env)::starEach es X.env:=by rfl) (hpl:(backTo pos (starEach es X.env)).any (·.1)=false:=by rfl):PE X (.Call (.Name x p) (e::es) [] pos) (tCB r t):=by
 intro pins s σ H Q I h;refine wpAny_Call_Name_kw (K8 I hg hm hv ?_ hn hdb);exact PyProof.Rows.callWith_builtin1 (thn (ha pos pins s σ H _ I h) fun us s1 ⟨vs,H1,I1,r1,q1⟩=>hc pins s1 σ H1 vs us Q I1 r1 q1) he hpl
theorem Df (hc:Ax X (.type T) r) (hg:Gl X x) (hm:X.mg x=none) (hv:bootBuiltins x=some (.type T)) (ha:PA X (e::es) t) (hn:x ≠ "__name__":=by decide) (hdb:(x==("__debug__":Str))=false:=by decide)
  (he:starEach (e::es) X.env=(false,eval e X.env)::starEach es X.env:=by rfl) (hpl:(backTo pos (starEach es X.env)).any (·.1)=false:=by rfl):PE X (.Call (.Name x p) (e::es) [] pos) (tCB r t):=by
 intro pins s σ H Q I h;refine wpAny_Call_Name_kw (K8 I hg hm hv ?_ hn hdb);exact PyProof.Rows.callWith_type1 (thn (ha pos pins s σ H _ I h) fun us s1 ⟨vs,H1,I1,r1,q1⟩=>hc pins s1 σ H1 vs us Q I1 r1 q1) he hpl
end
end L2
namespace HT
open PySem PyProof.Rows
section
open PySem.SeqAt
open PySem.AutoSeq1 (wpAny_loadPart')
open PySem.MeetsSeq PySem.MeetsSeq2 PySem.MeetsSeq3
end
section
variable {prog:Program}{w:World}{A:Around}{E:Value->Shared->Prop}{s:Shared}
theorem cat_tup {t b:Addr}{vs ws:List Value}{Q:Value->Shared->Prop}(ht:IsTup s.heap t vs.toArray) (hb:IsTup s.heap b ws.toArray) (hv:vs≠[])
  (h1:ws=[]->Q (.ref t) s) (h2:ws≠[]->Q (.ref s.heap.objs.size) { s with heap:=s.heap.push { cls:=.type "tuple",data:=.seq (vs++ws).toArray } })
  (hsz:vs.length+ws.length<=sizeLine):wpAny (model prog w) A (binaryOp .Add (.ref t) (.ref b)) Q E s:=by
 obtain ⟨⟨cls,dd,data,sl⟩,ho,hc,n,hd⟩:=id ht;obtain ⟨⟨cls2,dd2,data2,sl2⟩,ho2,hc2,n2,hd2⟩:=id hb;simp only at hc hd hc2 hd2;subst hc hd hc2 hd2;have e:vs.toArray++ws.toArray=(vs++ws).toArray:=by simp
 by_cases hw:ws=[]
 ·exact concat_meets ⟨_,ho,rfl⟩ ⟨_,ho2,rfl⟩ noFill_tuple_add seq_tuple_add PySem.F.slot_tuple_add PySem.F.entry_tuple_add (PySem.F.args_tuple_add_2 _ _)
   (tuple_addW1 t b vs.toArray ws.toArray n n2 dd dd2 sl sl2 (by simpa using hv) (by simp [hw])) ⟨ho,ho2,h1 hw⟩
 ·refine concat_meets ⟨_,ho,rfl⟩ ⟨_,ho2,rfl⟩ noFill_tuple_add seq_tuple_add PySem.F.slot_tuple_add PySem.F.entry_tuple_add (PySem.F.args_tuple_add_2 _ _)
   (tuple_addW2 t b vs.toArray ws.toArray n n2 dd dd2 sl sl2 (by simpa using hv) (by simpa using hw) (by rw [List.size_toArray,List.size_toArray];exact hsz)) ⟨ho,ho2,?_⟩
  rw [e];exact h2 hw
noncomputable def sIx (n d:Nat):Option Int->Nat
 | none=>d
 | some v=>if v < 0 then (v+(n:Int)).toNat else min v.toNat n
theorem sIx_nat (n d k:Nat):sIx n d (some (k:Int))=min k n:=by
 show (if (k:Int) < 0 then ((k:Int)+(n:Int)).toNat else min (k:Int).toNat n)=min k n;rw [if_neg (by omega),Int.toNat_natCast]
theorem sS (n d:Nat) (hd:d<=n) (o:Option Int):sIx n d o<=n:=by
 cases o with
 | none=>exact hd
 | some v =>
  show (if v < 0 then (v+(n:Int)).toNat else min v.toNat n)<=n
  by_cases hv:v < 0
  ·rw [if_pos hv];omega
  ·rw [if_neg hv];exact Nat.min_le_right _ _
theorem Xb (v:Int) (n d:Nat):(if v < 0 then max (v+(n:Int)) 0 else min v (n:Int))=((sIx n d (some v):Nat):Int):=by
 show (if v < 0 then max (v+(n:Int)) 0 else min v (n:Int))=(((if v < 0 then (v+(n:Int)).toNat else min v.toNat n):Nat):Int)
 by_cases hv:v < 0
 ·simp only [if_pos hv];omega
 ·simp only [if_neg hv];omega
theorem Vf (lo hi:Option Int) (n:Nat):Builtin.Slice.sliceAdjust lo hi 1 (n:Int)=(((sIx n 0 lo:Nat):Int),((sIx n n hi:Nat):Int)):=by
 have h1:¬ ((1:Int) < 0):=by omega
 unfold Builtin.Slice.sliceAdjust;simp only [h1,if_false];refine Prod.ext ?_ ?_
 ·cases lo with
  | none=>rfl
  | some v=>exact Xb v n 0
 ·cases hi with
  | none=>rfl
  | some v=>exact Xb v n n
theorem Vg (i j:Nat):Builtin.Slice.slicePlaces (i:Int) (j:Int) 1=j - i:=by
 unfold Builtin.Slice.slicePlaces;have h1:(1:Int) > 0:=by omega
 simp only [h1,if_true,Int.ediv_one];split <;> omega
theorem Lb {v:Value}{o:Option Int}{Q:Option Int->Shared->Prop}(p:IsPart v o) (h:Q o s):wpAny (model prog w) A (Builtin.Slice.slicePartIndex v) Q E s:=by
 cases p with
 | none=>exact slicePart_none h
 | int i t=>exact slicePart_int h
theorem sliceApplied_gen {sl:Addr}{vl vu:Value}{lo hi:Option Int}{n:Nat}{Q:Int×Int×Nat->Shared->Prop}(hs:s.heap.IsSliceOf sl vl vu .none) (pl:IsPart vl lo) (pu:IsPart vu hi)
  (h:Q (((sIx n 0 lo:Nat):Int),1,sIx n n hi - sIx n 0 lo) s):wpAny (model prog w) A (Builtin.Slice.sliceApplied (.ref sl) (pure (n:Int))) Q E s:=by
 obtain ⟨os,hos,hcs,hds⟩:=id hs;unfold Builtin.Slice.sliceApplied Builtin.Slice.sliceFields;refine wpAny_bind (wpAny_bind (wpAny_field hos hds (x:=vl) rfl (wpAny_bind (wpAny_field hos hds (x:=vu) rfl (wpAny_bind (wpAny_field hos hds (x:=.none) rfl (wpAny_pure ?_)))))));refine wpAny_bind (slicePart_none ?_);show wpAny _ _ (if ((1:Int)==0)=true then _ else _) _ _ s;rw [if_neg (by decide)];refine wpAny_bind (Lb pl (wpAny_bind (Lb pu (wpAny_bind (wpAny_pure ?_)))));show wpAny _ _ (match Builtin.Slice.sliceAdjust lo hi 1 (n:Int) with | (lo,hi)=>pure (lo,(1:Int),Builtin.Slice.slicePlaces lo hi 1)) _ _ s;rw [Vf lo hi n];show wpAny _ _ (pure (((sIx n 0 lo:Nat):Int),(1:Int),Builtin.Slice.slicePlaces ((sIx n 0 lo:Nat):Int) ((sIx n n hi:Nat):Int) 1)) _ _ s;rw [Vg];exact wpAny_pure h
theorem bJ (xs:Array Value) (i k:Nat):((List.range k).filterMap fun (m:Nat)=>xs[((i:Int)+(m:Int) * 1).toNat]?).toArray=((xs.toList.drop i).take k).toArray:=by
 have e:(fun (m:Nat)=>xs[((i:Int)+(m:Int) * 1).toNat]?)=fun m=>xs[i+m]?:=by
  funext m;have:((i:Int)+(m:Int) * 1).toNat=i+m:=by omega
  rw [this]
 rw [e];have:=pick_run xs i k;rw [List.filterMap_map] at this;have e2:((fun x=>xs[x]?) ∘ fun x=>i+x)=fun m=>xs[i+m]?:=rfl
 rw [e2] at this;rw [this]
theorem getItem_tuple_cut {t sl:Addr}{items:Array Value}{vl vu:Value}{lo hi:Option Int}{Q:Value->Shared->Prop}(ht:IsTup s.heap t items) (hs:s.heap.IsSliceOf sl vl vu .none) (pl:IsPart vl lo) (pu:IsPart vu hi)
  (hw:¬ (sIx items.size 0 lo=0/\sIx items.size items.size hi=items.size))
  (h:Q (.ref s.heap.objs.size) { s with heap:=s.heap.push { cls:=.type "tuple",data:=.seq ((items.toList.drop (sIx items.size 0 lo)).take (sIx items.size items.size hi - sIx items.size 0 lo)).toArray } })
  (hsz:items.size<=sizeLine):wpAny (model prog w) A (getItem (.ref t) (.ref sl)) Q E s:=by
 have htake:sizeOk (.seq ((items.toList.drop (sIx items.size 0 lo)).take (sIx items.size items.size hi - sIx items.size 0 lo)).toArray):=by
  show ((items.toList.drop (sIx items.size 0 lo)).take (sIx items.size items.size hi - sIx items.size 0 lo)).toArray.size<=sizeLine;rw [List.size_toArray,List.length_take,List.length_drop,Array.length_toList];omega
 have hj:sIx items.size items.size hi<=items.size:=sS _ _ (Nat.le_refl _) hi;obtain ⟨os,hos,hcs,hds⟩:=id hs
 have hTs:s.TypeIs (.ref sl) "slice":=⟨os,hos,hcs⟩
 unfold getItem
 try with_reducible refine wpAny_holding ?_
 first | refine wpAny_bind (wpAny_pure ?_) | skip
 refine wpAny_bind (wpAny_sequenceKey ht.typeIs (by decide) ?_)
 refine wpAny_bind (wpAny_callSpecial?_slot (name:=Str.ofString "__getitem__") ht.typeIs PyProof.Rows.slot_tuple_getitem
  (wpAny_call_entry PyProof.Rows.slot_tuple_getitem ht.typeIs entry_tuple_getitem ?_ (args_tuple_getitem _ _)))
 show wpAny _ _ (Builtin.Tuple.tupleItemsOf (.ref t) >>= _) _ _ s;refine wpAny_bind (tupleItemsOf_ ht ?_);refine wpAny_bind (wpAny_typeOf hTs ?_);rw [if_pos (by decide)];refine wpAny_bind (sliceApplied_gen hs pl pu ?_);have hno:¬ ((((sIx items.size 0 lo:Nat):Int)==0&&(1:Int)==1&&(sIx items.size items.size hi - sIx items.size 0 lo)==items.size)=true):=by
  intro q;rw [Bool.and_eq_true,Bool.and_eq_true] at q;have q1:((sIx items.size 0 lo:Nat):Int)=0:=eq_of_beq q.1.1;have q2:sIx items.size items.size hi - sIx items.size 0 lo=items.size:=eq_of_beq q.2;exact hw ⟨by omega,by omega⟩
 show wpAny _ _ (if (((sIx items.size 0 lo:Nat):Int)==0&&(1:Int)==1&&(sIx items.size items.size hi - sIx items.size 0 lo)==items.size)=true then _ else _) _ _ s;rw [if_neg hno,bJ]
 first
  | exact wpAny_bind (m:=Builtin.Tuple.tupleExact _) (wpAny_newObj_type (wpAny_pure ⟨_,rfl,wpAny_pure h⟩) htake)
  | exact wpAny_bind (m:=Builtin.Tuple.tupleExact _) (wpAny_newObj_type (wpAny_bind (wpAny_pure (wpAny_pure ⟨_,rfl,wpAny_pure h⟩))) htake)
  | exact wpAny_bind (wpAny_bind (m:=Builtin.Tuple.tupleExact _) (wpAny_newObj_type (wpAny_pure (wpAny_pure ⟨_,rfl,wpAny_pure h⟩)) htake))
  | exact wpAny_bind (wpAny_bind (m:=Builtin.Tuple.tupleExact _) (wpAny_newObj_type (wpAny_pure ⟨_,rfl,wpAny_pure h⟩) htake))
end
end HT
namespace L2
open PySem PySem.Spec PyProof.Rows
noncomputable abbrev TO:=St->Hp->(Option Int->Hp->Prop)->Prop
noncomputable def PO (X:Cx) (e:Option Expr) (t:TO):Prop :=
 ∀ (pins:List (Addr×Obj)) (s:Shared) (σ:St) (H:Hp) (Q:Option Int->Hp->Prop),Inv X pins σ H s->t σ H Q ->
  wpAny (model X.prog X.w) X.A (evalPart e X.env) (fun u s'=>∃ o H',Inv X pins σ H' s'/\IsPart u o/\Q o H') X.xe s
noncomputable def jQ:TO:=fun _ H Q=>Q none H
noncomputable def yQ (t:TE):TO:=fun σ H Q=>t σ H fun x H1=>∃ i,x=.int i/\Q (some i) H1
section
variable {X:Cx}{e:Expr}{te:TE}{lo hi:Option Expr}{tl th:TO}{pos p2:Pos}
theorem jR:PO X none jQ:=by
 intro pins s σ H Q I h;rw [evalPart_none];exact wpAny_pure ⟨none,H,I,.none,h⟩
theorem jT (h:PE X e te):PO X (some e) (yQ te):=by
 intro pins s σ H Q I hw;rw [evalPart_some];refine thn (h pins s σ H _ I hw) ?_;rintro u s1 ⟨x,H1,I1,r1,q1⟩;obtain ⟨i,rfl,q⟩:=q1;obtain ⟨t,rfl⟩:=r1;exact ⟨some i,H1,I1,.int i t,q⟩
noncomputable def SlR (X:Cx) (r:V->Option Int->Option Int->Hp->VK->Prop):Prop :=
 ∀ (pins:List (Addr×Obj)) (s:Shared) (σ:St) (H:Hp) (x:V) (v vl vu:Value) (lo hi:Option Int) (sl:Addr) (Q:VK),Inv X pins σ H s->RelV x v->s.heap.IsSliceOf sl vl vu .none->IsPart vl lo->IsPart vu hi->r x lo hi H Q ->
  ∃ T id,typeLookup (.type T) "__getitem__"=pure (some (.builtin id))/\s.TypeIs v T/\wpAny (model X.prog X.w) X.A (getItem v (.ref sl)) (EP X pins σ Q) X.xe s
theorem SlR.or {r r':V->Option Int->Option Int->Hp->VK->Prop}(h:SlR X r) (h':SlR X r'):SlR X (fun x lo hi H Q=>r x lo hi H Q\/r' x lo hi H Q):=by
 intro pins s σ H x v vl vu lo hi sl Q I rx hs pl pu q;rcases q with q|q
 ·exact h pins s σ H x v vl vu lo hi sl Q I rx hs pl pu q
 ·exact h' pins s σ H x v vl vu lo hi sl Q I rx hs pl pu q
noncomputable def tSl (r:V->Option Int->Option Int->Hp->VK->Prop) (te:TE) (tl th:TO):TE:=fun σ H Q=>te σ H fun x H1=>tl σ H1 fun l H2=>th σ H2 fun u H3=>r x l u H3 Q
theorem bK {r:V->Option Int->Option Int->Hp->VK->Prop}(hr:SlR X r) (he:PE X e te) (hl:PO X lo tl) (hu:PO X hi th):PE X (.Subscript e (.Slice lo hi none p2) pos) (tSl r te tl th):=by
 intro pins s σ H Q I h;refine Subscript_ (thn (he pins s σ H _ I h) ?_);rintro v s1 ⟨x,H1,I1,r1,q1⟩;refine wpAny_Slice (thn (hl pins s1 σ H1 _ I1 q1) ?_);rintro vl s2 ⟨l,H2,I2,pl,q2⟩;refine thn (hu pins s2 σ H2 _ I2 q2) ?_;rintro vu s3 ⟨u,H3,I3,pu,q3⟩;rw [evalPart_none];refine wpAny_pure ?_
 have I4:Inv X pins σ H3 { s3 with heap:=s3.heap.push { cls:=.type "slice",data:=.fields #[vl,vu,.none] } }:=I3.kept (t':=s3.toks) fun b ob q=>Heap.get?_push_of_some _ q
 obtain ⟨T,id,hT,ht,hg⟩:=hr pins { s3 with heap:=s3.heap.push { cls:=.type "slice",data:=.fields #[vl,vu,.none] } } σ H3 x v vl vu l u s3.heap.objs.size Q I4 r1 (Heap.IsSliceOf.new ..) pl pu q3
 show wpAny (model X.prog X.w) X.A (subscriptTail e (.Slice lo hi none p2) v (.ref s3.heap.objs.size)) (EP X pins σ Q) X.xe { s3 with heap:=s3.heap.push { cls:=.type "slice",data:=.fields #[vl,vu,.none] } };exact tail_any (ops:=[.ref s3.heap.objs.size,v]) ht hT hg (by with_unfolding_all rfl)
noncomputable def R9 (xs:List V) (lo hi:Option Int):List V:=(xs.drop (HT.sIx xs.length 0 lo)).take (HT.sIx xs.length xs.length hi - HT.sIx xs.length 0 lo)
theorem Jz (xs:List V) (lo hi:Option Int):(R9 xs lo hi).length<=xs.length:=by
 unfold R9;rw [List.length_take,List.length_drop];omega
noncomputable def Abm (K:PySem.W.Frag):V->Option Int->Option Int->Hp->VK->Prop:=fun x lo hi H Q=>∃ a xs,x=.ref a/\SqT K H a xs /\
 ¬ (HT.sIx xs.length 0 lo=0/\HT.sIx xs.length xs.length hi=xs.length)/\∀ p,H p=none->Q (.ref p) (upd H p (.tup (R9 xs lo hi)))
theorem sU:SlR X (Abm X.K):=by
 intro pins s σ H x v vl vu lo hi sl Q I rx hs pl pu h;obtain ⟨a,xs,rfl,hx,hw,q⟩:=h;cases rx;obtain ⟨its,r,ht,hz⟩:=I.tuple hx;have hlen:its.toArray.size=xs.length:=by rw [List.size_toArray];exact r.length.symm
 refine ⟨"tuple",_,PyProof.Rows.slot_tuple_getitem.lookup,ht.typeIs,?_⟩;refine HT.getItem_tuple_cut ht hs pl pu (by rw [hlen];exact hw) ?_ (by rw [hlen];exact hz);rw [hlen];refine ⟨.ref s.heap.objs.size,_,I.laid (t':=s.toks) (o:=.tup (R9 xs lo hi)) (fun b ob q=>Heap.get?_push_of_some _ q) (Nat.le_refl _) ?_,rfl,q _ (I.hok.fresh (Nat.le_refl _))⟩;exact ⟨Nat.le_trans (Jz xs lo hi) hz,_,(r.drop (HT.sIx xs.length 0 lo)).take (HT.sIx xs.length xs.length hi - HT.sIx xs.length 0 lo),Pq.new _ _⟩
noncomputable def yR (K:PySem.W.Frag):R2:=fun x y H Q=>∃ a b xs ys,x=.ref a/\y=.ref b/\SqT K H a xs/\SqT K H b ys/\xs≠[]/\xs.length+ys.length<=sizeLine /\
 (ys=[]->Q (.ref a) H)/\(ys≠[]->∀ p,H p=none->Q (.ref p) (upd H p (.tup (xs++ys))))
theorem Vals.nil_iff {xs:List V}{us:List Value}(r:Vals xs us):us=[] ↔ xs=[]:=by
 cases r with
 | nil=>simp
 | cons _ _=>simp
theorem jU:OpR X (binaryOp .Add) (yR X.K):=by
 intro pins s σ H x y v u Q I rx ry h;obtain ⟨a,b,xs,ys,rfl,rfl,ha,hb,hx,hz,q1,q2⟩:=h;cases rx;cases ry;obtain ⟨its,r1,p1,_⟩:=I.tuple ha;obtain ⟨its2,r2,p2,_⟩:=I.tuple hb;refine HT.cat_tup p1 p2 (fun z=>hx (r1.nil_iff.mp z)) (fun z=>⟨.ref a,H,I,rfl,q1 (r2.nil_iff.mp z)⟩) (fun z=>?_) (by rw [← r1.length,← r2.length];exact hz);refine ⟨.ref s.heap.objs.size,_,I.laid (t':=s.toks) (o:=.tup (xs++ys)) (fun b ob q=>Heap.get?_push_of_some _ q) (Nat.le_refl _) ?_,rfl,q2 (fun w=>z (r2.nil_iff.mpr w)) _ (I.hok.fresh (Nat.le_refl _))⟩;exact ⟨by rw [List.length_append];exact hz,_,r1.append r2,Pq.new _ _⟩
end
noncomputable def ixN (n:Nat) (i:Int):Option Nat:=if 0<=i then (if i < n then some i.toNat else none) else if -(n:Int)<=i then some (i+n).toNat else none
noncomputable def atI {α:Type}(xs:List α) (i:Int):Option α:=(ixN xs.length i).bind fun j=>xs[j]?
theorem Xc {n:Nat}{i:Int}{j:Nat}(h:ixN n i=some j):seqIndex? i n=some j/\j < n/\-(n:Int)<=i/\i < n:=by
 unfold ixN at h
 by_cases h0:0<=i
 ·rw [if_pos h0] at h
  by_cases h1:i < n
  ·rw [if_pos h1] at h;have e:i.toNat=j:=Option.some.inj h;exact ⟨by rw [seqIndex_of h0 h1,e],by omega,by omega,h1⟩
  ·rw [if_neg h1] at h;cases h
 ·rw [if_neg h0] at h
  by_cases h1:-(n:Int)<=i
  ·rw [if_pos h1] at h;have e:(i+n).toNat=j:=Option.some.inj h;exact ⟨by rw [seqIndex_neg (by omega) h1,e],by omega,h1,by omega⟩
  ·rw [if_neg h1] at h;cases h
theorem Py {α:Type}{xs:List α}{i:Int}{v:α}(h:atI xs i=some v):∃ j,seqIndex? i xs.length=some j/\xs[j]?=some v/\j < xs.length/\-(xs.length:Int)<=i/\i < xs.length:=by
 unfold atI at h;cases e:ixN xs.length i with
 | none=>rw [e] at h;cases h
 | some j =>
  rw [e] at h;obtain ⟨h1,h2,h3,h4⟩:=Xc e;exact ⟨j,h1,h,h2,h3,h4⟩
theorem Pz {α:Type}{xs:List α}{j:Nat}{v:α}(h:xs[j]?=some v):atI xs (j:Int)=some v:=by
 have hj:j < xs.length:=(List.getElem?_eq_some_iff.mp h).1;have e:ixN xs.length (j:Int)=some j:=by
  unfold ixN;rw [if_pos (by omega),if_pos (by omega)];simp
 unfold atI;rw [e];exact h
noncomputable def P0 (b:Expr):Prop:=∀ o i,subscripted b false o i=operate [o,i] (getItem o i)
noncomputable def IxR (X:Cx) (r:R2):Prop :=
 ∀ (value slice:Expr) (pins:List (Addr×Obj)) (s:Shared) (σ:St) (H:Hp) (x y:V) (v u:Value) (Q:VK),Inv X pins σ H s->RelV x v->RelV y u->r x y H Q ->
  subscripted slice false v u=operate [v,u] (getItem v u)->wpAny (model X.prog X.w) X.A (subscriptTail value slice v u) (EP X pins σ Q) X.xe s
noncomputable def MtR (X:Cx) (id:String) (r:V->List V->Hp->VK->Prop):Prop :=
 ∀ (pins:List (Addr×Obj)) (s:Shared) (σ:St) (H:Hp) (x:V) (xs:List V) (v:Value) (us:List Value) (Q:VK),Inv X pins σ H s->RelV x v->Vals xs us->r x xs H Q ->
  wpAny (model X.prog X.w) X.A (call (.builtin id) (v::us)) (EP X pins σ Q) X.xe s
section
variable {X:Cx}{a b:Expr}{ta tb:TE}{pos:Pos}
theorem IxR.or {r r':R2}(h:IxR X r) (h':IxR X r'):IxR X (fun x y H Q=>r x y H Q\/r' x y H Q):=by
 intro value slice pins s σ H x y v u Q I rx ry q hs;rcases q with q|q
 ·exact h value slice pins s σ H x y v u Q I rx ry q hs
 ·exact h' value slice pins s σ H x y v u Q I rx ry q hs
theorem yS {r:R2}(hr:IxR X r) (ha:PE X a ta) (hb:PE X b tb) (hs:P0 b):PE X (.Subscript a b pos) (tOp r ta tb):=by
 intro pins s σ H Q I h;exact Subscript_ (rP ha hb I h fun v u s2 x y H2 I2 rx ry q=>hr a b pins s2 σ H2 x y v u Q I2 rx ry q (hs _ _))
noncomputable def yU (K:PySem.W.Frag):R2:=fun x y H Q=>∃ p xs i v,x=.ref p/\y=.int i/\SqL K H p xs/\atI xs i=some v/\Q v H
noncomputable def yV (K:PySem.W.Frag):R2:=fun x y H Q=>∃ p xs i v,x=.ref p/\y=.int i/\SqT K H p xs/\atI xs i=some v/\Q v H
noncomputable def yW:R2:=fun x y H Q=>∃ z i c,x=.str z/\y=.int i/\z.length<=sizeLine/\atI z.cps.toList i=some c/\Q (.str ⟨#[c]⟩) H
theorem jV:IxR X (yU X.K):=by
 intro value slice pins s σ H x y v u Q I rx ry h hs;obtain ⟨p,xs,i,z,rfl,rfl,hq,he,q⟩:=h;cases rx;obtain ⟨t,rfl⟩:=ry;obtain ⟨its,r,pl,hz⟩:=I.list hq;obtain ⟨j,h1,h2,h3,h4,h5⟩:=Py he;obtain ⟨w,ew,rw'⟩:=r.get h2;have hl:=r.length;have hn:=Hs;have fin:EP X pins σ Q w s:=⟨z,H,I,rw',q⟩
 by_cases h0:0<=i
 ·have hj:i.toNat=j:=by
   rw [seqIndex_of h0 h5] at h1;exact Option.some.inj h1
  exact item_listR pl.isList h0 (by omega) (by rw [hj];simpa using ew) fin hs
 ·have hj:(i+(its.toArray.size:Int)).toNat=j:=by
   rw [seqIndex_neg (by omega) h4] at h1;rw [List.size_toArray,← hl];exact Option.some.inj h1
  exact subscriptTail_builtinR (x:=w) pl.isList.typeIs slot_list_getitem.lookup
   (wpAny_getItem_list_neg (Q:=fun r s'=>r=w/\EP X pins σ Q r s') pl.isList (by omega) (by rw [List.size_toArray] <;> omega) (by omega) (by rw [hj];simpa using ew) ⟨rfl,fin⟩) hs
theorem sV:IxR X (yV X.K):=by
 intro value slice pins s σ H x y v u Q I rx ry h hs;obtain ⟨p,xs,i,z,rfl,rfl,hq,he,q⟩:=h;cases rx;obtain ⟨t,rfl⟩:=ry;obtain ⟨its,r,pl,hz⟩:=I.tuple hq;obtain ⟨j,h1,h2,h3,h4,h5⟩:=Py he;obtain ⟨w,ew,rw'⟩:=r.get h2;have hl:=r.length;have hn:=Hs;have fin:EP X pins σ Q w s:=⟨z,H,I,rw',q⟩;exact subscriptTail_builtinR (x:=w) pl.typeIs slot_tuple_getitem.lookup
  (getItem_tuple (j:=j) (Q:=fun r s'=>r=w/\EP X pins σ Q r s') pl (by omega) (by omega) (by rw [List.size_toArray,← hl];exact h1) (by simpa using ew) ⟨rfl,fin⟩) hs
theorem sW:IxR X yW:=by
 intro value slice pins s σ H x y v u Q I rx ry h hs;obtain ⟨z,i,c,rfl,rfl,hz,he,q⟩:=h;obtain ⟨t,rfl⟩:=rx;obtain ⟨t',rfl⟩:=ry;obtain ⟨j,h1,h2,h3,h4,h5⟩:=Py he;have hl:z.cps.toList.length=z.length:=by simp [Str.length]
 rw [hl] at h1 h4 h5;have hn:=Hs
 exact tail_any (typeIs_str s z t) slot_str_getitem.lookup (getItem_str (c:=c) (by
  have e1:decide (i < -(2 ^ 63:Int))=false:=decide_eq_false (by omega);have e2:decide (i ≥ 2 ^ 63)=false:=decide_eq_false (by omega)
  rw [e1,e2,Bool.or_false]) (by rw [h1];simpa using h2) ⟨.str ⟨#[c]⟩,H,I.tok _,⟨_,rfl⟩,q⟩) hs
noncomputable def rIx (K:PySem.W.Frag):R2:=fun x y H Q=>yU K x y H Q\/yV K x y H Q\/yW x y H Q
theorem sX:IxR X (rIx X.K):=jV.or (sV.or sW)
theorem Vh (its:List Value) (n j:Nat) (u:Value):Obj.mapSeq (·.setIfInBounds j u) { cls:=.type "list",data:=.seq its.toArray n }={ cls:=.type "list",data:=.seq (its.set j u).toArray n }:=by
 simp [Obj.mapSeq]
theorem Inv.lst {pins:List (Addr×Obj)}{σ:St}{H:Hp}{s:Shared}{p:Addr}{xs:List V}(I:Inv X pins σ H s) (h:H p=some (.lst xs)) :
  ∃ (its:List Value) (n:Nat),Vals xs its/\s.heap.get? p=some { cls:=.type "list",data:=.seq its.toArray n }/\xs.length<=sizeLine:=by
 obtain ⟨z,its,n,r,e⟩:=I.hok p _ h;exact ⟨its,n,r,e,z⟩
theorem Inv.lstUpd {pins:List (Addr×Obj)}{σ:St}{H:Hp}{s:Shared}{p:Addr}{xs ys:List V}{its its':List Value}{n n':Nat}{f:Obj->Obj}(I:Inv X pins σ H s) (h:H p=some (.lst xs))
  (ho:s.heap.get? p=some { cls:=.type "list",data:=.seq its.toArray n }) (hf:f { cls:=.type "list",data:=.seq its.toArray n }={ cls:=.type "list",data:=.seq its'.toArray n' }) (r:Vals ys its') (hz:ys.length<=sizeLine) (t:Nat) :
  Inv X pins σ (upd H p (.lst ys)) { s with heap:=s.heap.update p f,toks:=t }:=by
 have e:(s.heap.update p f).get? p=some { cls:=.type "list",data:=.seq its'.toArray n' }:=by
  rw [Heap.get?_update_self f ho (by rw [hf] <;> rfl),hf]
 refine I.write (x:=p) (e:=p) (by rw [h];trivial) (.inl rfl) (fun b u hb q=>(Heap.get?_update_other _ _ (Ne.symm hb)).trans q) ⟨_,e⟩ ?_;exact ⟨hz,its',n',r,e⟩
noncomputable def yX:V->V->V->Hp->(Hp->Prop)->Prop:=fun o i v H Q=>∃ p xs k j,o=.ref p/\i=.int k/\H p=some (.lst xs)/\ixN xs.length k=some j/\Q (upd H p (.lst (xs.set j v)))
theorem set_list:yC X yX:=by
 intro pins s σ H o i v ov iv u Q I ro ri rv h;obtain ⟨p,xs,k,j,rfl,rfl,hp,hj,q⟩:=h;cases ro;obtain ⟨t,rfl⟩:=ri;obtain ⟨its,n,r,ho,hz⟩:=I.lst hp;obtain ⟨h1,h2,h3,h4⟩:=Xc hj;have hl:=r.length;have hn:=Hs;have I':Inv X pins σ (upd H p (.lst (xs.set j v))) { s with heap:=s.heap.update p (Obj.mapSeq (·.setIfInBounds j u)) } :=
  I.lstUpd hp ho (Vh its n j u) (r.set rv j) (by rw [List.length_set];exact hz) s.toks
 by_cases h0:0<=k
 ·have hk:k.toNat=j:=by
   rw [seqIndex_of h0 h4] at h1;exact Option.some.inj h1
  exact PySem.W.ki_setAt ho h0 (by omega) (by rw [List.size_toArray,← hl];exact h4) (by rw [hk];exact ⟨_,I',q⟩)
 ·have hk:(k+(its.toArray.size:Int)).toNat=j:=by
   rw [seqIndex_neg (by omega) h3] at h1;rw [List.size_toArray,← hl];exact Option.some.inj h1
  exact PySem.W.ki_setBack ho (by omega) (by rw [List.size_toArray,← hl];exact h3) (by omega) (by rw [hk];exact ⟨_,I',q⟩)
theorem Qa (lo hi:Option Int) (n:Nat):(sliceBounds lo hi none n).1=((HT.sIx n 0 lo:Nat):Int)/\(sliceBounds lo hi none n).2.1=((HT.sIx n n hi:Nat):Int)/\(sliceBounds lo hi none n).2.2=1:=by
 refine ⟨?_,?_,rfl⟩
 ·cases lo with
  | none=>simp [sliceBounds,HT.sIx]
  | some i =>
   simp only [sliceBounds,HT.sIx,Option.getD_none,show (1:Int) > 0 by decide,if_true]
   by_cases h:i < 0
   ·simp only [h,if_true] <;> omega
   ·simp only [h,if_false] <;> omega
 ·cases hi with
  | none=>simp [sliceBounds,HT.sIx]
  | some i =>
   simp only [sliceBounds,HT.sIx,Option.getD_none,show (1:Int) > 0 by decide,if_true]
   by_cases h:i < 0
   ·simp only [h,if_true] <;> omega
   ·simp only [h,if_false] <;> omega
theorem Nm (its:List Value) (lo hi:Option Int):slicePick its.toArray lo hi none=((its.drop (HT.sIx its.length 0 lo)).take (HT.sIx its.length its.length hi - HT.sIx its.length 0 lo)).toArray:=by
 obtain ⟨h1,h2,h3⟩:=Qa lo hi its.toArray.size;unfold slicePick;rw [h1,h2,h3];simp only [sliceRange_one,pick_run,List.size_toArray] <;> rfl
noncomputable def Abn (K:PySem.W.Frag):V->Option Int->Option Int->Hp->VK->Prop:=fun x lo hi H Q=>∃ a xs,x=.ref a/\SqL K H a xs/\∀ p,H p=none->Q (.ref p) (upd H p (.lst (R9 xs lo hi)))
theorem jW:SlR X (Abn X.K):=by
 intro pins s σ H x v vl vu lo hi sl Q I rx hs pl pu h;obtain ⟨a,xs,rfl,hx,q⟩:=h;cases rx;obtain ⟨its,r,ht,hz⟩:=I.list hx;have hlen:=r.length
 refine ⟨"list",_,slot_list_getitem.lookup,ht.isList.typeIs,?_⟩;refine wpAny_getItem_list_slice ht.isList hs pl pu .none (by simp) ?_ (by rw [List.size_toArray] <;> omega);rw [Nm,← hlen];refine ⟨.ref s.heap.objs.size,_,I.laid (t':=s.toks) (o:=.lst (R9 xs lo hi)) (fun b ob q=>Heap.get?_push_of_some _ q) (Nat.le_refl _) ?_,rfl,q _ (I.hok.fresh (Nat.le_refl _))⟩;exact ⟨Nat.le_trans (Jz xs lo hi) hz,_,0,(r.drop (HT.sIx xs.length 0 lo)).take (HT.sIx xs.length xs.length hi - HT.sIx xs.length 0 lo),Heap.get?_push_size _ rfl⟩
theorem Qc:Ax X (.builtin "len") (fun xs H Q=>∃ p ys,xs=[.ref p]/\(SqL X.K H p ys\/SqT X.K H p ys)/\Q (.int ys.length) H):=by
 intro pins s σ H xs us Q I r h;obtain ⟨p,ys,rfl,hq,q⟩:=h;obtain ⟨u,rfl,rx⟩:=vals1 r;cases rx;have hn:=Hs;rcases hq with hq|hq
 ·obtain ⟨its,r',pl,hz⟩:=I.list hq;have hlen:=r'.length;exact Calls.call_len_list pl.isList (by simp only [List.size_toArray] <;> omega) ⟨.int ys.length,H,I.tok _,⟨s.toks+1,by rw [List.size_toArray,hlen]⟩,q⟩
 ·obtain ⟨its,r',pl,hz⟩:=I.tuple hq;have hlen:=r'.length;exact len_tuple pl (by simp only [List.size_toArray] <;> omega) ⟨.int ys.length,H,I.tok _,⟨s.toks+1,by rw [List.size_toArray,hlen]⟩,q⟩
theorem Qd:Ax X (.builtin "len") (fun xs H Q=>∃ z,xs=[.str z]/\z.length<=sizeLine/\Q (.int z.length) H):=by
 intro pins s σ H xs us Q I r h;obtain ⟨z,rfl,hz,q⟩:=h;obtain ⟨u,rfl,t,rfl⟩:=vals1 r;have hn:=Hs;exact len_str (by omega) ⟨.int z.length,H,I.tok _,⟨_,rfl⟩,q⟩
theorem Ax.or {f:Value}{r r':List V->Hp->VK->Prop}(h:Ax X f r) (h':Ax X f r'):Ax X f (fun xs H Q=>r xs H Q\/r' xs H Q):=by
 intro pins s σ H xs us Q I rs q;rcases q with q|q
 ·exact h pins s σ H xs us Q I rs q
 ·exact h' pins s σ H xs us Q I rs q
theorem Qe:Ax X (.type "list") (fun xs H Q=>∃ p ys,xs=[.ref p]/\(SqL X.K H p ys\/SqT X.K H p ys)/\∀ l,H l=none->Q (.ref l) (upd H l (.lst ys))):=by
 intro pins s σ H xs us Q I r h;obtain ⟨p,ys,rfl,hq,q⟩:=h;obtain ⟨u,rfl,rx⟩:=vals1 r;cases rx;have fin:∀ (its:List Value),Vals ys its->ys.length<=sizeLine->∀ (h':Heap) (c':Nat),(∀ b o',s.heap.get? b=some o'->h'.get? b=some o') ->
   h'.get? s.heap.objs.size=some { cls:=.type "list",dict:=none,data:=.seq its.toArray c',slots:=#[] }->EP X pins σ Q (.ref s.heap.objs.size) { s with heap:=h' }:=fun its r' hz h' c' kp e =>
  ⟨.ref s.heap.objs.size,_,I.laid (t':=s.toks) kp (Nat.le_refl _) (show Cg X.prog X.w _ h' _ (.lst ys) from ⟨hz,its,c',r',e⟩),rfl,q _ (I.hok.fresh (Nat.le_refl _))⟩
 rcases hq with hq|hq
 ·obtain ⟨its,r',pl,hz⟩:=I.list hq;have hlen:=r'.length;obtain ⟨o,ho,hc,n,hd⟩:=pl.isList;exact call_list_seq p (.inl rfl) ho hc hd (fun h' c' kp e=>fin its r' hz h' c' kp e) (by simp only [List.size_toArray] <;> omega)
 ·obtain ⟨its,r',pl,hz⟩:=I.tuple hq;have hlen:=r'.length;obtain ⟨o,ho,hc,n,hd⟩:=pl;exact call_list_seq p (.inr rfl) ho hc hd (fun h' c' kp e=>fin its r' hz h' c' kp e) (by simp only [List.size_toArray] <;> omega)
noncomputable def tyV (K:PySem.W.Frag) (T:String) (x:V) (H:Hp):Prop:=match x with
 | .str _=>T = "str"
 | .int _=>T = "int"
 | .ref p=>(T = "list"/\∃ xs,SqL K H p xs)\/(T = "tuple"/\∃ xs,SqT K H p xs) \/
   (T = "dict"/\((∃ kvs,H p=some (.dK kvs))\/∃ kvs,H p=some (.dT kvs)))\/(T = "set"/\∃ S n,H p=some (.set S n))
 | _=>False
theorem bL {pins:List (Addr×Obj)}{σ:St}{H:Hp}{s:Shared}{T:String}{x:V}{v:Value}(I:Inv X pins σ H s) (r:RelV x v) (ty:tyV X.K T x H) :
  s.TypeIs v T/\∀ a,v=.ref a->∃ ob,s.heap.get? a=some ob/\ob.dict=none:=by
 cases x with
 | str z =>
  obtain ⟨t,rfl⟩:=r
  cases (show T = "str" from ty);exact ⟨typeIs_str s z t,fun _ e=>nomatch e⟩
 | int i =>
  obtain ⟨t,rfl⟩:=r
  cases (show T = "int" from ty);exact ⟨typeIs_int s i t,fun _ e=>nomatch e⟩
 | ref p =>
  cases r;rcases ty with ⟨rfl,xs,hq⟩|⟨rfl,xs,hq⟩|⟨rfl,hk⟩|⟨rfl,S,n,hk⟩
  ·obtain ⟨its,_,pl,_⟩:=I.list hq;refine ⟨pl.isList.typeIs,fun a e=>?_⟩;cases e;obtain ⟨o,n,e,c,hd,_⟩:=pl;exact ⟨o,e,hd⟩
  ·obtain ⟨its,_,⟨o,e,c,d,n,dd⟩,_⟩:=I.tupleP hq;refine ⟨⟨o,e,c⟩,fun a e2=>?_⟩;cases e2;exact ⟨o,e,d⟩
  ·have z:∃ o,s.heap.get? p=some o/\o.ExactDict:=by
    rcases hk with ⟨kvs,hk⟩|⟨kvs,hk⟩
    ·obtain ⟨_,_,_,_,o,_,_,e,ex,_⟩:=I.hok p _ hk;exact ⟨o,e,ex⟩
    ·obtain ⟨_,_,_,_,o,_,_,e,ex,_⟩:=I.hok p _ hk;exact ⟨o,e,ex⟩
   obtain ⟨o,e,ex⟩:=z;refine ⟨⟨o,e,ex.1⟩,fun a e2=>?_⟩;cases e2;exact ⟨o,e,ex.2.1⟩
  ·obtain ⟨o,_,_,_,e,ex,_⟩:=I.hok p _ hk;refine ⟨⟨o,e,ex.1⟩,fun a e2=>?_⟩;cases e2;exact ⟨o,e,ex.2.1⟩
 | _=>exact False.elim ty
noncomputable def Abo (K:PySem.W.Frag) (T:String) (r:V->List V->Hp->VK->Prop) (to:TE):TE:=fun σ H Q=>to σ H fun x H1=>tyV K T x H1/\r x [] H1 Q
noncomputable def tBM (K:PySem.W.Frag) (T:String) (r:V->List V->Hp->VK->Prop) (to:TE) (t:TA):TE:=fun σ H Q=>to σ H fun x H1=>tyV K T x H1/\t σ H1 fun xs H2=>r x xs H2 Q
variable {o e:Expr}{es:List Expr}{to:TE}{t:TA}{name:Str}{apos cpos:Pos}{T id:String}{r:V->List V->Hp->VK->Prop}
theorem sY (pa:PlainAttrs T) (slot:Slot T name id) (hty:typeOf (.builtin id)=pure (.type "method_descriptor")) (hm:MtR X id r) (ho:PE X o to)
  (hbase:attributeBase o name X.env (eval o X.env)=eval o X.env:=by rfl) (hline:(apos.endLine==cpos.line)=true:=by rfl):PE X (.Call (.Attribute o name apos) [] [] cpos) (Abo X.K T r to):=by
 intro pins s σ H Q I h;refine wpAny_Call_method0_late hbase hline (thn (ho pins s σ H _ I h) ?_);rintro v s1 ⟨x,H1,I1,r1,ty,q1⟩;obtain ⟨h1,h2⟩:=bL I1 r1 ty;exact ⟨T,id,pa,slot,hty,h1,h2,Calls.callWith_builtin rfl (PySem.evalArgs_none (hm pins s1 σ H1 x [] v [] Q I1 r1 .nil q1))⟩
theorem yZ (pa:PlainAttrs T) (slot:Slot T name id) (hty:typeOf (.builtin id)=pure (.type "method_descriptor")) (hm:MtR X id r) (ho:PE X o to) (ha:PA X (e::es) t)
  (hbase:attributeBase o name X.env (eval o X.env)=eval o X.env:=by rfl)
  (hfew:((backTo cpos (starEach (e::es) X.env)).all (fun x=>!x.1)&&(backToKw cpos (keywordEach [] X.env)).all (fun x=>x.1.isSome)
   && decide ((e::es).length+([]:List Keyword).length+(if ([]:List Keyword).isEmpty then 0 else 1) < 30))=true:=by rfl)
  (hline:(apos.endLine==cpos.line)=true:=by rfl) (hs:starEach (e::es) X.env=(false,eval e X.env)::starEach es X.env:=by rfl) (hplain:(backTo cpos (starEach es X.env)).any (·.1)=false:=by rfl) :
  PE X (.Call (.Attribute o name apos) (e::es) [] cpos) (tBM X.K T r to t):=by
 intro pins s σ H Q I h;refine wpAny_Call_method_late hbase hfew hline rfl (thn (ho pins s σ H _ I h) ?_);rintro v s1 ⟨x,H1,I1,r1,ty,q1⟩;obtain ⟨h1,h2⟩:=bL I1 r1 ty;refine ⟨T,id,pa,slot,hty,h1,h2,?_⟩;have hA:=ha cpos pins s1 σ H1 _ I1 q1;rw [hs] at hA ⊢;refine Calls.callWith_builtin (by show (false || (backTo cpos (starEach es X.env)).any (·.1))=false;rw [hplain] <;> rfl) (Calls.evalArgs_plain ?_);refine thn hA ?_;rintro us s2 ⟨vs,H2,I2,r2,q2⟩;exact hm pins s2 σ H2 x vs v us Q I2 r1 r2 q2
end
noncomputable def MtM (X:Cx) (id:String) (r:V->List V->Hp->VK->Prop):Prop :=
 ∀ (pins:List (Addr×Obj)) (s:Shared) (σ:St) (H:Hp) (x:V) (xs:List V) (v:Value) (us:List Value) (Q:VK),Inv X pins σ H s->RelV x v->Vals xs us->r x xs H Q ->
  wpAny (model X.prog X.w) X.A (call (.builtin id) (v::us)) (EP X pins σ Q) X.xe s
theorem Vals.one {x:V}{us:List Value}(h:Vals [x] us):∃ u,us=[u]/\RelV x u:=by
 cases h with
 | cons r t=>cases t;exact ⟨_,rfl,r⟩
theorem Vals.two {x y:V}{us:List Value}(h:Vals [x,y] us):∃ u v,us=[u,v]/\RelV x u/\RelV y v:=by
 cases h with
 | cons r t =>
  obtain ⟨v,e,q⟩:=Vals.one t;subst e;exact ⟨_,_,rfl,r,q⟩
theorem Vals.zero:∀ {us:List Value},Vals [] us->us=[]
 | _,.nil=>rfl
theorem Vals.dropLast {xs:List V}{us:List Value}(h:Vals xs us):Vals xs.dropLast us.dropLast:=by
 induction h with
 | nil=>exact .nil
 | cons r t ih =>
  cases t with
  | nil=>exact .nil
  | cons q t'=>exact .cons r ih
theorem Vi {α:Type}(l:List α):l.eraseIdx (l.length - 1)=l.dropLast:=by
 induction l with
 | nil=>rfl
 | cons a r ih =>
  cases r with
  | nil=>rfl
  | cons b r =>
   have e:(a::b::r).length - 1=((b::r).length - 1)+1:=by
    have h1:(a::b::r).length=r.length+2:=rfl;have h2:(b::r).length=r.length+1:=rfl;omega
   rw [e,List.eraseIdx_cons_succ,ih]
   all_goals rfl
section
variable {X:Cx}{pins:List (Addr×Obj)}{σ:St}{H:Hp}{s:Shared}{l b:Addr}{xs ys zs:List V}
theorem Inv.lset {its its':List Value}{n:Nat}{f:Array Value->Array Value}{t':Nat}(I:Inv X pins σ H s) (hH:H l=some (.lst xs))
  (e:s.heap.get? l=some { cls:=.type "list",data:=.seq its.toArray n }) (hf:f its.toArray=its'.toArray) (hv:Vals ys its') (hz:ys.length<=sizeLine) :
  Inv X pins σ (upd H l (.lst ys)) { s with heap:=s.heap.update l (Obj.mapSeq f),toks:=t' }:=by
 have q:=PySem.IsL.update e f;rw [hf] at q;refine I.write (x:=l) (e:=l) (by rw [hH];exact trivial) (.inl rfl) (fun b' u hb hu=>(Heap.get?_update_other s.heap (Obj.mapSeq f) (Ne.symm hb)).trans hu) ⟨_,q⟩ ?_;exact ⟨hz,its',_,hv,q⟩
theorem Inv.lnew {its:List Value}{t':Nat}(I:Inv X pins σ H s) (hv:Vals ys its) (hz:ys.length<=sizeLine) :
  Inv X pins σ (upd H s.heap.objs.size (.lst ys)) { s with heap:=s.heap.push { cls:=.type "list",data:=.seq its.toArray },toks:=t' } :=
 I.laid (fun _ _ q=>Heap.get?_push_of_some _ q) (Nat.le_refl _) ⟨hz,its,0,hv,Heap.get?_push_size _ rfl⟩
theorem Inv.fresh (I:Inv X pins σ H s):H s.heap.objs.size=none:=I.hok.fresh (Nat.le_refl _)
theorem Inv.lstM (I:Inv X pins σ H s) (hH:H l=some (.lst xs)):xs.length<=sizeLine/\∃ (its:List Value) (n:Nat),Vals xs its/\xs.length=its.length/\s.heap.get? l=some { cls:=.type "list",data:=.seq its.toArray n }:=by
 obtain ⟨z,its,n,r,e⟩:=I.hok l _ hH;exact ⟨z,its,n,r,r.length,e⟩
end
section
variable {X:Cx}
noncomputable def jX:V->List V->Hp->VK->Prop:=fun x vs H Q=>∃ l xs y,x=.ref l/\vs=[y]/\H l=some (.lst xs)/\xs.length < sizeLine/\Q .non (upd H l (.lst (xs++[y])))
theorem Za:MtM X "list.append" jX:=by
 intro pins s σ H x vs v us Q I rx rv h;obtain ⟨l,xs,y,rfl,rfl,hH,hz,q⟩:=h;cases rx;obtain ⟨u,rfl,ru⟩:=rv.one;obtain ⟨z,its,n,r,hl,e⟩:=I.lstM hH;refine call_meets F.slot_list_append ⟨_,e,rfl⟩ F.entry_list_append (F.args_list_append_2 _ _) (PySem.list_append l its.toArray n u (by rw [List.size_toArray];omega)) ⟨e,?_⟩;refine ⟨.non,_,I.lset (its':=its++[u]) hH e (by simp) (r.append (.cons ru .nil)) ?_,rfl,q⟩;rw [List.length_append,List.length_singleton];omega
noncomputable def Abp:V->List V->Hp->VK->Prop:=fun x vs H Q=>∃ l xs y,x=.ref l/\vs=[]/\H l=some (.lst xs)/\xs[xs.length - 1]?=some y/\Q y (upd H l (.lst xs.dropLast))
theorem sZ:MtM X "list.pop" Abp:=by
 intro pins s σ H x vs v us Q I rx rv h;obtain ⟨l,xs,y,rfl,rfl,hH,hy,q⟩:=h;cases rx;have hus:=rv.zero;subst hus;obtain ⟨z,its,n,r,hl,e⟩:=I.lstM hH;obtain ⟨u,hu,ru⟩:=r.get hy;have hy':its.toArray[its.toArray.size - 1]?=some u:=by
  show its.toArray[its.length - 1]?=some u;rw [← Array.getElem?_toList,← hl];exact hu
 refine call_meets F.slot_list_pop ⟨_,e,rfl⟩ F.entry_list_pop (F.args_list_pop_1 _) (MeetsSeq.list_pop_last l its.toArray n u hy' (by rw [List.size_toArray];omega)) ⟨e,?_⟩;refine ⟨y,_,I.lset (its':=its.dropLast) hH e ?_ r.dropLast ?_,ru,q⟩
 ·show its.toArray.eraseIdxIfInBounds (its.toArray.size - 1)=its.dropLast.toArray;rw [List.size_toArray,List.eraseIdxIfInBounds_toArray,Vi]
 ·rw [List.length_dropLast];omega
noncomputable def Abq:R2:=fun x y H Q=>∃ l b xs zs,x=.ref l/\y=.ref b/\H l=some (.lst xs)/\H b=some (.lst zs)/\xs.length+zs.length<=sizeLine/\∀ p,H p=none->Q (.ref p) (upd H p (.lst (xs++zs)))
theorem tB:OpR X (binaryOp .Add) Abq:=by
 intro pins s σ H x y v u Q I rx ry h;obtain ⟨l,b,xs,zs,rfl,rfl,hH,hB,hz,q⟩:=h;cases rx;cases ry;obtain ⟨z,its,n,r,hl,e⟩:=I.lstM hH;obtain ⟨z2,its2,n2,r2,hl2,e2⟩:=I.lstM hB;refine PySem.P.add_list e e2 ?_ (by rw [List.size_toArray,List.size_toArray];omega);have ea:its.toArray++its2.toArray=(its++its2).toArray:=by simp
 rw [ea];exact ⟨.ref _,_,I.lnew (t':=s.toks) (r.append r2) (by rw [List.length_append];omega),rfl,q _ I.fresh⟩
end
section
variable {prog:Program}{w:World}{A:Around}{E:Value->Shared->Prop}{s:Shared}
end
section
variable {X:Cx}
end
end L2
namespace Att
open PySem PySem.W PySem.Calls PyProof.Rows
theorem Kf {P:Params}{h:Heap}:∀ (ns:List Int) (vs:List Value),WellAll P h vs (ns.map WData.int)->IntsAre vs ns:=by
 intro ns
 induction ns with
 | nil =>
  intro vs w;rw [List.map_nil] at w;cases w;exact .nil
 | cons n ns ih =>
  intro vs w;rw [List.map_cons] at w;cases w with
  | cons a b =>
   cases a;exact .cons _ _ (ih _ b)
theorem Zc {l:OpenLaw}{n:Nat}(hn:l.most=some n) {P:Params}{h:Heap}{args:List WData}{vals:List Value}
  (hpre:l.row.toRowW.claim.pre args=true) (hwl:WellAll P h vals args) :
  ∃ a vs ns,vals=[Value.ref a]/\args=[WData.list (ns.map WData.int)]/\h.get? a=some { cls:=.type "list",data:=.seq vs.toArray }/\IntsAre vs ns/\ns.length<=n:=by
 have hsh:WShape.hasAll [] args [.list .int]=true:=(pre_splitW hpre).1;have hc:l.pre.holds [] { args:=args }=true:=(pre_splitW hpre).2;obtain ⟨d,r,rfl,h1,h2⟩:=hasAllW_cons hsh;obtain rfl:=hasAllW_nil h2;obtain ⟨xs,rfl,h3⟩:=hasW_list h1;obtain ⟨ns,rfl⟩:=items_int h3;have hlen:ns.length<=n:=by
  unfold OpenLaw.pre at hc;have h4:(WTm.not (.lt (.lit (.int (n:Int))) (.len (.arg 0)))).holds [] { args:=[.list (ns.map .int)] }=true:=by
   have h4:=(holds_andW hc).1;rw [hn] at h4;exact h4
  have h5:=condW_of h4 (w_not (w_lt w_lit (w_len_list (w_arg rfl))));rw [List.length_map] at h5;refine Nat.le_of_not_lt fun q=>?_
  have q':(n:Int) < ((ns.length:Nat):Int):=by omega
  first
   | (rw [decide_eq_true q'] at h5;exact absurd h5 (by decide))
   | (simp at h5;omega)
 cases hwl with
 | cons w1 w2 =>
  cases w2;cases w1 with
  | list ho hall=>exact ⟨_,_,ns,rfl,rfl,ho,Kf ns _ hall,hlen⟩
theorem Zd (l:OpenLaw) (args:List WData):l.row.toRowW.claim.post args (.bool true) args=true :=
 postW_of (r:=l.row.toRowW) (X:=(true==true))
  (show WShape.has [] (.bool true) .bool=true by first | rfl | decide | simp [WShape.has,WShape.arms,WShape.armsAll])
  (show (WTm.eq .res (.lit (.bool true))).value [] { args:=args,res:=some (.bool true),after:=args }=some (.bool (true==true)) from w_eq_bool (w_res rfl) w_lit) rfl
theorem attach_call {l:OpenLaw}{n:Nat}{q:Program}{loose:List Str}{XP:(Str->Option Value)->Heap->Prop}{YP:World->Heap->Prop}{d:DefRec}
  (hn:l.most=some n) (hdf:d.params.defaults=[])
  (call:∀ (w:World) (s₀ s₁:Shared) (mg mb:Str->Option Value) (fa:Addr) (o:Obj) (pm cd doc:Value) (a:Addr) (vs:List Value) (ns:List Int),
   Ground q loose [] XP w s₀ mg mb s₁.heap->YP w s₁.heap ->
   s₁.heap.get? fa=some o->o.data=.func (docDef d.name d.params d.body d.scope pm cd doc)->s₁.heap.CodeRec cd d.name->mg d.name=some (.ref fa) ->
   s₁.heap.get? a=some { cls:=.type "list",data:=.seq vs.toArray }->IntsAre vs ns->ns.length<=n->s₁.gens=#[] ->
   codeAny (model l.prog w) callerA (.call (.ref fa) ⟨[.ref a],[]⟩) (fun r s'=>r=.ok (.ret (.bool true))/\OldK s₁.heap s'.heap/\s'.os=s₁.os/\AllBare s'.gens) s₁) :
  WalkO q loose XP YP l.row.toRowW d [] (fun f vs=>PySem.call f vs):=by
 intro w s₀ s₁ mg mb G Y fa o pm cd doc dV kV ho hd hcd hD hmg hg args vals as hpre hlay hrd hwl hlo;obtain rfl:dV=.none:=Dflts.none hD hdf;obtain rfl:kV=.none:=Dflts.noKw hD;obtain ⟨a,vs,ns,rfl,rfl,hobj,hints,hlen⟩:=Zc hn hpre hwl;refine enter_call (codeAny_mono (call w s₀ s₁ mg mb fa o pm cd doc a vs ns G Y ho (fd_plain hd) hcd hmg hobj hints hlen hg) fun r s' hq=>?_);obtain ⟨rfl,h2,h3,h4⟩:=hq;exact ⟨.inl ⟨.bool true,.bool true,[],rfl,fun _=>rfl,.bool true,Zd l _,fun _=>⟨List.Pairwise.nil,fun _ hm=>(nomatch hm)⟩⟩,h2,h3,h4⟩
section
variable {prog:Program}{w:World}{A:Around}{E:Value->Shared->Prop}{s:Shared}{K:Frag}
end
end Att
namespace L2
open PySem PySem.Spec PyProof.Rows
theorem Dg:∀ {vs:List Value}{ns:List Int},IntsAre vs ns->Vals (ns.map V.int) vs
 | _,_,.nil=>.nil
 | _,_,.cons n t h=>.cons ⟨t,rfl⟩ (Dg h)
noncomputable def Only (H:Hp):Prop:=∀ b,H b=none\/∃ o xs,H b=some (.frz o (.lst xs))
theorem bM {P:Program}{w:World}{K:PySem.W.Frag}{mg mb:Str->Option Value}{CX:CXT}{k:Nat}{fa a:Addr}{fd:FuncData}{x:Str}{sp:Sp}{s₁:Shared}{vs:List Value}{ns:List Int}
  (KX:K.In s₁.heap) (hns:s₁.heap.Ns mainGlobals mg) (hb:s₁.heap.Ns builtinsNs mb) (hbb:∀ x:Str,x ≠ "__name__"->mb x=bootBuiltins x) (hlim:s₁.heap.NoLimit) (hg:s₁.gens=#[])
  (ha:s₁.heap.get? a=some { cls:=.type "list",data:=.seq vs.toArray }) (hi:IntsAre vs ns) (hl:ns.length<=sizeLine) (hr:Room k callerA)
  (F:∀ base:Heap,K.In base->base.Ns mainGlobals mg->FnOk P w K mg base CX k fa fd [x] sp) (hbind:∀ (s:Shared) (u:Value),BindsTo s fd ⟨[u],[]⟩ [(x,u)])
  (hsp:∀ H:Hp,Only H->SqL K H a (ns.map V.int)->sp [.ref a] H (fun v _=>v=.bl true) fun _ _ _=>False)
  (hCX:∀ H e s',CX [] H s₁ (fun _ _ _=>False) e s'->False) :
  codeAny (model P w) callerA (.call (.ref fa) ⟨[.ref a],[]⟩) (fun r s'=>r=.ok (.ret (.bool true))/\OldK s₁.heap s'.heap/\s'.os=s₁.os/\AllBare s'.gens) s₁:=by
 have rv:=Dg hi;have lenV:=hi.length
 -- from an abstract heap in which nothing but the script may be tracked
 have core:∀ H:Hp,Only H->SqL K H a (ns.map V.int)->HOk P w H s₁.heap->(∀ b,H b≠none->b=a)->(H a≠none->K.lookup a=none) ->
   codeAny (model P w) callerA (.call (.ref fa) ⟨[.ref a],[]⟩) (fun r s'=>r=.ok (.ret (.bool true))/\OldK s₁.heap s'.heap/\s'.os=s₁.os/\AllBare s'.gens) s₁:=by
  intro H hO hS hok hA hK;have base_of:∀ {b:Addr} {o:Obj},s₁.heap.get? b=some o->H b=none->(Pr s₁.heap H).get? b=some o:=fun e n=>aP e n
  have noA:∀ {b:Addr} {o:Obj} {es:Array DictEntry} {ep:Nat},s₁.heap.get? b=some o->o.data=.dict es ep->H b=none:=fun {b o es ep} e d=>by
   cases q:H b with
   | none=>rfl
   | some u =>
    have e':b=a:=hA b (by rw [q];simp);subst e';rw [ha] at e;cases e;have d':Data.seq vs.toArray _=Data.dict es ep:=d;cases d'
  have nsK:∀ {b:Addr} {m:Str->Option Value},s₁.heap.Ns b m->(Pr s₁.heap H).Ns b m:=fun {b m} ⟨o,es,ep,e,d,r⟩=>⟨o,es,ep,base_of e (noA e d),d,r⟩
  have hKb:K.In (Pr s₁.heap H):=fun b o e=>base_of (KX b o e) (by
   cases q:H b with
   | none=>rfl
   | some u =>
    have e':b=a:=hA b (by rw [q];simp);subst e'
    rw [hK (by rw [q];simp)] at e;cases e)
  have hM:Mod K mg (Pr s₁.heap H):=⟨hKb,nsK hns,⟨mb,nsK hb,hbb⟩,let ⟨mc,h1,h2⟩:=hlim;⟨mc,nsK h1,h2⟩⟩;have e0:Env0 P w K mg (Pr s₁.heap H) callerA [] s₁ H:=⟨rfl,hM,fun b o e=>iY e,Nat.le_of_eq (Yz _ _),trivial,fun b hb=>absurd (show b∈([]:List Addr) from hb) (by simp),hok,.of_eq hg⟩;refine codeAny_mono ((F _ hKb (nsK hns)).run callerA [] s₁ H ⟨[.ref a],[]⟩ [.ref a] [.ref a] _ _ hr e0 (hbind s₁ (.ref a)) (.cons rfl .nil) (hsp H hO hS)) fun r s' h=>?_
  cases r with
  | error e=>exact (hCX H e s' h).elim
  | ok fl =>
   cases fl with
   | next=>exact False.elim h
   | brk=>exact False.elim h
   | cont=>exact False.elim h
   | ret u =>
    obtain ⟨v,H',os,bare,un,hok',r',q⟩:=h;have q':v=.bl true:=q;subst q';obtain rfl:u=Value.bool true:=r';refine ⟨rfl,OldK.of_keep fun b o e=>?_,os,bare⟩;cases q:H b with
    | none=>exact un.keep b o e q (by intro z;exact absurd (show b∈([]:List Addr) from z) (by simp)) (by simp)
    | some u =>
     rcases hO b with z|⟨ob,xs,z⟩
     ·rw [q] at z;cases z
     ·have z2:=un.frzs b ob _ z;obtain ⟨e1,_⟩:=hok b _ z;obtain ⟨e2,_⟩:=hok' b _ z2;rw [e] at e1;cases e1;exact e2
 cases hk:K.lookup a with
 | some o =>
  -- the script is one of the module's own objects
  have e:=KX a o hk;rw [ha] at e;cases e;refine core (fun _=>none) (fun _=>.inl rfl) (.inr ⟨_,vs.toArray,_,hk,rfl,rfl,rfl,by rw [List.size_toArray,lenV];exact hl,by simpa using rv⟩) (fun b u z=>by have z':(none:Option HO)=some u:=z;cases z') (fun b z=>absurd rfl z) fun z=>absurd rfl z
 | none =>
  refine core (fun b=>if b=a then some (.frz { cls:=.type "list",data:=.seq vs.toArray } (.lst (ns.map V.int))) else none) (fun b=>?_) (.inl (.inr ⟨{ cls:=.type "list",data:=.seq vs.toArray },if_pos rfl⟩)) (fun b u z=>?_) (fun b z=>?_) fun _=>hk
  ·by_cases hb:b=a
   ·exact .inr ⟨_,_,if_pos hb⟩
   ·exact .inl (if_neg hb)
  ·by_cases hb:b=a
   ·have z':=(if_pos hb).symm.trans z;cases z';subst hb;exact ⟨ha,by rw [List.length_map];exact hl,vs,_,rv,ha⟩
   ·have z':=(if_neg hb).symm.trans z;cases z'
  ·by_cases hb:b=a
   ·exact hb
   ·exact absurd (if_neg hb) z
theorem jY {l:PySem.W.OpenLaw}{n k:Nat}{q:Program}{loose:List Str}{XP:(Str->Option Value)->Heap->Prop}{YP:World->Heap->Prop}{d:DefRec}{K:Params->PySem.W.Frag}{CX:World->CXT}{sp:World->Sp}{x:Str}
  (hn:l.most=some n) (hn2:n<=sizeLine) (hdf:d.params.defaults=[]) (hr:Room k callerA)
  (hY:∀ (w:World) (h:Heap),YP w h->(K w.params).In h)
  (F:∀ (w:World) (mg:Str->Option Value) (fa:Addr) (h:Heap),(K w.params).In h->h.Ns mainGlobals mg->mg d.name=some (.ref fa) ->
   ∃ fd:FuncData,(∀ (s:Shared) (u:Value),BindsTo s fd ⟨[u],[]⟩ [(x,u)]) /\
    ∀ base:Heap,(K w.params).In base->base.Ns mainGlobals mg->FnOk l.prog w (K w.params) mg base (CX w) k fa fd [x] (sp w))
  (hsp:∀ (w:World) (H:Hp) (a:Addr) (ns:List Int),ns.length<=n->Only H->SqL (K w.params) H a (ns.map V.int)->sp w [.ref a] H (fun v _=>v=.bl true) fun _ _ _=>False)
  (hCX:∀ (w:World) (H:Hp) (s:Shared) (e:Value) (s':Shared),CX w [] H s (fun _ _ _=>False) e s'->False) :
  PySem.W.WalkO q loose XP YP l.row.toRowW d [] (fun f vs=>PySem.call f vs):=by
 refine Att.attach_call hn hdf fun w s₀ s₁ mg mb fa o pm cd doc a vs ns G Y ho hd hcd hmg hobj hints hlen hg=>?_
 have KX:=hY w _ Y;obtain ⟨fd,hb,hF⟩:=F w mg fa _ KX G.T.g hmg;exact bM KX G.T.g G.T.b G.T.builtins G.T.nolimit hg hobj hints (Nat.le_trans hlen hn2) hr hF hb (fun H hO hS=>hsp w H a ns hlen hO hS) fun H e s'=>hCX w H s₁ e s'
noncomputable def Bu (s:Stmt):Arguments:=match s with
 | .FunctionDef _ a _ _ _ _ _ _ _ _=>a
 | _=>{ posonlyargs:=[],args:=[],vararg:=none,kwonlyargs:=[],kw_defaults:=[],kwarg:=none,defaults:=[] }
noncomputable def Bb (s:Stmt):List Stmt:=match s with
 | .FunctionDef _ _ b _ _ _ _ _ _ _=>b
 | _=>[]
noncomputable def Ag (s:Stmt):Scope:=match s with
 | .FunctionDef _ _ _ _ _ _ sc _ _ _=>sc
 | _=>{ kind:=.function,names:=[],isGenerator:=false,isCoroutine:=false }
noncomputable abbrev CX0:CXT:=fun _ _ _ _ _ _=>False
noncomputable abbrev E0:XK:=fun _ _ _=>False
theorem Sd {X:Cx}:Cr CX0 X E0:=fun _ _ _ _ _ _ _ h=>h.elim
structure Fun (K:PySem.W.Frag) (x qual:Str) (st:Stmt) (f:Addr) (fd:FuncData):Prop where
 ex:∃ (oc:Value) (od:Option Addr) (kV doc pm:Value) (an:Option Addr) (cdv ct:Value) (osl:Array (Option Value)),
  fd=PySem.W.fnOf x qual (Bu st) (Bb st) (Ag st) .none kV doc pm an cdv ct/\K.lookup f=some ⟨oc,od,.func fd,osl⟩/\PySem.W.codeIn K cdv qual=true
 kp:PySem.W.keepIn K (.ref f)=true
section
variable {P:Program}{w:World}{K:PySem.W.Frag}{mg:Str->Option Value}{base:Heap}
theorem Fun.ok {x qual:Str}{st:Stmt}{f:Addr}{fd:FuncData}{N ps:List Str}{k:Nat}{sp:Sp}(F:Fun K x qual st f fd) (S:FnScope N ps (Ag st)) (len:∀ vs H Q E,sp vs H Q E->vs.length=ps.length)
  (hbody:∀ (cdv:Value) (A:Around) (outer:List Env) (s:Shared) (H:Hp) (vs:List V) (Q:VK) (E:XK),Room k (A.deeper (envOfC qual (Ag st) s.heap.objs.size f cdv))->sp vs H Q E ->
   ∃ t,PSs (Ve CX0 P w K mg base N qual (Ag st) f cdv A outer s H E).nox (Bb st) t/\t { nx:=fun _ H'=>Q .non H',rt:=Q } (start N vs) H):FnOk P w K mg base CX0 (k+1) f fd ps sp:=by
 obtain ⟨oc,od,kV,doc,pm,an,cdv,ct,osl,rfl,lk,hcd⟩:=F.ex;refine yP lk hcd S len fun A outer s H vs Q E hr hsp=>?_
 obtain ⟨t,h,q⟩:=hbody cdv A outer s H vs Q E hr hsp;exact ⟨t,h.nox,q⟩
theorem Jl {x qual:Str}{st:Stmt}{f:Addr}{oc:Value}{od an:Option Addr}{osl:Array (Option Value)}{kV doc pm cdv ct:Value}(l:K.lookup f=some ⟨oc,od,.func (PySem.W.fnOf x qual (Bu st) (Bb st) (Ag st) .none kV doc pm an cdv ct),osl⟩)
  (c:PySem.W.codeIn K cdv qual=true) (k:PySem.W.keepIn K (.ref f)=true):Fun K x qual st f (PySem.W.fnOf x qual (Bu st) (Bb st) (Ag st) .none kV doc pm an cdv ct):=⟨⟨oc,od,kV,doc,pm,an,cdv,ct,osl,rfl,l,c⟩,k⟩
end
section
variable {X:Cx}
end
theorem Qf {A B:Prop}(h:B):if false=true then A else B:=by
 rw [if_neg Bool.false_ne_true];exact h
theorem Qg {A B:Prop}(h:A):if true=true then A else B:=by
 rw [if_pos rfl];exact h
section
variable {κ:Type} [DecidableEq κ]
noncomputable def Ih (kvs:List (κ×V)) (k:κ):Option V:=(kvs.find? fun kv=>decide (kv.1=k)).map (·.2)
noncomputable def putK (kvs:List (κ×V)) (k:κ) (v:V):List (κ×V) :=
 if (kvs.any fun kv=>decide (kv.1=k))=true then kvs.map (fun kv=>if kv.1=k then (kv.1,v) else kv) else kvs++[(k,v)]
theorem Ii {p:κ×V}{r:List (κ×V)}{k:κ}(e:p.1=k):Ih (p::r) k=some p.2:=by simp [Ih,List.find?_cons,e]
theorem Ij {p:κ×V}{r:List (κ×V)}{k:κ}(e:¬ p.1=k):Ih (p::r) k=Ih r k:=by simp [Ih,List.find?_cons,e]
theorem Sg (k:κ):∀ kvs:List (κ×V),(kvs.any fun kv=>decide (kv.1=k))=(Ih kvs k).isSome
 | []=>rfl
 | p::r=>by
  rw [List.any_cons]
  by_cases e:p.1=k
  ·simp only [Ii e,decide_eq_true e,Bool.true_or,Option.isSome_some]
  ·rw [Ij e,decide_eq_false e,Bool.false_or];exact Sg k r
theorem Gq (kvs:List (κ×V)) (k:κ) (v:V):(putK kvs k v).length<=kvs.length+1:=by
 unfold putK;split
 ·rw [List.length_map];omega
 ·rw [List.length_append,List.length_cons,List.length_nil];omega
theorem Hq.isSome_eq {o:Option V}{u:Option Value}(r:Hq o u):o.isSome=u.isSome:=by
 cases o with
 | none=>cases u with
  | none=>rfl
  | some _=>exact (show False from r).elim
 | some _=>cases u with
  | none=>exact (show False from r).elim
  | some _=>rfl
theorem KV.val {kvs:List (κ×V)}{vs:List (κ×Value)}(r:KV kvs vs) (k:κ):Hq (Ih kvs k) (valueAt vs k):=by
 unfold KV at r
 induction r with
 | nil=>exact True.intro
 | @cons p q ps qs h t ih =>
  obtain ⟨h1,h2⟩:=h
  by_cases e:p.1=k
  ·have e':q.1=k:=h1.symm.trans e;have b:valueAt (q::qs) k=some q.2:=by simp [valueAt,List.find?_cons,e']
   rw [Ii e,b];exact h2
  ·have e':¬ q.1=k:=fun z=>e (h1.trans z)
   have b:valueAt (q::qs) k=valueAt qs k:=by simp [valueAt,List.find?_cons,e']
   rw [Ij e,b];exact ih
theorem KV.any {kvs:List (κ×V)}{vs:List (κ×Value)}(r:KV kvs vs) (k:κ):(kvs.any fun kv=>decide (kv.1=k))=vs.any fun kv=>decide (kv.1=k):=by
 unfold KV at r
 induction r with
 | nil=>rfl
 | cons h t ih=>rw [List.any_cons,List.any_cons,ih,h.1]
theorem KV.repl {kvs:List (κ×V)}{vs:List (κ×Value)}(r:KV kvs vs) (k:κ) {y:V}{u:Value}(ry:RelV y u) :
  KV (kvs.map fun kv=>if kv.1=k then (kv.1,y) else kv) (vs.map fun kv=>if kv.1=k then (kv.1,u) else kv):=by
 unfold KV at r ⊢
 induction r with
 | nil=>exact .nil
 | @cons p q ps qs h t ih =>
  rw [List.map_cons,List.map_cons];refine .cons ?_ ih;obtain ⟨h1,h2⟩:=h
  by_cases e:p.1=k
  ·rw [if_pos e,if_pos (h1.symm.trans e)];exact ⟨h1,ry⟩
  ·rw [if_neg e,if_neg (fun z=>e (h1.trans z))];exact ⟨h1,h2⟩
theorem KV.put {kvs:List (κ×V)}{vs:List (κ×Value)}(r:KV kvs vs) (k:κ) {y:V}{u:Value}(ry:RelV y u):KV (putK kvs k y) (stored vs k u):=by
 unfold putK stored;rw [r.any k]
 by_cases e:(vs.any fun kv=>decide (kv.1=k))=true
 ·rw [if_pos e,if_pos e];exact r.repl k ry
 ·rw [if_neg e,if_neg e];exact Paired.snoc r ⟨rfl,ry⟩
theorem KV.keys {kvs:List (κ×V)}{vs:List (κ×Value)}(r:KV kvs vs):kvs.map (·.1)=vs.map (·.1):=by
 unfold KV at r
 induction r with
 | nil=>rfl
 | cons h t ih=>rw [List.map_cons,List.map_cons,ih,h.1]
theorem KV.length {kvs:List (κ×V)}{vs:List (κ×Value)}(r:KV kvs vs):kvs.length=vs.length:=Paired.length r
end
theorem Og {P:Program}{w:World}{k:Key}{u:Value}(r:RelV (kV k) u):(Be P w).is k u=true:=by
 cases k with
 | inl i=>obtain ⟨t,e⟩:=(show ∃ t,u=Value.int i t from r);subst e;exact R3 P w i t
 | inr x=>obtain ⟨t,e⟩:=(show ∃ t,u=Value.str x t from r);subst e;exact R4 P w x t
theorem Oh {P:Program}{w:World}:∀ {ks:List Key}{us:List Value},Vals (ks.map kV) us->ItemsAre (Be P w) ks us
 | [],_,r=>by rw [List.map_nil] at r;cases r;exact .nil
 | k::ks,_,r=>by
  rw [List.map_cons] at r;cases r with
  | cons h t=>exact .cons (Og h) (Oh t)
noncomputable abbrev KT (H:Hp):List (List Key×V)->List (List Key×Addr×Value)->Prop:=Paired fun p q=>p.1=q.1/\H q.2.1=some (.tup (p.1.map kV))/\RelV p.2 q.2.2
theorem KT.val {H:Hp}{kvs:List (List Key×V)}{xs:List (List Key×Addr×Value)}(r:KT H kvs xs) (k:List Key):Hq (Ih kvs k) ((atKey xs k).map (·.2)):=by
 induction r with
 | nil=>exact True.intro
 | @cons p q ps qs h t ih =>
  obtain ⟨h1,_,h2⟩:=h
  by_cases e:p.1=k
  ·have e':q.1=k:=h1.symm.trans e;have b:atKey (q::qs) k=some q.2:=by simp [atKey,List.find?_cons,e']
   rw [Ii e,b];exact h2
  ·have e':¬ q.1=k:=fun z=>e (h1.trans z)
   have b:atKey (q::qs) k=atKey qs k:=by simp [atKey,List.find?_cons,e']
   rw [Ij e,b];exact ih
theorem KT.repl {H:Hp}{kvs:List (List Key×V)}{xs:List (List Key×Addr×Value)}(r:KT H kvs xs) (k:List Key) {y:V}{u:Value}(ry:RelV y u) :
  KT H (kvs.map fun kv=>if kv.1=k then (kv.1,y) else kv) (xs.map (putAt k u)):=by
 induction r with
 | nil=>exact .nil
 | @cons p q ps qs h t ih =>
  rw [List.map_cons,List.map_cons];refine .cons ?_ ih;obtain ⟨h1,h2,h3⟩:=h;unfold putAt
  by_cases e:p.1=k
  ·rw [if_pos e,if_pos (h1.symm.trans e)];exact ⟨h1,h2,ry⟩
  ·rw [if_neg e,if_neg (fun z=>e (h1.trans z))];exact ⟨h1,h2,h3⟩
theorem KT.put {H:Hp}{kvs:List (List Key×V)}{xs:List (List Key×Addr×Value)}(r:KT H kvs xs) (k:List Key) {b:Addr}{y:V}{u:Value}(hb:H b=some (.tup (k.map kV))) (ry:RelV y u) :
  KT H (putK kvs k y) (storedH xs k b u):=by
 have e:(kvs.any fun kv=>decide (kv.1=k))=(atKey xs k).isSome:=by
  rw [Sg,(r.val k).isSome_eq,Option.isSome_map]
 unfold putK storedH;rw [e]
 by_cases q:(atKey xs k).isSome=true
 ·rw [if_pos q,if_pos q];exact r.repl k ry
 ·rw [if_neg q,if_neg q];exact Paired.snoc r ⟨rfl,hb,ry⟩
theorem KT.keeps {H H':Hp}{kvs:List (List Key×V)}{xs:List (List Key×Addr×Value)}(r:KT H kvs xs) (ht:∀ b ys,H b=some (.tup ys)->H' b=some (.tup ys)):KT H' kvs xs :=
 Paired.mapP r fun _ _ z=>⟨z.1,ht _ _ z.2.1,z.2.2⟩
section
variable {P:Program}{w:World}{H:Hp}{h:Heap}{a:Addr}
theorem pK {u:HO}(ok:HOk P w H h) (e:Rd H a u):Cg P w H h a u:=e.ok ok
theorem Xd {kvs:List (Key×V)}(ok:HOk P w H h) (e:Rd H a (.dK kvs)):kvs.length<=sizeLine/\(a==sysModules)=false/\∃ vs,KV kvs vs/\h.DictOf (Be P w) a vs :=
 show Cg P w H h a (.dK kvs) from pK ok e
theorem J0 {kvs:List (Key×V)}(ok:HOk P w H h) (e:H a=some (.dK kvs)):kvs.length<=sizeLine/\(a==sysModules)=false/\∃ vs,KV kvs vs/\h.DictOf (Be P w) a vs:=Xd ok (.inl e)
theorem Qh {ks:List Key}(ok:HOk P w H h) (e:H a=some (.tup (ks.map kV))):(tupleKind (Be P w)).is h ks a:=by
 obtain ⟨_,its,r,o,h1,h2,_,n,h3⟩:=(show Cg P w H h a (.tup (ks.map kV)) from ok a _ e);exact ⟨o,its.toArray,n,h1,h2,h3,by simpa using Oh r⟩
theorem bN {kvs:List (List Key×V)}(ok:HOk P w H h) (e:Rd H a (.dT kvs)):kvs.length<=sizeLine/\(a==sysModules)=false /\
  ∃ xs,KT H kvs xs/\h.DictOfH (tupleKind (Be P w)) a xs:=by
 obtain ⟨z,y,xs,r,o,es,ep,h1,h2,h3,h4,h5⟩:=(show Cg P w H h a (.dT kvs) from pK ok e);refine ⟨z,y,xs,r,o,es,ep,h1,h2,h3,h4,fun x hx=>?_,h5⟩;have all:∀ {l:List (List Key×V)} {m:List (List Key×Addr×Value)},KT H l m->∀ x∈m,(tupleKind (Be P w)).is h x.1 x.2.1:=by
  intro l m q
  induction q with
  | nil=>intro x hx;exact nomatch hx
  | @cons p q ps qs hq t ih =>
   intro x hx;rcases List.mem_cons.mp hx with e|hx
   ·subst e;exact Qh ok (by rw [← hq.1];exact hq.2.1)
   ·exact ih x hx
 exact all r x hx
theorem zA {kvs:List (List Key×V)}(ok:HOk P w H h) (e:H a=some (.dT kvs)):kvs.length<=sizeLine/\(a==sysModules)=false /\
  ∃ xs,KT H kvs xs/\h.DictOfH (tupleKind (Be P w)) a xs:=bN ok (.inl e)
end
noncomputable def Ze (H:Hp) (a:Addr) (y:V) (r:Option V):Prop :=
 (∃ kvs k,Rd H a (.dK kvs)/\y=kV k/\r=Ih kvs k)\/∃ kvs k b,Rd H a (.dT kvs)/\y=.ref b/\H b=some (.tup (k.map kV))/\r=Ih kvs k
noncomputable def jZ (H:Hp) (a:Addr) (y v:V) (H':Hp):Prop :=
 (∃ kvs k,H a=some (.dK kvs)/\y=kV k/\kvs.length < sizeLine/\H'=upd H a (.dK (putK kvs k v))) \/
 ∃ kvs k b,H a=some (.dT kvs)/\y=.ref b/\H b=some (.tup (k.map kV))/\kvs.length < sizeLine/\H'=upd H a (.dT (putK kvs k v))
theorem Ze.k {H:Hp}{a:Addr}{kvs:List (Key×V)}{k:Key}(e:H a=some (.dK kvs)):Ze H a (kV k) (Ih kvs k):=.inl ⟨kvs,k,.inl e,rfl,rfl⟩
theorem jZ.k {H:Hp}{a:Addr}{kvs:List (Key×V)}{k:Key}{v:V}(e:H a=some (.dK kvs)) (hl:kvs.length < sizeLine):jZ H a (kV k) v (upd H a (.dK (putK kvs k v))):=.inl ⟨kvs,k,e,rfl,hl,rfl⟩
section
variable {X:Cx}{pins:List (Addr×Obj)}{σ:St}{H:Hp}{s:Shared}{a:Addr}{y v:V}{u r:Value}{o:Option V}{A:Around}{E:Value->Shared->Prop}
theorem Inv.big (I:Inv X pins σ H s):sysModules < s.heap.objs.size:=by
 have h:mainGlobals < s.heap.objs.size:=(I.mod.glob.keeps I.bk).lt;exact Nat.lt_trans (by decide) h
theorem Abr {Q:Value->Shared->Prop}(hu:A.units+1 < cLine) (I:Inv X pins σ H s) (g:Ze H a y o) (ry:RelV y u) (h:∀ s',Inv X pins σ H s'->Q (.bool o.isSome) s') :
  wpAny (model X.prog X.w) A (compareOp .In u (.ref a)) Q E s:=by
 rcases g with ⟨kvs,k,e,ey,l⟩|⟨kvs,k,b,e,ey,eb,l⟩
 ·subst ey;obtain ⟨z,hd,vs,rel,dd⟩:=Xd I.hok e;refine wpAny_in_of (Og ry) hd dd.mapOf ?_;rw [← (rel.val k).isSome_eq,← l];exact h _ (I.tok _)
 ·subst ey;cases (show u=Value.ref b from ry);obtain ⟨z,hd,xs,rel,dd⟩:=bN I.hok e;refine wpAny_in_heap (tupleKind_room_in1 hu) (Qh I.hok eb) hd dd ?_;have q:=(rel.val k).isSome_eq;rw [Option.isSome_map] at q;rw [← q,← l];exact h _ (I.tok _)
theorem kE {Q:Value->Shared->Prop}(hu:A.units+1 < cLine) (I:Inv X pins σ H s) (g:Ze H a y o) (ry:RelV y u) (h:∀ s',Inv X pins σ H s'->Q (.bool (!o.isSome)) s') :
  wpAny (model X.prog X.w) A (compareOp .NotIn u (.ref a)) Q E s:=by
 rcases g with ⟨kvs,k,e,ey,l⟩|⟨kvs,k,b,e,ey,eb,l⟩
 ·subst ey;obtain ⟨z,hd,vs,rel,dd⟩:=Xd I.hok e;refine wpAny_notIn_of (Og ry) hd dd.mapOf ?_;rw [← (rel.val k).isSome_eq,← l];exact h _ (I.tok _)
 ·subst ey;cases (show u=Value.ref b from ry);obtain ⟨z,hd,xs,rel,dd⟩:=bN I.hok e;refine wpAny_notIn_heap (tupleKind_room_in1 hu) (Qh I.hok eb) hd dd ?_;have q:=(rel.val k).isSome_eq;rw [Option.isSome_map] at q;rw [← q,← l];exact h _ (I.tok _)
theorem Gx {h':Heap}{t':Nat}{ob:HO}(I:Inv X pins σ H s) (mu:Mut (H a)) (hs:Heap.SameBut a s.heap h') (he:∃ q,h'.get? a=some q) (new:Cg X.prog X.w (upd H a ob) h' a ob) :
  Inv X pins σ (upd H a ob) { s with heap:=h',toks:=t' } :=
 I.write (x:=a) (e:=a) mu (.inl rfl) (fun b q hb z=>(hs.2 b hb).trans z) he new
theorem bO {P:Program}{w:World}{H':Hp}{h':Heap}{kvs:List (Key×V)}{vs:List (Key×Value)}(z:kvs.length<=sizeLine) (hd:(a==sysModules)=false) (rel:KV kvs vs) (dd:h'.DictOf (Be P w) a vs) :
  Cg P w H' h' a (.dK kvs):=⟨z,hd,vs,rel,dd⟩
theorem Zf {H':Hp}{Q:Unit->Shared->Prop}(hu:A.units+1 < cLine) (I:Inv X pins σ H s) (g:jZ H a y v H') (ry:RelV y u) (rv:RelV v r) (h:∀ s',Inv X pins σ H' s'->Q () s') :
  wpAny (model X.prog X.w) A (setItem (.ref a) u r) Q E s:=by
 rcases g with ⟨kvs,k,e,ey,l,eH⟩|⟨kvs,k,b,e,ey,eb,l,eH⟩
 ·subst ey eH;obtain ⟨z,hd,vs,rel,dd⟩:=J0 I.hok e;have hz:vs.length<=sizeLine:=by rw [← rel.length];exact z
  have hl:(putK kvs k v).length<=sizeLine:=by have:=Gq kvs k v;omega
  refine wpAny_setItem_pairs (hsz:=hz) (Og ry) dd fun h' dd' hs=>h _ ?_
  have he:∃ q,h'.get? a=some q:=let ⟨q,_,_,hq,_⟩:=dd';⟨q,hq⟩;exact Gx I (by rw [e];exact True.intro) hs he (bO hl hd (rel.put k rv) dd')
 ·subst ey eH;cases (show u=Value.ref b from ry);obtain ⟨z,hd,xs,rel,dd⟩:=zA I.hok e;have hz:xs.length<=sizeLine:=by rw [← Paired.length rel];exact z
  have hl:(putK kvs k v).length<=sizeLine:=by have:=Gq kvs k v;omega
  refine wpAny_setItem_heap (hsz:=hz) (tupleKind_room_in1 hu) (Qh I.hok eb) dd fun h' dd' hs=>h _ ?_
  obtain ⟨q,es,ep,hq,h2,h3,h4,_,h5⟩:=dd';refine Gx I (by rw [e];exact True.intro) hs ⟨q,hq⟩ ⟨hl,hd,_,(rel.put k eb rv).keeps fun c ys ec=>?_,q,es,ep,hq,h2,h3,h4,h5⟩;rw [Ab (Gp ec e (fun z=>nomatch z))];exact ec
end
section
variable {X:Cx}{pins:List (Addr×Obj)}{σ:St}{H:Hp}{s:Shared}{a:Addr}{kvs:List (Key×V)}{k:Key}{u:Value}{A:Around}{E:Value->Shared->Prop}
theorem zB {Q:Value->Shared->Prop}(I:Inv X pins σ H s) (e:Rd H a (.dK kvs)) (h:∀ t s',Inv X pins σ H s'->Q (.int kvs.length t) s'):wpAny (model X.prog X.w) A (call (.builtin "len") [.ref a]) Q E s:=by
 obtain ⟨z,hd,vs,rel,dd⟩:=Xd I.hok e;refine call_len_dict hd dd (by rw [← rel.length];rw [sizeLine_eq] at z;omega) ?_;rw [← rel.length];exact h _ _ (I.tok _)
end
section
variable {X:Cx}{o i e value:Expr}{pos pos' tpos:Pos}{td ty tv:TE}
end
theorem Sh {P:Program}{w:World}{H:Hp}(h:Heap) (hb:sysModules < h.objs.size):Cg P w H (h.push { cls:=.type "dict",data:=.dict #[] }) h.objs.size (.dK []) :=
 ⟨Nat.zero_le _,beq_eq_false_iff_ne.mpr (Ne.symm (Nat.ne_of_lt hb)),[],.nil,Heap.DictOf.new h⟩
noncomputable def tH:TE:=fun _ H Q=>∀ p,H p=none->Q (.ref p) (upd H p (.dK []))
section
variable {X:Cx}{pos:Pos}
theorem Sq:PE X (.Dict [] [] pos) tH:=fun pins s σ H Q I h =>
 wpAny_Dict_empty ⟨.ref s.heap.objs.size,_,I.laid (a:=s.heap.objs.size) (o:=.dK []) (t':=s.toks) (fun _ _ q=>Heap.get?_push_of_some _ q) (Nat.le_refl _) (Sh s.heap I.big),rfl,h _ (I.hok.fresh (Nat.le_refl _))⟩
end
section
variable {X:Cx}{pins:List (Addr×Obj)}{σ:St}{H:Hp}{s:Shared}{a:Addr}{y d:V}{u r:Value}{o:Option V}{A:Around}{E:Value->Shared->Prop}
end
section
variable {X:Cx}{o e f:Expr}{apos cpos:Pos}{td ty tx:TE}
end
section
variable {X:Cx}{pins:List (Addr×Obj)}{σ:St}{H:Hp}{s:Shared}{a:Addr}{kvs:List (Key×V)}{A:Around}{E:Value->Shared->Prop}
end
section
variable {X:Cx}{pins:List (Addr×Obj)}{σ:St}{H:Hp}{s:Shared}{a:Addr}{y:V}{u:Value}{A:Around}{E:Value->Shared->Prop}
end
theorem Ld {α β:Type}(g:α->β->β):∀ (l:List α) (f:α->β->Sem (ForInStep β)) (c:β),(∀ x∈l,∀ c,f x c=pure (.yield (g x c)))->forIn l c f=pure (l.foldl (fun c x=>g x c) c)
 | [],f,c,_=>by rw [List.forIn_nil];rfl
 | x::r,f,c,h=>by
  rw [List.forIn_cons,h x List.mem_cons_self];show (forIn r (g x c) f)=_;rw [Ld g r f (g x c) fun y hy=>h y (List.mem_cons_of_mem _ hy)];rfl
noncomputable def J1 (env:Env) (x:Str×NameKind) (cs:List (Str×Addr)):List (Str×Addr):=if x.2==.free then (x.1,(env.cells.lookup x.1).getD 0)::cs else cs
noncomputable def Ey (env:Env) (names:List (Str×NameKind)):List (Str×Addr):=names.foldl (fun c x=>J1 env x c) []
theorem Hl {scope:Scope}{env:Env}(h:∀ x∈scope.names,x.2=.free->∃ c,env.cells.lookup x.1=some c):closureFor scope env=pure (Ey env scope.names):=by
 unfold closureFor Ey;dsimp only;rw [Ld (J1 env)]
 ·rfl
 ·intro x hx c;obtain ⟨n,k⟩:=x;dsimp only;unfold J1
  by_cases e:(k==NameKind.free)=true
  ·obtain ⟨a,ha⟩:=h _ hx (beq_iff_eq.mp e);have ha':List.lookup n env.cells=some a:=ha;dsimp only;rw [if_pos e,if_pos e];unfold cellOf;rw [ha'];rfl
  ·dsimp only;rw [if_neg e,if_neg e]
theorem Ht {env:Env}:∀ (names:List (Str×NameKind)) (acc:List (Str×Addr)) (x:Str) (c:Addr),(x,c)∈names.foldl (fun c x=>J1 env x c) acc->(x,c)∈acc\/((x,NameKind.free)∈names/\c=(env.cells.lookup x).getD 0)
 | [],acc,x,c,h=>.inl h
 | (n,k)::r,acc,x,c,h=>by
  rcases Ht r _ x c h with q|⟨q1,q2⟩
  ·unfold J1 at q;dsimp only at q;split at q
   ·rename_i e;have e:=beq_iff_eq.mp e;rcases List.mem_cons.mp q with q|q
    ·cases q;exact .inr ⟨by rw [e];exact List.mem_cons_self,rfl⟩
    ·exact .inl q
   ·exact .inl q
  ·exact .inr ⟨List.mem_cons_of_mem _ q1,q2⟩
theorem Le {env:Env}:∀ (names:List (Str×NameKind)) (acc:List (Str×Addr)) (x:Str),(acc.lookup x).isSome=true\/(x,NameKind.free)∈names->((names.foldl (fun c x=>J1 env x c) acc).lookup x).isSome=true
 | [],acc,x,h=>by
  rcases h with h|h
  ·exact h
  ·exact absurd h (by simp)
 | (n,k)::r,acc,x,h=>by
  refine Le r _ x ?_;unfold J1;rcases h with h|h
  ·left;dsimp only;split
   ·rw [List.lookup_cons];split
    ·rfl
    ·exact h
   ·exact h
  ·rcases List.mem_cons.mp h with h|h
   ·cases h;left;dsimp only;rw [if_pos (by rfl),List.lookup_cons];simp
   ·exact .inr h
theorem Qi {env:Env}{names:List (Str×NameKind)}{x:Str}{c:Addr}(h:(Ey env names).lookup x=some c):(x,NameKind.free)∈names/\c=(env.cells.lookup x).getD 0:=by
 rcases Ht names [] x c (PySem.mem_of_lookup h) with q|q
 ·exact absurd q (by simp)
 ·exact q
theorem Oi {env:Env}{names:List (Str×NameKind)}{x:Str}(h:(x,NameKind.free)∈names):(Ey env names).lookup x=some ((env.cells.lookup x).getD 0):=by
 obtain ⟨c,e⟩:=Option.isSome_iff_exists.mp (Le (env:=env) names [] x (.inr h));rw [show Ey env names=names.foldl (fun c x=>J1 env x c) [] from rfl,e,(Qi e).2]
theorem Dq:∀ (names:List (Str×NameKind)) (n:Nat) (acc:List (Str×Addr)) (x:Str) (c:Addr),(x,c)∈cellsFrom n names acc->(x,c)∈acc\/(n<=c/\(x,NameKind.cell)∈names)
 | [],_,_,_,_,h=>.inl h
 | (y,k)::r,n,acc,x,c,h=>by
  unfold cellsFrom at h;split at h
  ·rename_i e;have e:=beq_iff_eq.mp e;rcases Dq r (n+1) _ x c h with q|⟨q1,q2⟩
   ·rcases List.mem_cons.mp q with q|q
    ·cases q;exact .inr ⟨Nat.le_refl _,by rw [e];exact List.mem_cons_self⟩
    ·exact .inl q
   ·exact .inr ⟨by omega,List.mem_cons_of_mem _ q2⟩
  ·rcases Dq r n acc x c h with q|⟨q1,q2⟩
   ·exact .inl q
   ·exact .inr ⟨q1,List.mem_cons_of_mem _ q2⟩
theorem Ds:∀ (names:List (Str×NameKind)) (n lo:Nat) (acc:List (Str×Addr)) (x:Str) (c:Addr),lo<=n->((x,NameKind.cell)∈names\/∀ c',acc.lookup x=some c'->lo<=c')->(cellsFrom n names acc).lookup x=some c->lo<=c
 | [],_,_,acc,x,c,_,h,e=>by
  rcases h with h|h
  ·exact absurd h (by simp)
  ·exact h c e
 | (y,k)::r,n,lo,acc,x,c,hl,h,e=>by
  unfold cellsFrom at e;split at e
  ·rename_i ek;refine Ds r (n+1) lo _ x c (by omega) ?_ e;rcases h with h|h
   ·rcases List.mem_cons.mp h with h|h
    ·cases h;right;intro c' hc;rw [List.lookup_cons] at hc;rw [beq_self_eq_true] at hc;cases hc;exact hl
    ·exact .inl h
   ·right;intro c' hc;rw [List.lookup_cons] at hc;split at hc
    ·cases hc;omega
    ·exact h c' hc
  ·rename_i ek;refine Ds r n lo acc x c hl ?_ e;rcases h with h|h
   ·rcases List.mem_cons.mp h with h|h
    ·cases h;exact absurd rfl ek
    ·exact .inl h
   ·exact .inr h
theorem Fe:∀ (names:List (Str×NameKind)) (n:Nat) (acc:List (Str×Addr)),(∀ x y c,(x,c)∈acc->(y,c)∈acc->x=y)->(∀ x c,(x,c)∈acc->c < n) ->
  ∀ x y c,(x,c)∈cellsFrom n names acc->(y,c)∈cellsFrom n names acc->x=y
 | [],_,_,h,_=>h
 | (z,k)::r,n,acc,h,hb=>by
  unfold cellsFrom;split
  ·refine Fe r (n+1) _ (fun x y c hx hy=>?_) fun x c hx=>?_
   ·rcases List.mem_cons.mp hx with hx | hx <;> rcases List.mem_cons.mp hy with hy|hy
    ·cases hx;cases hy;rfl
    ·cases hx;exact absurd (hb _ _ hy) (Nat.lt_irrefl _)
    ·cases hy;exact absurd (hb _ _ hx) (Nat.lt_irrefl _)
    ·exact h x y c hx hy
   ·rcases List.mem_cons.mp hx with hx|hx
    ·cases hx;exact Nat.lt_succ_self _
    ·exact Nat.lt_succ_of_lt (hb x c hx)
  ·exact Fe r n acc h hb
theorem Ej:∀ (names:List (Str×NameKind)) (h:Heap) (acc:List (Str×Addr)) (x:Str) (c:Addr),(∀ x c,(x,c)∈acc->∃ v,h.IsCell c v)->(x,c)∈cellsFrom h.objs.size names acc->∃ v,(pushCells h names).IsCell c v
 | [],h,acc,x,c,hb,e=>hb x c e
 | (y,k)::r,h,acc,x,c,hb,e=>by
  unfold cellsFrom at e;unfold pushCells;split at e
  ·rename_i ek;rw [if_pos ek];refine Ej r _ ((y,h.objs.size)::acc) x c (fun x c hx=>?_) (by rw [Heap.size_push];exact e);rcases List.mem_cons.mp hx with hx|hx
   ·cases hx;exact ⟨none,_,Heap.get?_push_size _ rfl,rfl⟩
   ·obtain ⟨v,q⟩:=hb x c hx;exact ⟨v,q.keeps fun b o e=>Heap.get?_push_of_some _ e⟩
  ·rename_i ek;rw [if_neg ek];exact Ej r h acc x c hb e
theorem Ek:∀ (names:List (Str×NameKind)) (h:Heap),h.objs.size<=(pushCells h names).objs.size
 | [],h=>Nat.le_refl _
 | (y,k)::r,h=>by
  unfold pushCells;split
  ·refine Nat.le_trans ?_ (Ek r _);rw [Heap.size_push];omega
  ·exact Ek r h
theorem Ss {M:Model}{A:Around}{E:Value->Shared->Prop}{s:Shared}{scope:Scope}{globals:Addr}{cl:List (Str×Addr)}{qual:Str}{env:Env}{Q:Env->Shared->Prop}
  (hQ:Q (newEnv scope s.heap.objs.size globals (cellsFrom (s.heap.objs.size+1) scope.names cl) qual none .none (some env) builtinsNs) { s with heap:=pushCells (s.heap.push { cls:=.type "dict",data:=.dict #[] }) scope.names }) :
  wpAny M A (newFunctionEnv scope globals cl [] qual none .none (some env)) Q E s:=by
 simp only [newFunctionEnv,Option.isSome_some,if_true];refine wpAny_bind (wpAny_alloc ?_);refine wpAny_bind (wpAny_layCells _ (fun name kind cells=>by cases hkc:kind==NameKind.cell <;> simp [hkc]) _ _ _ _ ?_)
 rw [show ({ s with heap:=s.heap.push { cls:=.type "dict",data:=.dict #[] } }:Shared).heap.objs.size=s.heap.objs.size+1 from Heap.size_push ..];rw [List.forIn_nil];exact wpAny_bind (wpAny_pure (wpAny_pure hQ))
theorem Dt {α:Type}:∀ {l:List (Str×α)}{n:Str}{c:α},(l.map (·.1)).Nodup->(n,c)∈l->l.lookup n=some c
 | [],_,_,_,h=>absurd h (by simp)
 | (k,v)::r,n,c,nd,h=>by
  rw [List.map_cons,List.nodup_cons] at nd;rw [List.lookup_cons];rcases List.mem_cons.mp h with q|q
  ·cases q;rw [beq_self_eq_true]
  ·have:(n==k)=false:=by
    rw [beq_eq_false_iff_ne];intro e;subst e;exact nd.1 (List.mem_map.mpr ⟨(n,c),q,rfl⟩)
   rw [this];exact Dt nd.2 q
theorem El {env:Env}(scope:Scope) (x:Str):(relabel scope env).names.lookup x=(scope.names.lookup x).map fun k=>if (k==.free&&env.scope.kind==.function&&env.kindOf x==some .cell) then .cell else k:=by
 show (scope.names.map _).lookup x=_
 induction scope.names with
 | nil=>rfl
 | cons a r ih =>
  obtain ⟨n,k⟩:=a;rw [List.map_cons];dsimp only;rw [List.lookup_cons (b:=k)]
  by_cases e:(x==n)=true
  ·rw [e];have e':=beq_iff_eq.mp e;subst e';dsimp only;split
   ·rename_i hc;rw [List.lookup_cons,e];simp only [Option.map_some,hc,if_true]
   ·rename_i hc;rw [List.lookup_cons,e];rw [Option.map_some,if_neg hc]
  ·have e2:(x==n)=false:=by simpa using e
   rw [e2];dsimp only;split
   ·rw [List.lookup_cons,e2];exact ih
   ·rw [List.lookup_cons,e2];exact ih
structure CompOk (X:Cx) (scope:Scope):Prop where
 kind:scope.kind=.function
 nd:(scope.names.map (·.1)).Nodup
 fr:∀ x∈scope.names,x.2=.free->X.env.kindOf x.1=some .cell\/X.env.kindOf x.1=some .free
noncomputable def Bp (X:Cx) (pins:List (Addr×Obj)) (N':List Str) (scope:Scope) (C:Addr) (cells:List (Str×Addr)) (s₀:Shared) (H₀:Hp) (fp:List Addr):Cx where
 prog:=X.prog
 w:=X.w
 K:=X.K
 mg:=X.mg
 base:=X.base
 A:=X.A
 N:=N'
 s₀:=s₀
 H₀:=H₀
 env:={ scope:=relabel scope X.env,locals:=C,globals:=X.env.globals,cells:=cells,qual:=X.env.qual,func:=none,code:=X.env.code,frame:=X.env.frame,builtins:=X.env.builtins }
 outer:=X.stack
 stack:=X.stack
 ex:=fp
 fn:=fun x=>decide ((x,NameKind.cell)∈scope.names)
 calm:=X.calm
 pn:=X.pn++pins
 xe:=fun _ _=>False
noncomputable def Cap (X:Cx) (N':List Str) (scope:Scope) (σ σ0:St):Prop:=σ0.length=N'.length/\∀ (i:Nat) (x:Str) (v:V),N'[i]?=some x->σ0[i]?=some (some v) ->
 scope.names.lookup x=some .free/\∃ j:Nat,X.N[j]?=some x/\σ[j]?=some (some v)
noncomputable abbrev Al (its:List Value) (n:Nat):Obj:={ cls:=.type "list",data:=.seq its.toArray n }
section
variable {X:Cx}{pins:List (Addr×Obj)}{σ:St}{H:Hp}{s:Shared}
theorem Vj {N':List Str}{scope:Scope}{fp:List Addr}{σ0:St}(I:Inv X pins σ H s) (S:CompOk X scope) (hf:∀ b∈fp,Nk X pins H b) (hb:∀ b∈fp,∃ o,s.heap.get? b=some o) (hσ:Cap X N' scope σ σ0) :
    Inv (Bp X pins N' scope (s.heap.objs.size+1) (cellsFrom (s.heap.objs.size+1+1) scope.names (Ey X.env scope.names)) s H fp) [(s.heap.objs.size,Al [] 0)] σ0 H
      { s with heap:=pushCells ((s.heap.push (Al [] 0)).push { cls:=.type "dict",data:=.dict #[] }) scope.names }:=by
  have sz1:(s.heap.push (Al [] 0)).objs.size=s.heap.objs.size+1:=Heap.size_push ..
  have sz2:((s.heap.push (Al [] 0)).push { cls:=.type "dict",data:=.dict #[] }).objs.size=s.heap.objs.size+1+1:=by rw [Heap.size_push,sz1]
  have keep:∀ b o,s.heap.get? b=some o->(pushCells ((s.heap.push (Al [] 0)).push { cls:=.type "dict",data:=.dict #[] }) scope.names).get? b=some o:=fun b o e=>pushCells_keeps _ _ b o (Heap.get?_push_of_some _ (Heap.get?_push_of_some _ e))
  have capt:∀ x c,(x,c)∈Ey X.env scope.names->X.env.cells.lookup x=some c:=fun x c h=>by
    rcases Ht scope.names [] x c h with q|⟨q1,q2⟩
    · exact absurd q (by simp)
    · obtain ⟨c',e⟩:=I.ok.has x (S.fr _ q1 rfl);rw [e] at q2;rw [e,q2];rfl
  have cells:∀ x c,(cellsFrom (s.heap.objs.size+1+1) scope.names (Ey X.env scope.names)).lookup x=some c->X.env.cells.lookup x=some c\/s.heap.objs.size+1+1<=c:=fun x c h=>by
    rcases Dq _ _ _ x c (PySem.mem_of_lookup h) with q|⟨q,_⟩
    · exact .inl (capt x c q)
    · exact .inr q
  have stk:∀ b∈frs X.stack,b < s.heap.objs.size:=fun b hb=>by
    rcases Nat.lt_or_ge b s.heap.objs.size with z|z
    · exact z
    · rcases List.mem_cons.mp (I.stkSub b hb) with q|q
      · rw [q];exact I.lt
      · exact absurd q (I.nofs z)
  have fpb:∀ b∈fp,b < s.heap.objs.size:=fun b h=>let ⟨o,e⟩:=hb b h;Heap.lt_size e
  refine ⟨⟨I.ok.mod,S.kind,I.ok.glob,I.ok.blt,Nat.le_succ _,fun x y c h1 h2=>?_,fun x hx=>?_,fun x c hx h=>?_,I.ok.hd,I.ok.frames,.inl rfl,fun b hb=>⟨?_,fun x c h=>?_⟩,I.bs,Nat.le_trans I.ok.bsz I.sz,fun b o h z=>?_,fun b hb z=>?_,I.stack,I.stkFree⟩,
    rfl,I.bare,Un.kept keep,⟨fun _=>none,?_,fun i x v h1 h2 h3=>?_⟩,fun x c h=>?_,I.hok.fresh (Nat.le_succ _),fun x c h=>?_,fun p hp=>?_,I.hok.kept keep,hσ.1⟩
  · refine Fe scope.names (s.heap.objs.size+1+1) (Ey X.env scope.names) (fun x y c h1 h2=>I.ok.inj x y c (capt x c h1) (capt y c h2)) (fun x c h=>?_) x y c (PySem.mem_of_lookup h1) (PySem.mem_of_lookup h2);obtain ⟨v,q⟩:=I.cell x c (capt x c h);exact Nat.lt_succ_of_lt (Nat.lt_succ_of_lt q.lt)
  · have hx:(relabel scope X.env).names.lookup x=some .cell\/(relabel scope X.env).names.lookup x=some .free:=hx;rw [El] at hx;refine Option.isSome_iff_exists.mp (PySem.W.cellsFrom_some scope.names _ _ ?_);cases e:scope.names.lookup x with
    | none=>rw [e] at hx;rcases hx with h | h <;> cases h
    | some k =>
      cases k with
      | cell=>exact .inl rfl
      | free=>right;rw [Oi (PySem.mem_of_lookup e)];rfl
      | «local»=>rw [e] at hx;rcases hx with h | h <;> cases h
      | globalExplicit=>rw [e] at hx;rcases hx with h | h <;> cases h
      | globalImplicit=>rw [e] at hx;rcases hx with h | h <;> cases h
  · exact Nat.le_trans (Nat.le_succ_of_le (Nat.le_succ _)) (Ds scope.names _ (s.heap.objs.size+1+1) _ x c (Nat.le_refl _) (.inl (of_decide_eq_true hx)) h)
  · exact Nat.ne_of_lt (Nat.lt_succ_of_lt (fpb b hb))
  · rcases cells x c h with q|q
    · exact (hf b hb).2.2.2.2.1 x c q
    · exact Nat.ne_of_gt (Nat.lt_of_lt_of_le (fpb b hb) (by omega))
  · rcases (hf b z).2.2.2.1 with q|q
    · exact I.ok.noex b o h q
    · exact absurd (Nat.lt_of_lt_of_le (Heap.lt_size h) (Nat.le_trans I.ok.bsz q)) (Nat.lt_irrefl _)
  · rcases List.mem_cons.mp (I.stkSub b z) with q|q
    · exact (hf b hb).2.1 q
    · exact (hf b hb).2.2.1 q
  · show (pushCells _ _).Ns (s.heap.objs.size+1) _
    have n:=(Heap.Ns.new (s.heap.push (Al [] 0)) (.type "dict")).keeps (pushCells_keeps scope.names _);rw [sz1] at n;exact n
  · obtain ⟨e1,j,e2,e3⟩:=hσ.2 i x v h1 h2;obtain ⟨m,hn,hl⟩:=I.loc;have fr:=S.fr _ (PySem.mem_of_lookup e1) rfl;have vis:Vis X.env.scope x:=by
      rcases fr with q|q
      · exact .inr (.inl q)
      · exact .inr (.inr q)
    obtain ⟨u,r,l⟩:=hl j x v e2 e3 vis;refine ⟨u,r,.inr ⟨?_,?_⟩⟩
    · show (relabel scope X.env).names.lookup x=some .cell\/(relabel scope X.env).names.lookup x=some .free;rw [El,e1];simp only [Option.map_some];split
      · exact .inl rfl
      · exact .inr rfl
    · rcases l with ⟨k,_⟩|⟨_,c,ec,hc⟩
      · rcases fr with q | q <;> · rw [k] at q;cases q
      · refine ⟨c,?_,hc.keeps keep⟩;obtain ⟨c2,e⟩:=Option.isSome_iff_exists.mp (PySem.W.cellsFrom_some (x:=x) scope.names (s.heap.objs.size+1+1) (Ey X.env scope.names) (.inr (by rw [Oi (PySem.mem_of_lookup e1)];rfl)));show (cellsFrom _ _ _).lookup x=some c;rw [e];rcases Dq _ _ _ x c2 (PySem.mem_of_lookup e) with q|⟨_,q⟩
        · rw [capt x c2 q] at ec;exact ec
        · rw [Dt S.nd q] at e1;cases e1
  · refine Ej scope.names ((s.heap.push (Al [] 0)).push { cls:=.type "dict",data:=.dict #[] }) (Ey X.env scope.names) x c (fun x c h=>?_) ?_
    · obtain ⟨v,q⟩:=I.cell x c (capt x c h);exact ⟨v,q.keeps fun b o e=>Heap.get?_push_of_some _ (Heap.get?_push_of_some _ e)⟩
    · rw [sz2];exact PySem.mem_of_lookup h
  · rcases cells x c h with q|q
    · rcases I.freeC x c q with fc|⟨_,oz,uz,fz⟩
      · exact .inl fc
      · refine .inr ⟨Bool.eq_false_iff.mpr fun hx=>?_,oz,uz,fz⟩;have h1:=Ds scope.names _ (s.heap.objs.size+1+1) _ x c (Nat.le_refl _) (.inl (of_decide_eq_true hx)) h;have h2:c < s.heap.objs.size:=Heap.lt_size (I.hok c _ fz).1;have h3:s.heap.objs.size+1+1<=c:=by first | exact h1 | (rw [← sz2];exact h1)
        exact absurd (Nat.lt_of_lt_of_le h2 (Nat.le_trans (Nat.le_succ_of_le (Nat.le_succ _)) h3)) (Nat.lt_irrefl _)
    · exact .inl (I.hok.fresh (by omega))
  · rcases List.mem_append.mp hp with hp|hp
    · obtain ⟨q1,q2,q3,q4,q5⟩:=I.pin p hp;have lt:=Heap.lt_size q1;refine ⟨keep _ _ q1,q2,Nat.ne_of_lt (Nat.lt_succ_of_lt lt),fun z=>?_,q5⟩;rcases List.mem_cons.mp (I.stkSub p.1 z) with r|r
      · exact q3 r
      · exact q4 r
    · have e:p=(s.heap.objs.size,Al [] 0):=by simpa using hp
      subst e;refine ⟨pushCells_keeps _ _ _ _ (Heap.get?_push_of_some _ (Heap.get?_push_size _ rfl)),I.hok.fresh (Nat.le_refl _),Nat.ne_of_lt (Nat.lt_succ_self _),fun z=>?_,fun v=>by intro z;cases z⟩;exact Nat.lt_irrefl _ (stk _ z)
theorem bQ {N':List Str}{scope:Scope}{fp:List Addr}{σ':St}{C:Addr}{cells:List (Str×Addr)}{H':Hp}{s':Shared}{its:List Value}{n:Nat}{ys:List V}{pl:List (Addr×Obj)}(I:Inv X pins σ H s) (hf:∀ b∈fp,Nk X pins H b)
  (J:Inv (Bp X pins N' scope C cells s H fp) ((s.heap.objs.size,Al its n)::pl) σ' H' s') (r:Vals ys its) (hz:ys.length<=sizeLine) :
  Inv X pins σ (upd H' s.heap.objs.size (.lst ys)) s':=by
 obtain ⟨p1,p2,p3,p4,p5⟩:=J.pin (s.heap.objs.size,Al its n) (List.mem_append_right _ List.mem_cons_self);have hD:H' s.heap.objs.size=none:=p2;have ne:∀ b o,s.heap.get? b=some o->b≠s.heap.objs.size:=fun b o e=>Nat.ne_of_lt (Heap.lt_size e)
 have U:=J.base;refine I.call' (ch:=fp) J.os ⟨fun b o e h1 h2 h3=>U.keep b o e h1 h2 h3,fun b o e h1 h2 h3=>U.slot b o e h1 h2 h3,fun b o e h1 h2=>?_,U.there,fun b xs e=>?_,fun b o u e=>?_,fun b ps e=>?_⟩ ?_ J.bare fun b hb=>?_
 ·rw [Ab (ne b o e)];exact U.free b o e h1 h2
 ·have q:=U.tups b xs e;rw [Ab (Aj q hD)];exact q
 ·have q:=U.frzs b o u e;rw [Ab (Aj q hD)];exact q
 ·obtain ⟨m,q⟩:=U.tbls b ps e;exact ⟨m,by rw [Ab (Aj q hD)];exact q⟩
 ·intro b u e
  by_cases hb:b=s.heap.objs.size
  ·subst hb;rw [Ak] at e;cases e;exact ⟨hz,its,n,r,p1⟩
  ·rw [Ab hb] at e;exact (J.hok b u e).stay (fun _ _ _ q=>q) (fun c q=>by rw [Ab (Aj q hD)];exact q) fun c xs q=>by rw [Ab (Aj q hD)];exact q
 ·obtain ⟨q0,q1,q2,q3,q4,q5⟩:=hf b hb;exact ⟨q3,q1,q4,q5⟩
end
section
variable {prog:Program}{w:World}{A:Around}{E:Value->Shared->Prop}{R:Result->Shared->Prop}{s:Shared}
noncomputable abbrev Xe (ifs:List Expr) (env:Env):Sem Bool:=forIn ifs true fun c r=>if r=true then do let ok ← isTrue c env (eval c env);pure (ForInStep.yield ok) else pure (ForInStep.yield r)
theorem Qj {elt target iter:Expr}{ifs:List Expr}{scope:Scope}{pos:Pos}{it acc:Value}{env:Env}(I:Nat->Shared->Prop)
  (turn:∀ n s,I n s->wpAny (model prog w) A (pyNext it) (fun r s₁=>match r with
   | none=>R (.ok .next) s₁
   | some v=>wpAny (model prog w) A (letOwnedTupleGo target it v) (fun _ s'=>wpAny (model prog w) A (assign target env v) (fun _ s₂ =>
     wpAny (model prog w) A (Xe ifs env) (fun ok s₃ =>
      if ok=true then wpAny (model prog w) A (eval elt env) (fun x s₄ =>
       wpAny (model prog w) A (call (.builtin "list.append") [acc,x]) (fun _ s₅=>∃ m,m < n/\I m s₅) (fun _ _=>False) s₄) (fun _ _=>False) s₃
      else ∃ m,m < n/\I m s₃) (fun _ _=>False) s₂) (fun _ _=>False) s') (fun _ _=>False) s₁) (fun _ _=>False) s)
  (n:Nat) (h:I n s) :
  codeAny (model prog w) A (.compLoop (.ListComp elt [⟨target,iter,ifs,0⟩] scope pos) 0 it acc env) R s:=by
 refine codeAny_loop rfl I (fun n s hI=>?_) n h;show wpAny _ A ((compTurn (.ListComp elt [⟨target,iter,ifs,0⟩] scope pos) 0 it acc env).onRaise (fun x=>do noteFrame x env;theTreesLotGoes x)) _ _ s;refine wpAny_noted ?_;rw [compTurn_list];refine wpAny_bind (wpAny_standAt (wpAny_bind (wpAny_mono (turn n s hI) (fun r s₁ h₁=>?_) fun _ _ h'=>h'.elim)));cases r with
 | none=>exact wpAny_pure h₁
 | some v =>
  refine wpAny_bind (wpAny_mono h₁ (fun _ s' h'=>?_) fun _ _ h'=>h'.elim);refine wpAny_bind (wpAny_mono h' (fun _ s₂ h₂=>wpAny_bind (wpAny_mono h₂ (fun ok s₃ h₃=>?_) fun _ _ h'=>h'.elim)) fun _ _ h'=>h'.elim);cases ok with
  | false=>exact wpAny_pure ⟨rfl,h₃⟩
  | true =>
   exact wpAny_bind (wpAny_bind (wpAny_mono h₃ (fun x s₄ h₄=>wpAny_bind (wpAny_mono h₄ (fun _ s₅ h₅=>wpAny_pure (wpAny_pure ⟨rfl,h₅⟩)) fun _ _ h'=>h'.elim)) fun _ _ h'=>h'.elim))
end
noncomputable def PIf (X:Cx) (ifs:List Expr) (t:TT):Prop :=
 ∀ (pins:List (Addr×Obj)) (s:Shared) (σ:St) (H:Hp) (Q:Bool->Hp->Prop),Inv X pins σ H s->t σ H Q->wpAny (model X.prog X.w) X.A (Xe ifs X.env) (TP X pins σ Q) X.xe s
theorem kI {X:Cx}:PIf X [] (fun _ H Q=>Q true H):=fun pins s σ H Q I h=>wpAny_tests_nil ⟨H,I,h⟩
theorem kJ {X:Cx}{c:Expr}{t:TT}(h:PT X c t):PIf X [c] t:=fun pins s σ H Q I q=>wpAny_tests_one (h pins s σ H Q I q)
noncomputable def Kept (σ0 σ2:St):Prop:=σ2.length=σ0.length/\∀ (i:Nat) v,σ0[i]?=some (some v)->σ2[i]?=some (some v)
noncomputable def bR (X:Cx) (N':List Str) (scope:Scope) (wi:TI) (g:TG) (tc:TT) (te:TE):TE:=fun σ H Q=>wi σ H fun J H1=>∃ σ0,Cap X N' scope σ σ0/\∃ W:Nat->Nat->List V->Hp->Prop,(∃ m,W 0 m [] H1)/\∀ i m acc H,W i m acc H ->
 (J.stop i H/\∀ p,H p=none->Q (.ref p) (upd H p (.lst acc))) \/
 (J.go i H/\∃ N:List V->Hp->Prop,(∀ acc' H',N acc' H'->∃ m',m' < m/\W (i+1) m' acc' H')/\∀ x H',J.yld i H x H'->g x σ0 H' fun σ2 H2=>Kept σ0 σ2/\tc σ2 H2 fun b H3=>if b=true then acc.length < sizeLine/\te σ2 H3 fun y H4=>N (acc++[y]) H4 else N acc H3)
section
variable {X:Cx}{N':List Str}{scope:Scope}{wi:TI}{g:TG}{tc:TT}{te:TE}{elt target iter:Expr}{ifs:List Expr}{pos:Pos}
theorem Lf {pins:List (Addr×Obj)}{s:Shared}{σ σ0:St}{H:Hp}{it:Addr}{fp:List Addr}{tn:Nat->Heap->Prop}{J:It}{QQ:List V->Hp->Prop}{E:Value->Shared->Prop}{RR:Value->Addr->Result->Shared->Prop}(hc:X.calm=true) (S:CompOk X scope)
  (hg:∀ pins C cells s₀ H₀ fp,PG (Bp X pins N' scope C cells s₀ H₀ fp) target g)
  (hi:∀ pins C cells s₀ H₀ fp,PIf (Bp X pins N' scope C cells s₀ H₀ fp) ifs tc)
  (he:∀ pins C cells s₀ H₀ fp,PE (Bp X pins N' scope C cells s₀ H₀ fp) elt te)
  (I:Inv X pins σ H s) (T:Turn X.prog X.w X.K target J fp it tn) (st:tn 0 s.heap) (hf:∀ b∈fp,Nk X pins H b) (hσ:Cap X N' scope σ σ0)
  (W:Nat->Nat->List V->Hp->Prop) (w0:∃ m,W 0 m [] H)
  (turn:∀ i m acc H,W i m acc H->(J.stop i H/\QQ acc H) \/
   (J.go i H/\∃ N:List V->Hp->Prop,(∀ acc' H',N acc' H'->∃ m',m' < m/\W (i+1) m' acc' H')/\∀ x H',J.yld i H x H'->g x σ0 H' fun σ2 H2=>Kept σ0 σ2/\tc σ2 H2 fun b H3=>if b=true then acc.length < sizeLine/\te σ2 H3 fun y H4=>N (acc++[y]) H4 else N acc H3))
  (hRR:∀ (C:Addr) (acc:List V) (H':Hp) (s':Shared) (m:Str->Option Value),QQ acc H'->Inv X pins σ (upd H' s.heap.objs.size (.lst acc)) s'->H' s.heap.objs.size=none->s'.heap.Ns C m->H' C=none->C≠s.heap.objs.size->s.heap.objs.size<=C->RR (.ref s.heap.objs.size) C (.ok .next) s') :
  wpAny (model X.prog X.w) X.A (newList []) (fun acc s₃=>wpAny (model X.prog X.w) X.A (newFunctionEnv scope X.env.globals (Ey X.env scope.names) [] X.env.qual none .none (some X.env)) (fun cenv s₄ =>
   codeAny (model X.prog X.w) X.A (.compStart (.ListComp elt [⟨target,iter,ifs,0⟩] scope pos) 0 (.ref it) acc { cenv with scope:=relabel scope X.env }) (RR acc cenv.locals) s₄) E s₃) E s:=by
 refine wpAny_newObj_type (Ss ?_);have sz1:(s.heap.push (Al [] 0)).objs.size=s.heap.objs.size+1:=Heap.size_push ..;have I0:=Vj (N':=N') (σ0:=σ0) I S hf (fun b hb=>let ⟨o,e,_⟩:=T.obj 0 _ st b hb;⟨o,e⟩) hσ
 show codeAny (model X.prog X.w) X.A (.compStart (.ListComp elt [⟨target,iter,ifs,0⟩] scope pos) 0 (.ref it) (.ref s.heap.objs.size) _) (RR (.ref s.heap.objs.size) (s.heap.push (Al [] 0)).objs.size) { s with heap:=pushCells ((s.heap.push (Al [] 0)).push { cls:=.type "dict",data:=.dict #[] }) scope.names };rw [sz1];show codeAny (model X.prog X.w) X.A (.compStart (.ListComp elt [⟨target,iter,ifs,0⟩] scope pos) 0 (.ref it) (.ref s.heap.objs.size) (Bp X pins N' scope (s.heap.objs.size+1) (cellsFrom (s.heap.objs.size+1+1) scope.names (Ey X.env scope.names)) s H fp).env) _ _;generalize hX':Bp X pins N' scope (s.heap.objs.size+1) (cellsFrom (s.heap.objs.size+1+1) scope.names (Ey X.env scope.names)) s H fp=X' at I0 ⊢
 have keep0:∀ b o,s.heap.get? b=some o->(pushCells ((s.heap.push (Al [] 0)).push { cls:=.type "dict",data:=.dict #[] }) scope.names).get? b=some o:=fun b o e=>pushCells_keeps _ _ b o (Heap.get?_push_of_some _ (Heap.get?_push_of_some _ e))
 have st0:tn 0 (pushCells ((s.heap.push (Al [] 0)).push { cls:=.type "dict",data:=.dict #[] }) scope.names):=T.keep _ _ _ st fun b _ o e=>keep0 b o e
 have hA:X'.A=X.A:=by rw [← hX'];rfl
 have hP:X'.prog=X.prog:=by rw [← hX'];rfl
 have hw:X'.w=X.w:=by rw [← hX'];rfl
 have hK:X'.K=X.K:=by rw [← hX'];rfl
 have hC:X'.calm=true:=by rw [← hX'];exact hc
 have hL:X'.env.locals=s.heap.objs.size+1:=by rw [← hX'];rfl
 have hS0:X'.s₀=s:=by rw [← hX'];rfl
 have hxe:X'.xe=fun _ _=>False:=by rw [← hX'];rfl
 have hex:X'.ex=fp:=by rw [← hX'];rfl
 have hpn:X'.pn=X.pn++pins:=by rw [← hX'];rfl
 have hgX:PG X' target g:=by rw [← hX'];exact hg _ _ _ _ _ _
 have hiX:PIf X' ifs tc:=by rw [← hX'];exact hi _ _ _ _ _ _
 have heX:PE X' elt te:=by rw [← hX'];exact he _ _ _ _ _ _
 -- the iterator's own objects,in the block
 have fpo:∀ {pl:List (Addr×Obj)} {H':Hp} {its:List Value} {n:Nat},(∀ b∈fp,H' b=none)->∀ b∈fp,Nk X' [(s.heap.objs.size,Al its n)] H' b:=fun {pl H' its n} hn b hb=>by
  obtain ⟨q0,q1,q2,q3,q4,q5⟩:=hf b hb;obtain ⟨e1,e2⟩:=I0.ok.exf b (by rw [hex];exact hb);have lt:b < s.heap.objs.size:=let ⟨o,e,_⟩:=T.obj 0 _ st b hb;Heap.lt_size e;refine ⟨hn b hb,e1,I0.ok.exfs b (by rw [hex];exact hb),.inl (by rw [hex];exact hb),e2,fun p hp=>?_⟩;rw [hpn] at hp;rcases List.mem_append.mp hp with hp|hp
  ·exact q5 p hp
  ·have e:p=(s.heap.objs.size,Al its n):=by simpa using hp
   subst e;exact Nat.ne_of_gt lt
 obtain ⟨m0,w0⟩:=w0
 have loop:codeAny (model X.prog X.w) X.A (.compLoop (.ListComp elt [⟨target,iter,ifs,0⟩] scope pos) 0 (.ref it) (.ref s.heap.objs.size) X'.env) (RR (.ref s.heap.objs.size) (s.heap.objs.size+1)) { s with heap:=pushCells ((s.heap.push (Al [] 0)).push { cls:=.type "dict",data:=.dict #[] }) scope.names }:=by
  refine Qj (fun k s'=>∃ i H' acc its n,Inv X' [(s.heap.objs.size,Al its n)] σ0 H' s'/\tn i s'.heap/\(∀ b∈fp,H' b=none)/\Vals acc its/\acc.length<=sizeLine/\W i k acc H') ?_ m0
   ⟨0,H,[],[],0,I0,st0,fun b hb=>(hf b hb).1,.nil,Nat.zero_le _,w0⟩
  rintro k s3 ⟨i,H3,acc,its,n,I3,st3,fr3,rv,hz,w3⟩;rcases turn i k acc H3 w3 with ⟨stop,qn⟩|⟨go,N,hN,step⟩
  ·have z:=T.done X' hP hw hK hC i _ s3 σ0 H3 (fun _ _=>False) I3 (fpo (pl:=[]) fr3) st3 stop;rw [hA] at z;refine thn z ?_;rintro r s4 ⟨hr,I4⟩;subst hr;obtain ⟨m,hn,_⟩:=I4.loc;rw [hL] at hn;have fC:=I4.free;rw [hL] at fC;have e:=I4;rw [← hX'] at e;exact hRR _ acc H3 s4 m qn (bQ I hf e rv hz) (I4.pin (s.heap.objs.size,Al its n) (List.mem_append_right _ List.mem_cons_self)).2.1 hn fC (Nat.succ_ne_self _) (Nat.le_succ _)
  ·have z:=T.item X' hP hw hK hC i _ s3 σ0 H3 (fun _ _=>False) I3 (fpo (pl:=[]) fr3) st3 go;rw [hA] at z;refine thn z ?_;rintro r s4 ⟨u,hr,h4⟩;subst hr;refine thn h4 ?_;rintro _ s5 ⟨x,H5,I5,r5,y5,st5,fr5⟩;have I5':=I5.pinned (fpo (pl:=[]) fr5) (T.obj _ _ st5);have zg:=hgX _ s5 σ0 H5 x u _ I5' r5 (step x H5 y5);rw [hP,hw,hA,hxe] at zg;refine thn zg ?_;rintro _ s6 ⟨σ6,H6,I6,kp,q6⟩;have zi:=hiX _ s6 σ6 H6 _ I6 q6;rw [hP,hw,hA,hxe] at zi;refine thn zi ?_;rintro b s7 ⟨H7,I7,q7⟩
   -- back to the loop's head
   have back:∀ {H8:Hp} {s8:Shared} {acc':List V} {its':List Value} {n':Nat},Inv X' ([(s.heap.objs.size,Al its' n')]++Hr fp s5.heap) σ6 H8 s8->Vals acc' its'->acc'.length<=sizeLine->N acc' H8 ->
     ∃ m,m < k/\∃ i H' acc its n,Inv X' [(s.heap.objs.size,Al its n)] σ0 H' s8/\tn i s8.heap/\(∀ b∈fp,H' b=none)/\Vals acc its/\acc.length<=sizeLine/\W i m acc H':=fun {H8 s8 acc' its' n'} I8 rv' hz' n8=>by
    obtain ⟨m',hm,w8⟩:=hN acc' H8 n8;refine ⟨m',hm,i+1,H8,acc',its',n',(I8.unpinned).weak kp.1.symm kp.2,T.keep _ _ _ st5 fun b hb o e=>(I8.pin (b,o) (List.mem_append_right _ (List.mem_append_right _ (Fy hb e)))).1,fun b hb=>?_,rv',hz',w8⟩;obtain ⟨o,e,d⟩:=T.obj _ _ st5 b hb;exact (I8.pin (b,o) (List.mem_append_right _ (List.mem_append_right _ (Fy hb e)))).2.1
   cases b with
   | false =>
    rw [if_neg Bool.false_ne_true] at q7;rw [if_neg Bool.false_ne_true];exact back I7 rv hz q7
   | true =>
    rw [if_pos rfl] at q7;rw [if_pos rfl];obtain ⟨hlt,q7⟩:=q7;have ze:=heX _ s7 σ6 H7 _ I7 q7;rw [hP,hw,hA,hxe] at ze;refine thn ze ?_;rintro y s8 ⟨yv,H8,I8,r8,q8⟩;obtain ⟨p1,p2,p3,p4,p5⟩:=I8.pin (s.heap.objs.size,Al its n) (List.mem_append_right _ (List.mem_append_left _ List.mem_cons_self));have len:its.toArray.size<=sizeLine:=by
     have:=rv.length;simp only [List.size_toArray];omega
    refine wpAny_list_append_plain (hsz:=len) ⟨n,p1⟩ ?_;rintro h' ⟨n',pl⟩ sb;have pl':h'.get? s.heap.objs.size=some (Al (its++[y]) n'):=by rw [pl];simp [Al]
    have lD:s.heap.objs.size < (pushCells ((s.heap.push (Al [] 0)).push { cls:=.type "dict",data:=.dict #[] }) scope.names).objs.size:=by
     refine Nat.lt_of_lt_of_le ?_ (Ek _ _);rw [Heap.size_push,Heap.size_push];omega
    have cne:∀ z c,X'.env.cells.lookup z=some c->c≠s.heap.objs.size:=fun z c e q=>by
     obtain ⟨v,hv⟩:=I8.cell z c e;obtain ⟨o,ho,hd⟩:=hv;rw [q] at ho;rw [show s8.heap.get? s.heap.objs.size=some (Al its n) from p1] at ho;cases ho;cases hd
    have J9:Inv X' (Hr fp s5.heap) σ6 H8 { s8 with heap:=h' }:=by
     refine Inv.turned (t':=s8.toks) (it:=s.heap.objs.size) (I8.pins_of fun p hp=>I8.pin p (List.mem_append_right _ (List.mem_append_right _ hp))) (fun b o hb e=>sb.extBut b o hb e) p2 (by rw [hL];exact Nat.ne_of_lt (Nat.lt_succ_self _)) (.inr (by rw [hS0];exact Nat.le_refl _)) cne fun p hp=>?_
     rw [hpn] at hp;rcases List.mem_append.mp hp with hp|hp
     ·have:p.1 < s.heap.objs.size:=Heap.lt_size (I.pin p hp).1;exact Nat.ne_of_lt this
     ·obtain ⟨hb,_⟩:=Oa hp;have:p.1 < s.heap.objs.size:=let ⟨o,e,_⟩:=T.obj 0 _ st p.1 hb;Heap.lt_size e;exact Nat.ne_of_lt this
    have I9:Inv X' ([(s.heap.objs.size,Al (its++[y]) n')]++Hr fp s5.heap) σ6 H8 { s8 with heap:=h' }:=by
     refine J9.pins_of fun p hp=>?_
     rcases List.mem_append.mp hp with hp|hp
     ·have e:p=(s.heap.objs.size,Al (its++[y]) n'):=by simpa using hp
      subst e;exact ⟨pl',p2,p3,p4,fun v=>by intro z;cases z⟩
     ·exact J9.pin p (List.mem_append_right _ hp)
    exact back I9 (rv.append (.cons r8 .nil)) (by rw [List.length_append,List.length_singleton];omega) q8
 exact codeAny_compStart_list loop (T.self X.A 0 _ _ _ st0 loop)
theorem kO (hc:X.calm=true) (S:CompOk X scope) (hit:PI X target iter wi)
  (hg:∀ pins C cells s₀ H₀ fp,PG (Bp X pins N' scope C cells s₀ H₀ fp) target g)
  (hi:∀ pins C cells s₀ H₀ fp,PIf (Bp X pins N' scope C cells s₀ H₀ fp) ifs tc)
  (he:∀ pins C cells s₀ H₀ fp,PE (Bp X pins N' scope C cells s₀ H₀ fp) elt te)
  (hs:∀ x,foldedSetIterable iter X.env x=pure x:=by intro _;rfl) :
  PE X (.ListComp elt [⟨target,iter,ifs,0⟩] scope pos) (bR X N' scope wi g tc te):=by
 intro pins s σ H Q I h;rw [eval_ListComp];have hfree:∀ x∈scope.names,x.2=.free->∃ c,X.env.cells.lookup x.1=some c:=fun x hx e=>I.ok.has x.1 (S.fr x hx e)
 refine wpAny_comprehension_free (use:=none) rfl hs (Hl hfree) S.kind (fun x hx e=>Dt S.nd (by rw [← e];exact hx)) (thn (hit pins s σ H _ I h) fun v s1 h1=>thn h1 fun itv s2 h2=>?_);obtain ⟨it,fp,tn,J,H2,e,I2,T,st2,f2,σ0,hσ,W,w0,turn⟩:=h2;subst e;refine Lf (QQ:=fun acc H=>∀ p,H p=none->Q (.ref p) (upd H p (.lst acc))) (RR:=fun acc C=>compPost (model X.prog X.w) X.A X.xe none (EP X pins σ Q) acc C) hc S hg hi he I2 T st2 f2 hσ W w0 turn ?_;intro C acc H' s' m q I' hD hn hC hne hle;refine ⟨m,hn,fun h' sb=>?_⟩;obtain ⟨oC,_,_,hoC,_⟩:=id hn;have uC:upd H' s2.heap.objs.size (.lst acc) C=none:=by rw [Ab hne];exact hC
 have hCL:C≠X.env.locals:=Nat.ne_of_gt (Nat.lt_of_lt_of_le I2.lt hle);refine ⟨.ref s2.heap.objs.size,_,I'.turned (t':=s'.toks) (it:=C) (fun b o hb e=>sb.extBut b o hb e) uC hCL (.inr (Nat.le_trans I2.sz hle)) (fun x c e z=>?_) fun p hp z=>?_,rfl,q _ hD⟩
 ·obtain ⟨v,hv⟩:=I2.cell x c e;have:=hv.lt;rw [z] at this;exact Nat.lt_irrefl _ (Nat.lt_of_lt_of_le this hle)
 ·have:=Heap.lt_size (I2.pin p hp).1;rw [z] at this;exact Nat.lt_irrefl _ (Nat.lt_of_lt_of_le this hle)
theorem Vk {y:Str}{py spos:Pos}{gy:TG}(hc:X.calm=true) (S:CompOk X scope) (hit:PI X target iter wi)
  (hg:∀ pins C cells s₀ H₀ fp,PG (Bp X pins N' scope C cells s₀ H₀ fp) target g)
  (hi:∀ pins C cells s₀ H₀ fp,PIf (Bp X pins N' scope C cells s₀ H₀ fp) ifs tc)
  (he:∀ pins C cells s₀ H₀ fp,PE (Bp X pins N' scope C cells s₀ H₀ fp) elt te)
  (hgy:PG X (.Name y py) gy)
  (hsw:swapsWith (.ListComp elt [⟨target,iter,ifs,0⟩] scope pos) (some (.Name y py)) spos.line X.env=pure true)
  (hs:∀ x,foldedSetIterable iter X.env x=pure x:=by intro _;rfl) :
  PS X (.Assign [.Name y py] (.ListComp elt [⟨target,iter,ifs,0⟩] scope pos) spos) (rH (bR X N' scope wi g tc te) gy):=by
 intro pins s σ H D I h;rw [exec_Assign_Name_used _ _ _ _ hsw];refine wpAny_bind (wpAny_standAt (wpAny_bind ?_));show wpAny _ X.A (do let _ ← comprehension (.ListComp elt [⟨target,iter,ifs,0⟩] scope pos) scope X.env _ (newList []) false (eval iter X.env) (some (assign (.Name y py) X.env))) _ _ s;have hfree:∀ x∈scope.names,x.2=.free->∃ c,X.env.cells.lookup x.1=some c:=fun x hx e=>I.ok.has x.1 (S.fr x hx e)
 refine wpAny_bind (wpAny_mono (wpAny_comprehension_free (use:=some (assign (.Name y py) X.env)) (Q:=fun _ s'=>SP X pins D .next s') rfl hs (Hl hfree) S.kind (fun x hx e=>Dt S.nd (by rw [← e];exact hx)) (thn (hit pins s σ H _ I h) fun v s1 h1=>thn h1 fun itv s2 h2=>?_))
  (fun _ s' hq=>wpAny_pure (wpAny_pure hq)) fun _ _ e=>e)
 obtain ⟨it,fp,tn,J,H2,e,I2,T,st2,f2,σ0,hσ,W,w0,turn⟩:=h2;subst e;refine Lf (QQ:=fun acc H=>∀ p,H p=none->gy (.ref p) σ (upd H p (.lst acc)) D.nx) (RR:=fun acc C=>compPost (model X.prog X.w) X.A X.xe (some (assign (.Name y py) X.env)) (fun _ s'=>SP X pins D .next s') acc C) hc S hg hi he I2 T st2 f2 hσ W w0 turn ?_;intro C acc H' s' m q I' hD hn hC hne hle;obtain ⟨oC,esC,epC,hoC,hdC⟩:=id hn;have uC:upd H' s2.heap.objs.size (.lst acc) C=none:=by rw [Ab hne];exact hC
 have hCL:C≠X.env.locals:=Nat.ne_of_gt (Nat.lt_of_lt_of_le I2.lt hle);have hCfs:C ∉ X.fs:=I2.nofs hle;have pinC:Inv X (pins++[(C,oC)]) σ (upd H' s2.heap.objs.size (.lst acc)) s':=by
  refine I'.pins_of fun p hp=>?_
  rcases List.mem_append.mp hp with hp|hp
  ·exact I'.pin p (List.mem_append_right _ hp)
  ·have e:p=(C,oC):=by simpa using hp
   subst e;refine ⟨hoC,uC,hCL,hCfs,fun v z=>?_⟩;rw [hdC.1] at z;cases z
 refine thn (hgy _ s' σ _ (.ref s2.heap.objs.size) _ _ pinC rfl (q _ hD)) ?_;rintro _ s'' ⟨σ2,H3,I3,q3⟩;obtain ⟨p1,p2,p3,p4,p5⟩:=I3.pin (C,oC) (List.mem_append_right _ (List.mem_append_right _ List.mem_cons_self));refine ⟨m,⟨oC,esC,epC,p1,hdC⟩,fun h' sb=>?_⟩;refine ⟨σ2,H3,(Inv.unpinned I3).turned (t':=s''.toks) (it:=C) (fun b o hb e=>sb.extBut b o hb e) p2 hCL (.inr (Nat.le_trans I2.sz hle)) (fun x c e z=>?_) fun p hp z=>?_,q3⟩
 ·obtain ⟨v,hv⟩:=I2.cell x c e;have:=hv.lt;rw [z] at this;exact Nat.lt_irrefl _ (Nat.lt_of_lt_of_le this hle)
 ·have:=Heap.lt_size (I2.pin p hp).1;rw [z] at this;exact Nat.lt_irrefl _ (Nat.lt_of_lt_of_le this hle)
end
end L2
namespace DL
open PySem PySem.Spec PyProof.Rows L2
noncomputable abbrev St:=L2.St
structure CloI where
 ps:List Str
 N:List Str
 fr:List Str
 scope:Scope
 body:List Stmt
inductive D where
 | non | bl (b:Bool) | int (i:Int) | str (x:Str) | tup (ds:List D) | ref (n:Nat) | rol (ds:List D) | obj (c:Str) (ks:List Str) (ds:List D) | fn (x:Str) | lam | clo (I:CloI) (ds:List D)
 deriving Inhabited
inductive MO where
 | lst (ds:List D)
 | dct (kvs:List (Key×D))
 | dtk (kvs:List (PyData×D))
 | plc
 | plq (x:Str)
 | fzd
noncomputable abbrev MH:=List MO
noncomputable abbrev Loc:=List (Option D)
noncomputable def Gr (K:PySem.W.Frag) (H:Hp) (a:Addr) (xs:List V):Prop:=(∃ o,H a=some (.frz o (.lst xs))) \/
  ∃ (o:Obj) (its:Array Value) (n:Nat),K.lookup a=some o/\o.cls=.type "list"/\o.dict=none/\o.data=.seq its n/\its.size<=sizeLine/\Vals xs its.toList
theorem Gr.sq {K:PySem.W.Frag}{H:Hp}{a:Addr}{xs:List V}(h:Gr K H a xs):SqL K H a xs:=by
 rcases h with ⟨o,h⟩|h
 ·exact .inl (.inr ⟨o,h⟩)
 ·exact .inr h
noncomputable def zE (fd:FuncData):Prop:=∃ (name qual:Str) (ps:Arguments) (x y:Str) (p q pt:Pos) (k:Nat) (sc:Scope) (pm cdv ct:Value),fd=PySem.W.kla_fn name qual ps (.Tuple [.Name x p,.Name y q] k pt) sc [] pm cdv ct /\
  FnScope [x,y] [x,y] sc/\(x==("__debug__":Str))=false/\(x==("__classdict__":Str))=false/\(y==("__debug__":Str))=false/\(y==("__classdict__":Str))=false/\∀ u v,bindArgs fd ⟨[u,v],[]⟩=pure [(x,u),(y,v)]
noncomputable def Sv (H:Hp) (v:Value) (q:Str):Prop:=∃ c oc u vs tq,v=.ref c/\H c=some (.frz oc u)/\oc.data=.fields vs/\vs[1]?=some (.str q tq)
noncomputable def Xf (H:Hp) (a:Addr):Prop:=∃ o u fd,H a=some (.frz o u)/\o.data=.func fd/\zE fd/\Sv H fd.code fd.qualname
structure CloSc (I:CloI):Prop where
 kind:I.scope.kind=.function
 co:I.scope.isCoroutine=false
 gen:I.scope.isGenerator=false
 nd:(I.N++I.fr).Nodup
 pre:I.N.take I.ps.length=I.ps
 par:∀ x∈I.ps,I.scope.names.lookup x=some .local
 nocell:∀ y∈I.scope.names,y.2≠.cell
 free:∀ x,I.scope.names.lookup x=some .free->x∈I.fr
 frs:∀ x∈I.fr,I.scope.names.lookup x=some .free
noncomputable def pL (I:CloI) (fd:FuncData) (cl:List (Str×Addr)):Prop:=∃ (name qual:Str) (params:Arguments) (doc pm cdv ctv:Value),fd=PySem.W.fnX name qual params I.body I.scope cl .none .none doc pm none cdv ctv/\∀ us:List Value,us.length=I.ps.length->bindArgs fd ⟨us,[]⟩=pure (I.ps.zip us)
noncomputable def Ga (H:Hp):List Addr->List V->Prop
 | [],[]=>True
 | c::cs,v::vs=>(∃ oc u w,H c=some (.frz oc u)/\oc.data=.cell (some w)/\RelV v w)/\Ga H cs vs
 | _,_=>False
noncomputable def Xg (H:Hp) (a:Addr) (I:CloI) (xs:List V):Prop:=∃ o u fd cl,H a=some (.frz o u)/\o.data=.func fd/\CloSc I/\pL I fd cl/\Sv H fd.code fd.qualname/\cl.map (·.1)=I.fr/\(cl.map (·.2)).Nodup/\Ga H (cl.map (·.2)) xs
mutual
inductive RD (K:PySem.W.Frag) (H:Hp) (ρ:List Addr):D->V->Prop
 | non:RD K H ρ .non .non
 | bl (b:Bool):RD K H ρ (.bl b) (.bl b)
 | int (i:Int):RD K H ρ (.int i) (.int i)
 | str (x:Str):RD K H ρ (.str x) (.str x)
 | tup {ds:List D} {a:Addr} {xs:List V}:SqT K H a xs->RDs K H ρ ds xs->RD K H ρ (.tup ds) (.ref a)
 | ref {n:Nat} {a:Addr}:ρ[n]?=some a->RD K H ρ (.ref n) (.ref a)
 | rol {ds:List D} {a:Addr} {xs:List V}:Gr K H a xs->RDs K H ρ ds xs->RD K H ρ (.rol ds) (.ref a)
 | obj {c:Str} {ks:List Str} {ds:List D} {a C dx:Addr} {xs:List V}:PySem.W.nsIn K mainGlobals c=some (some (.ref C))->H a=some (.ins C dx (ks.zip xs))->ks.length=xs.length->RDs K H ρ ds xs->RD K H ρ (.obj c ks ds) (.ref a)
 | fn {x:Str} {a:Addr}:PySem.W.nsIn K mainGlobals x=some (some (.ref a))->RD K H ρ (.fn x) (.ref a)
 | lam {a:Addr}:Xf H a->RD K H ρ .lam (.ref a)
 | clo {I:CloI} {ds:List D} {a:Addr} {xs:List V}:Xg H a I xs->RDs K H ρ ds xs->RD K H ρ (.clo I ds) (.ref a)
inductive RDs (K:PySem.W.Frag) (H:Hp) (ρ:List Addr):List D->List V->Prop
 | nil:RDs K H ρ [] []
 | cons {d:D} {v:V} {ds:List D} {vs:List V}:RD K H ρ d v->RDs K H ρ ds vs->RDs K H ρ (d::ds) (v::vs)
end
structure Ev (K:PySem.W.Frag) (H:Hp) (ρ:List Addr) (H':Hp) (ρ':List Addr):Prop where
 tup:∀ a xs,SqT K H a xs->SqT K H' a xs
 pre:ρ <+: ρ'
 perm:∀ a xs,Gr K H a xs->Gr K H' a xs
 ins:∀ a C dx fs,H a=some (.ins C dx fs)->H' a=some (.ins C dx fs)
 frz:∀ a o u,H a=some (.frz o u)->H' a=some (.frz o u)
theorem Ev.refl {K:PySem.W.Frag}{H:Hp}{ρ:List Addr}:Ev K H ρ H ρ:=⟨fun _ _ h=>h,List.prefix_refl _,fun _ _ h=>h,fun _ _ _ _ h=>h,fun _ _ _ h=>h⟩
theorem Ev.trans {K:PySem.W.Frag}{H H1 H2:Hp}{ρ ρ1 ρ2:List Addr}(a:Ev K H ρ H1 ρ1) (b:Ev K H1 ρ1 H2 ρ2):Ev K H ρ H2 ρ2:=⟨fun x xs h=>b.tup x xs (a.tup x xs h),a.pre.trans b.pre,fun x xs h=>b.perm x xs (a.perm x xs h),fun x C dx fs h=>b.ins x C dx fs (a.ins x C dx fs h),fun x o u h=>b.frz x o u (a.frz x o u h)⟩
theorem Ev.at {K:PySem.W.Frag}{H H':Hp}{ρ ρ':List Addr}(e:Ev K H ρ H' ρ') {n:Nat}{a:Addr}(h:ρ[n]?=some a):ρ'[n]?=some a:=by
 obtain ⟨t,rfl⟩:=e.pre;obtain ⟨hl,_⟩:=List.getElem?_eq_some_iff.mp h;rw [List.getElem?_append_left hl];exact h
theorem Sv.mono {H H':Hp}(e:∀ a o u,H a=some (.frz o u)->H' a=some (.frz o u)) {v:Value}{q:Str}(h:Sv H v q):Sv H' v q :=
 let ⟨c,oc,u,vs,tq,h1,h2,h3⟩:=h;⟨c,oc,u,vs,tq,h1,e _ _ _ h2,h3⟩
theorem Xf.mono {H H':Hp}(e:∀ a o u,H a=some (.frz o u)->H' a=some (.frz o u)) {a:Addr}(h:Xf H a):Xf H' a :=
 let ⟨o,u,fd,h1,h2,h3,h4⟩:=h;⟨o,u,fd,e _ _ _ h1,h2,h3,h4.mono e⟩
theorem Ga.mono {H H':Hp}(e:∀ a o u,H a=some (.frz o u)->H' a=some (.frz o u)):∀ {cs:List Addr}{vs:List V},Ga H cs vs->Ga H' cs vs
 | [],[],_=>trivial
 | _::_,_::_,⟨⟨oc,u,w,h1,h2,h3⟩,t⟩=>⟨⟨oc,u,w,e _ _ _ h1,h2,h3⟩,Ga.mono e t⟩
theorem Xg.mono {H H':Hp}(e:∀ a o u,H a=some (.frz o u)->H' a=some (.frz o u)) {a:Addr}{I:CloI}{xs:List V}(h:Xg H a I xs):Xg H' a I xs :=
 let ⟨o,u,fd,cl,h1,h2,h3,h4,h5,h6,h7,h8⟩:=h;⟨o,u,fd,cl,e _ _ _ h1,h2,h3,h4,h5.mono e,h6,h7,h8.mono e⟩
mutual
theorem RD.mono {K:PySem.W.Frag}{H H':Hp}{ρ ρ':List Addr}(e:Ev K H ρ H' ρ'):∀ {d:D}{v:V},RD K H ρ d v->RD K H' ρ' d v
 | _,_,.non=>.non
 | _,_,.bl b=>.bl b
 | _,_,.int i=>.int i
 | _,_,.str x=>.str x
 | _,_,.tup s r=>.tup (e.tup _ _ s) (RDs.mono e r)
 | _,_,.ref h=>.ref (e.at h)
 | _,_,.rol s r=>.rol (e.perm _ _ s) (RDs.mono e r)
 | _,_,.obj n s l r=>.obj n (e.ins _ _ _ _ s) l (RDs.mono e r)
 | _,_,.fn h=>.fn h
 | _,_,.lam h=>.lam (h.mono e.frz)
 | _,_,.clo h r=>.clo (h.mono e.frz) (RDs.mono e r)
theorem RDs.mono {K:PySem.W.Frag}{H H':Hp}{ρ ρ':List Addr}(e:Ev K H ρ H' ρ'):∀ {ds:List D}{vs:List V},RDs K H ρ ds vs->RDs K H' ρ' ds vs
 | _,_,.nil=>.nil
 | _,_,.cons r t=>.cons (RD.mono e r) (RDs.mono e t)
end
section
variable {K:PySem.W.Frag}{H H':Hp}{ρ ρ':List Addr}
theorem RDs.length:∀ {ds:List D}{vs:List V},RDs K H ρ ds vs->ds.length=vs.length
 | _,_,.nil=>rfl
 | _,_,.cons _ t=>by rw [List.length_cons,List.length_cons,RDs.length t]
theorem RDs.get:∀ {ds:List D}{vs:List V}{i:Nat}{d:D},RDs K H ρ ds vs->ds[i]?=some d->∃ v,vs[i]?=some v/\RD K H ρ d v
 | _,_,_,_,.nil,e=>by simp at e
 | _,_,0,_,.cons r _,e=>by simp at e;subst e;exact ⟨_,by simp,r⟩
 | _,_,i+1,d,.cons _ t,e=>by
  obtain ⟨v,h1,h2⟩:=RDs.get (i:=i) (d:=d) t (by simpa using e);exact ⟨v,by simpa using h1,h2⟩
theorem RDs.append:∀ {ds es:List D}{vs us:List V},RDs K H ρ ds vs->RDs K H ρ es us->RDs K H ρ (ds++es) (vs++us)
 | _,_,_,_,.nil,s=>s
 | _,_,_,_,.cons r t,s=>.cons r (RDs.append t s)
theorem RDs.take:∀ {ds:List D}{vs:List V}(n:Nat),RDs K H ρ ds vs->RDs K H ρ (ds.take n) (vs.take n)
 | _,_,0,_=>.nil
 | _,_,_+1,.nil=>.nil
 | _,_,n+1,.cons r t=>.cons r (RDs.take n t)
theorem RDs.drop:∀ {ds:List D}{vs:List V}(n:Nat),RDs K H ρ ds vs->RDs K H ρ (ds.drop n) (vs.drop n)
 | _,_,0,r=>r
 | _,_,_+1,.nil=>.nil
 | _,_,n+1,.cons _ t=>RDs.drop n t
theorem RDs.set {d:D}{v:V}(r:RD K H ρ d v):∀ {ds:List D}{vs:List V}(n:Nat),RDs K H ρ ds vs->RDs K H ρ (ds.set n d) (vs.set n v)
 | _,_,_,.nil=>.nil
 | _,_,0,.cons _ t=>.cons r t
 | _,_,n+1,.cons q t=>.cons q (RDs.set r n t)
theorem RDs.ints:∀ (ns:List Int),RDs K H ρ (ns.map D.int) (ns.map V.int)
 | []=>.nil
 | n::r=>.cons (.int n) (RDs.ints r)
noncomputable def Abs (K:PySem.W.Frag) (a:Addr):Prop:=∃ (f:Addr) (o:Obj) (fd:FuncData) (c bm:Addr) (ob:Obj),PySem.W.nsIn K mainGlobals "pattern_of"=some (some (.ref f))/\K.lookup f=some o/\o.data=.func fd/\fd.code=.ref c/\PySem.W.codeHdIn K c a=true /\
  PySem.W.nsIn K mainGlobals "__builtins__"=some (some (.ref bm))/\K.lookup bm=some ob/\ob.cls=.type "module"/\ob.dict=some builtinsNs/\ob.data=.plain/\bm≠builtinsNs/\bm≠mainGlobals
noncomputable abbrev Abt:Str:=("pattern_of":Str) ++ ".<locals>." ++ "<lambda>"
noncomputable def zF (K:PySem.W.Frag) (H:Hp) (a:Addr):Prop:=∃ ps,H a=some (.tbl ps)/\TriplesOk ps.toList/\(∀ pos v,codeAmong pos ps.toList=some v->Sv H v Abt)/\Abs K a
noncomputable def Abu (K:PySem.W.Frag) (x:Str) (a:Addr):Prop:=∃ (f:Addr) (o:Obj) (fd:FuncData) (c bm:Addr) (ob:Obj),PySem.W.nsIn K mainGlobals x=some (some (.ref f))/\K.lookup f=some o/\o.data=.func fd/\fd.code=.ref c/\PySem.W.codeHdIn K c a=true /\
  PySem.W.nsIn K mainGlobals "__builtins__"=some (some (.ref bm))/\K.lookup bm=some ob/\ob.cls=.type "module"/\ob.dict=some builtinsNs/\ob.data=.plain/\bm≠builtinsNs/\bm≠mainGlobals
noncomputable abbrev Abv (x:Str):Str:=x ++ ".<locals>." ++ "_law_pick"
noncomputable def zG (K:PySem.W.Frag) (H:Hp) (x:Str) (a:Addr):Prop:=∃ ps,H a=some (.tbl ps)/\TriplesOk ps.toList/\(∀ pos v,codeAmong pos ps.toList=some v->Sv H v (Abv x))/\Abu K x a
mutual
noncomputable def toD:PyData->D
 | .int i=>.int i
 | .str x=>.str x
 | .tuple xs=>.tup (Np xs)
 | _=>.non
noncomputable def Np:List PyData->List D
 | []=>[]
 | x::r=>toD x::Np r
end
noncomputable def kOk (k:PyData):Prop:=kCl k=true/\k.canLay0=true/\k.depth<=8
inductive KN (K:PySem.W.Frag) (H:Hp) (ρ:List Addr):List (PyData×D)->List (PyData×Addr×V)->Prop
 | nil:KN K H ρ [] []
 | cons {k:PyData} {d:D} {b:Addr} {v:V} {kvs:List (PyData×D)} {xs:List (PyData×Addr×V)}:kOk k->RD K H ρ (toD k) (.ref b)->RD K H ρ d v->KN K H ρ kvs xs->KN K H ρ ((k,d)::kvs) ((k,b,v)::xs)
theorem KN.mono {kvs:List (PyData×D)}{xs:List (PyData×Addr×V)}(e:Ev K H ρ H' ρ') (h:KN K H ρ kvs xs):KN K H' ρ' kvs xs:=by
 induction h with
 | nil=>exact .nil
 | cons a b c _ ih=>exact .cons a (b.mono e) (c.mono e) ih
noncomputable def RO (K:PySem.W.Frag) (H:Hp) (ρ:List Addr) (a:Addr):MO->Prop
 | .lst ds=>∃ xs,H a=some (.lst xs)/\RDs K H ρ ds xs
 | .plc=>zF K H a
 | .plq x=>zG K H x a
 | .fzd=>∃ o u,H a=some (.frz o u)
 | .dtk kvs=>∃ xs,H a=some (.dN xs)/\KN K H ρ kvs xs
 | .dct kvs=>∃ xs:List (Key×V),H a=some (.dK xs)/\xs.map (·.1)=kvs.map (·.1)/\RDs K H ρ (kvs.map (·.2)) (xs.map (·.2))
structure RS (K:PySem.W.Frag) (H:Hp) (ρ:List Addr) (mh:MH):Prop where
 len:ρ.length=mh.length
 nd:ρ.Nodup
 obj:∀ (n:Nat) (a:Addr) (o:MO),ρ[n]?=some a->mh[n]?=some o->RO K H ρ a o
noncomputable def RL (K:PySem.W.Frag) (H:Hp) (ρ:List Addr) (loc:Loc) (σ:St):Prop:=loc.length=σ.length/\∀ (i:Nat) (d:D),loc[i]?=some (some d)->∃ v,σ[i]?=some (some v)/\RD K H ρ d v
theorem RL.mono {loc:Loc}{σ:St}(e:Ev K H ρ H' ρ') (h:RL K H ρ loc σ):RL K H' ρ' loc σ:=⟨h.1,fun i d q=>let ⟨v,e1,r⟩:=h.2 i d q;⟨v,e1,r.mono e⟩⟩
theorem RL.set {loc:Loc}{σ:St}{d:D}{v:V}{i:Nat}(h:RL K H ρ loc σ) (r:RD K H ρ d v):RL K H ρ (loc.set i (some d)) (σ.set i (some v)):=by
 refine ⟨by rw [List.length_set,List.length_set];exact h.1,fun j d' q=>?_⟩
 by_cases e:i=j
 ·subst e;rw [List.getElem?_set] at q;simp only [if_true] at q;split at q
  ·rename_i hl;cases q;refine ⟨v,?_,r⟩;rw [List.getElem?_set];simp only [if_true];rw [if_pos (by rw [← h.1];exact hl)]
  ·cases q
 ·rw [List.getElem?_set_ne e] at q;rw [List.getElem?_set_ne e];exact h.2 j d' q
theorem RS.at {mh:MH}(h:RS K H ρ mh) {n:Nat}{o:MO}(e:mh[n]?=some o):∃ a,ρ[n]?=some a/\RO K H ρ a o:=by
 obtain ⟨hl,_⟩:=List.getElem?_eq_some_iff.mp e;have hl':n < ρ.length:=by rw [h.len];exact hl
 exact ⟨ρ[n],List.getElem?_eq_getElem hl',h.obj n _ o (List.getElem?_eq_getElem hl') e⟩
theorem RS.tracked {mh:MH}(h:RS K H ρ mh) {a:Addr}(ha:a∈ρ):∃ o,H a=some o:=by
 obtain ⟨n,hn,rfl⟩:=List.getElem_of_mem ha;have hl:n < mh.length:=by rw [← h.len];exact hn
 have q:=h.obj n _ _ (List.getElem?_eq_getElem hn) (List.getElem?_eq_getElem hl);cases e:mh[n] with
 | lst ds=>rw [e] at q;obtain ⟨xs,q,_⟩:=q;exact ⟨_,q⟩
 | dct kvs=>rw [e] at q;obtain ⟨xs,q,_⟩:=q;exact ⟨_,q⟩
 | dtk kvs=>rw [e] at q;obtain ⟨xs,q,_⟩:=q;exact ⟨_,q⟩
 | plc=>rw [e] at q;obtain ⟨xs,q,_⟩:=q;exact ⟨_,q⟩
 | plq x=>rw [e] at q;obtain ⟨xs,q,_⟩:=q;exact ⟨_,q⟩
 | fzd=>rw [e] at q;obtain ⟨o,u,q⟩:=q;exact ⟨_,q⟩
theorem RO.read {a:Addr}{ds:List D}(h:RO K H ρ a (.lst ds)):∃ xs,SqL K H a xs/\RDs K H ρ ds xs:=by
 obtain ⟨xs,q,r⟩:=h;exact ⟨xs,.inl (.inl q),r⟩
theorem Xh {a p:Addr}{o:HO}{xs:List V}(hp:H p=none) (h:SqT K H a xs):SqT K (upd H p o) a xs:=by
 rcases h with (h|⟨ob,h⟩)|h
 ·exact .inl (.inl (by rw [Ab (Aj h hp)];exact h))
 ·exact .inl (.inr ⟨ob,by rw [Ab (Aj h hp)];exact h⟩)
 ·exact .inr h
theorem kW {a p:Addr}{ys zs xs:List V}(hp:H p=some (.lst ys)) (h:SqT K H a xs):SqT K (upd H p (.lst zs)) a xs:=by
 rcases h with (h|⟨ob,h⟩)|h
 ·exact .inl (.inl (by rw [Ab (Gp h hp (by intro z;cases z))];exact h))
 ·exact .inl (.inr ⟨ob,by rw [Ab (Gp h hp (by intro z;cases z))];exact h⟩)
 ·exact .inr h
theorem Sw {a p:Addr}{o:HO}{xs:List V}(hp:H p=none) (h:Gr K H a xs):Gr K (upd H p o) a xs:=by
 rcases h with ⟨ob,h⟩|h
 ·exact .inl ⟨ob,by rw [Ab (Aj h hp)];exact h⟩
 ·exact .inr h
theorem bT {a p:Addr}{ys zs xs:List V}(hp:H p=some (.lst ys)) (h:Gr K H a xs):Gr K (upd H p (.lst zs)) a xs:=by
 rcases h with ⟨ob,h⟩|h
 ·exact .inl ⟨ob,by rw [Ab (Gp h hp (by intro z;cases z))];exact h⟩
 ·exact .inr h
theorem Ev.new {p:Addr}{o:HO}(hp:H p=none):Ev K H ρ (upd H p o) ρ:=⟨fun _ _ h=>Xh hp h,List.prefix_refl _,fun _ _ h=>Sw hp h,fun a _ _ _ h=>by rw [Ab (Aj h hp)];exact h,fun a _ _ h=>by rw [Ab (Aj h hp)];exact h⟩
theorem Ev.newL {p:Addr}{o:HO}(hp:H p=none):Ev K H ρ (upd H p o) (ρ++[p]):=⟨fun _ _ h=>Xh hp h,List.prefix_append _ _,fun _ _ h=>Sw hp h,fun a _ _ _ h=>by rw [Ab (Aj h hp)];exact h,fun a _ _ h=>by rw [Ab (Aj h hp)];exact h⟩
theorem Ev.lst {p:Addr}{ys zs:List V}(hp:H p=some (.lst ys)):Ev K H ρ (upd H p (.lst zs)) ρ:=⟨fun _ _ h=>kW hp h,List.prefix_refl _,fun _ _ h=>bT hp h,fun a _ _ _ h=>by rw [Ab (Gp h hp (by intro z;cases z))];exact h,fun a _ _ h=>by rw [Ab (Gp h hp (by intro z;cases z))];exact h⟩
theorem RO.mono {a:Addr}{o:MO}(e:Ev K H ρ H' ρ') (s:H' a=H a) (h:RO K H ρ a o):RO K H' ρ' a o:=by
 cases o with
 | lst ds=>obtain ⟨xs,q,r⟩:=h;exact ⟨xs,by rw [s];exact q,r.mono e⟩
 | dct kvs=>obtain ⟨xs,q,k,r⟩:=h;exact ⟨xs,by rw [s];exact q,k,r.mono e⟩
 | dtk kvs=>obtain ⟨xs,q,r⟩:=h;exact ⟨xs,by rw [s];exact q,r.mono e⟩
 | plc=>obtain ⟨ps,q,t,c,k⟩:=h;exact ⟨ps,by rw [s];exact q,t,fun pos v z=>(c pos v z).mono e.frz,k⟩
 | plq x=>obtain ⟨ps,q,t,c,k⟩:=h;exact ⟨ps,by rw [s];exact q,t,fun pos v z=>(c pos v z).mono e.frz,k⟩
 | fzd=>obtain ⟨o,u,q⟩:=h;exact ⟨o,u,by rw [s];exact q⟩
theorem RS.new {mh:MH}{p:Addr}{o:HO}(h:RS K H ρ mh) (hp:H p=none):RS K (upd H p o) ρ mh :=
 ⟨h.len,h.nd,fun n a ob e1 e2=>(h.obj n a ob e1 e2).mono (Ev.new hp) (by
  obtain ⟨oo,q⟩:=h.tracked (List.mem_of_getElem? e1)
  rw [Ab (Aj q hp)])⟩
theorem RS.newL {mh:MH}{p:Addr}{xs:List V}{ds:List D}(h:RS K H ρ mh) (hp:H p=none) (r:RDs K H ρ ds xs):RS K (upd H p (.lst xs)) (ρ++[p]) (mh++[.lst ds]):=by
 have hnp:p ∉ ρ:=fun z=>by
  obtain ⟨o,q⟩:=h.tracked z;rw [hp] at q;cases q
 refine ⟨by rw [List.length_append,List.length_append,h.len];rfl,?_,fun n a ob e1 e2=>?_⟩
 ·rw [List.nodup_append]
  exact ⟨h.nd,List.pairwise_singleton _ _,fun a ha b hb z=>by
   rw [List.mem_singleton.mp hb] at z;rw [z] at ha;exact hnp ha⟩
 ·by_cases hn:n < ρ.length
  ·rw [List.getElem?_append_left hn] at e1;rw [List.getElem?_append_left (by rw [← h.len];exact hn)] at e2;refine (h.obj n a ob e1 e2).mono (Ev.newL hp) ?_;obtain ⟨oo,q⟩:=h.tracked (List.mem_of_getElem? e1);rw [Ab (Aj q hp)]
  ·rw [List.getElem?_append_right (by omega)] at e1;rw [List.getElem?_append_right (by rw [← h.len];omega)] at e2;have n0:n - ρ.length=0:=by
    have:=(List.getElem?_eq_some_iff.mp e1).1;simp at this;omega
   rw [n0] at e1;rw [← h.len,n0] at e2;cases e1;cases e2;exact ⟨xs,Ak,r.mono (Ev.newL hp)⟩
theorem RS.setL {mh:MH}{n:Nat}{p:Addr}{ys xs:List V}{ds:List D}(h:RS K H ρ mh) (hn:ρ[n]?=some p) (hp:H p=some (.lst ys)) (r:RDs K H ρ ds xs):RS K (upd H p (.lst xs)) ρ (mh.set n (.lst ds)):=by
 refine ⟨by rw [List.length_set];exact h.len,h.nd,fun m a ob e1 e2=>?_⟩
 by_cases hm:n=m
 ·subst hm;rw [hn] at e1;cases e1;rw [List.getElem?_set] at e2;simp only [if_true] at e2;split at e2
  ·cases e2;exact ⟨xs,Ak,r.mono (Ev.lst hp)⟩
  ·cases e2
 ·rw [List.getElem?_set_ne hm] at e2;refine (h.obj m a ob e1 e2).mono (Ev.lst hp) ?_;rw [Ab];intro z;subst z;exact hm ((List.getElem?_inj (List.getElem?_eq_some_iff.mp hn).1 h.nd).mp (hn.trans e1.symm))
end
noncomputable abbrev DM (α:Type):=Loc->MH->Option (α×MH)
noncomputable def DM.bnd {α β:Type}(m:DM α) (f:α->DM β):DM β:=fun loc mh=>match m loc mh with
 | none=>none
 | some (a,mh')=>f a loc mh'
theorem Ah {α β:Type}{m:DM α}{f:α->DM β}{loc:Loc}{mh:MH}{r:β×MH}(h:m.bnd f loc mh=some r):∃ a m1,m loc mh=some (a,m1)/\f a loc m1=some r:=by
 unfold DM.bnd at h;split at h
 ·cases h
 ·rename_i a m1 e;exact ⟨a,m1,e,h⟩
noncomputable def Zr {α:Type}(a:α):DM α:=fun _ mh=>some (a,mh)
noncomputable def Zl {α:Type}(f:MH->Option (α×MH)):DM α:=fun _ mh=>f mh
noncomputable def Zb {α:Type}:DM α:=fun _ _=>none
noncomputable def Co (K:PySem.W.Frag) (H:Hp) (ρ:List Addr) (mh':MH) (d:D) (Q:VK):Prop:=∀ H' ρ' v,Ev K H ρ H' ρ'->RS K H' ρ' mh'->RD K H' ρ' d v->Q v H'
noncomputable def tD (K:PySem.W.Frag) (loc:Loc) (mh:MH) (r:Option (D×MH)):TE:=fun σ H Q=>∃ ρ d mh',r=some (d,mh')/\RL K H ρ loc σ/\RS K H ρ mh/\Co K H ρ mh' d Q
noncomputable def tDT (K:PySem.W.Frag) (loc:Loc) (mh:MH) (r:Option (Bool×MH)):TT:=fun σ H Q=>∃ ρ b mh',r=some (b,mh')/\RL K H ρ loc σ/\RS K H ρ mh/\∀ H' ρ',Ev K H ρ H' ρ'->RS K H' ρ' mh'->Q b H'
noncomputable def tDA (K:PySem.W.Frag) (loc:Loc) (mh:MH) (r:Option (List D×MH)):TA:=fun σ H Q=>∃ ρ ds mh',r=some (ds,mh')/\RL K H ρ loc σ/\RS K H ρ mh/\∀ H' ρ' vs,Ev K H ρ H' ρ'->RS K H' ρ' mh'->RDs K H' ρ' ds vs->Q vs H'
noncomputable def DE (X:Cx) (e:Expr) (m:DM D):Prop:=∀ loc mh,PE X e (tD X.K loc mh (m loc mh))
noncomputable def DT (X:Cx) (e:Expr) (m:DM Bool):Prop:=∀ loc mh,PT X e (tDT X.K loc mh (m loc mh))
noncomputable def DA (X:Cx) (es:List Expr) (m:DM (List D)):Prop:=∀ loc mh,PA X es (tDA X.K loc mh (m loc mh))
theorem Ar {X:Cx}{e:Expr}{t t':TE}(h:PE X e t) (i:∀ σ H Q,t' σ H Q->t σ H Q):PE X e t':=fun pins s σ H Q I q=>h pins s σ H Q I (i σ H Q q)
theorem Qk {X:Cx}{e:Expr}{t t':TT}(h:PT X e t) (i:∀ σ H Q,t' σ H Q->t σ H Q):PT X e t':=fun pins s σ H Q I q=>h pins s σ H Q I (i σ H Q q)
theorem bU {X:Cx}{es:List Expr}{t t':TA}(h:PA X es t) (i:∀ σ H Q,t' σ H Q->t σ H Q):PA X es t':=fun pos pins s σ H Q I q=>h pos pins s σ H Q I (i σ H Q q)
theorem kY {K:PySem.W.Frag}{loc:Loc}{mh:MH}{σ:St}{H:Hp}{Q:VK}(h:tD K loc mh none σ H Q):False:=by obtain ⟨_,_,_,e,_⟩:=h;cases e
theorem Az {X:Cx}{e:Expr}{loc:Loc}{mh:MH}:PE X e (tD X.K loc mh none):=fun _ _ _ _ _ _ h=>(kY h).elim
theorem Xi {X:Cx}{e:Expr}{loc:Loc}{mh:MH}:PT X e (tDT X.K loc mh none):=fun _ _ _ _ _ _ h=>by obtain ⟨_,_,_,e,_⟩:=h;cases e
theorem Xj {X:Cx}{es:List Expr}{loc:Loc}{mh:MH}:PA X es (tDA X.K loc mh none):=fun _ _ _ _ _ _ _ h=>by obtain ⟨_,_,_,e,_⟩:=h;cases e
theorem Af {X:Cx}{e:Expr}:DE X e Zb:=fun _ _=>Az
theorem Dh {X:Cx}{e:Expr}:DT X e Zb:=fun _ _=>Xi
theorem bV {X:Cx}{es:List Expr}:DA X es Zb:=fun _ _=>Xj
section
variable {X:Cx}{a b c e:Expr}{ma mb mc:DM D}{pos:Pos}
theorem kZ {d:D}{v:V}(h:PE X e (tC v)) (r:∀ K H ρ,RD K H ρ d v):DE X e (Zr d):=by
 refine fun loc mh=>Ar h ?_
 rintro σ H Q ⟨ρ,d',mh',q,rl,rs,co⟩;cases q;exact co H ρ v Ev.refl rs (r _ _ _)
theorem tK {i:Nat}{x:Str}(hN:X.N[i]?=some x) (hv:Vis X.env.scope x) (hd:(x==("__debug__":Str))=false) (hcd:(x==("__classdict__":Str))=false) :
  DE X (.Name x pos) (fun loc mh=>match loc[i]? with | some (some d)=>some (d,mh) | _=>none):=by
 refine fun loc mh=>Ar (U3 hN hv hd hcd) ?_
 rintro σ H Q ⟨ρ,d',mh',q,rl,rs,co⟩;dsimp only at q;split at q
 ·rename_i d e;cases q;obtain ⟨v,h1,h2⟩:=rl.2 i d' e;exact ⟨v,h1,co H ρ v Ev.refl rs h2⟩
 ·cases q
noncomputable def rD (K:PySem.W.Frag) (f:D->D->MH->Option (D×MH)):R2:=fun x y H Q=>∃ ρ mh dx dy d mh',f dx dy mh=some (d,mh')/\RS K H ρ mh/\RD K H ρ dx x/\RD K H ρ dy y/\Co K H ρ mh' d Q
noncomputable def rD1 (K:PySem.W.Frag) (f:D->MH->Option (D×MH)):V->Hp->VK->Prop:=fun x H Q=>∃ ρ mh dx d mh',f dx mh=some (d,mh')/\RS K H ρ mh/\RD K H ρ dx x/\Co K H ρ mh' d Q
noncomputable def rDs (K:PySem.W.Frag) (f:List D->MH->Option (D×MH)):List V->Hp->VK->Prop:=fun xs H Q=>∃ ρ mh ds d mh',f ds mh=some (d,mh')/\RS K H ρ mh/\RDs K H ρ ds xs/\Co K H ρ mh' d Q
theorem Co.ev {K:PySem.W.Frag}{H H1:Hp}{ρ ρ1:List Addr}{mh':MH}{d:D}{Q:VK}(e:Ev K H ρ H1 ρ1) (c:Co K H ρ mh' d Q):Co K H1 ρ1 mh' d Q:=fun H' ρ' v e' rs r=>c H' ρ' v (e.trans e') rs r
noncomputable def dop (f:D->D->MH->Option (D×MH)) (ma mb:DM D):DM D:=ma.bnd fun x=>mb.bnd fun y=>Zl (f x y)
theorem two {K:PySem.W.Frag}{f:D->D->MH->Option (D×MH)}{loc:Loc}{mh:MH}{σ:St}{H:Hp}{Q:VK}(h:tD K loc mh (dop f ma mb loc mh) σ H Q) :
  ∃ x m1,ma loc mh=some (x,m1)/\tOp (rD K f) (tD K loc mh (ma loc mh)) (tD K loc m1 (mb loc m1)) σ H Q:=by
 obtain ⟨ρ,d,mh',q,rl,rs,co⟩:=h;obtain ⟨x,m1,ea,q⟩:=Ah q;obtain ⟨y,m2,eb,q⟩:=Ah q;refine ⟨x,m1,ea,ρ,x,m1,ea,rl,rs,fun H1 ρ1 v1 e1 rs1 r1=>⟨ρ1,y,m2,eb,rl.mono e1,rs1,fun H2 ρ2 v2 e2 rs2 r2=>?_⟩⟩;exact ⟨ρ2,m2,x,y,d,mh',q,rs2,r1.mono e2,r2,co.ev (e1.trans e2)⟩
theorem Vl {f:D->D->MH->Option (D×MH)}(h:∀ ta tb,PE X a ta->PE X b tb->PE X e (tOp (rD X.K f) ta tb)) (ha:DE X a ma) (hb:DE X b mb):DE X e (dop f ma mb):=fun loc mh=>by
 cases ea:ma loc mh with
 | none =>
  have:dop f ma mb loc mh=none:=by unfold dop DM.bnd;rw [ea]
  rw [this];exact Az
 | some p =>
  refine Ar (h _ _ (ha loc mh) (hb loc p.2)) fun σ H Q q=>?_
  obtain ⟨x,m1,e1,q⟩:=two q;rw [ea] at e1;cases e1;exact q
theorem zH {op:Operator}{f:D->D->MH->Option (D×MH)}(ho:OpR X (binaryOp op) (rD X.K f)) (ha:DE X a ma) (hb:DE X b mb):DE X (.BinOp a op b pos) (dop f ma mb):=Vl (fun _ _ p q=>yG ho p q) ha hb
theorem tL {op:CmpOp}{f:D->D->MH->Option (D×MH)}(ho:OpR X (compareOp op) (rD X.K f)) (hm:behindInMarks op b=false) (ha:DE X a ma) (hb:DE X b mb):DE X (.Compare a [op] [b] pos) (dop f ma mb):=Vl (fun _ _ p q=>jJ ho p q hm) ha hb
theorem zJ {f:D->D->MH->Option (D×MH)}(ho:IxR X (rD X.K f)) (hs:P0 b) (ha:DE X a ma) (hb:DE X b mb):DE X (.Subscript a b pos) (dop f ma mb):=Vl (fun _ _ p q=>yS ho p q hs) ha hb
theorem zK {op:UnaryOp}{f:D->MH->Option (D×MH)}(ho:UnR X (unaryOp op) (rD1 X.K f)) (ha:DE X a ma):DE X (.UnaryOp op a pos) (ma.bnd fun x=>Zl (f x)):=fun loc mh =>
 Ar (yH ho (ha loc mh)) fun σ H Q ⟨ρ,d,mh',q,rl,rs,co⟩=>by
 obtain ⟨x,m1,ea,q⟩:=Ah q
 ·exact ⟨ρ,x,m1,ea,rl,rs,fun H1 ρ1 v1 e1 rs1 r1=>⟨ρ1,m1,x,d,mh',q,rs1,r1,co.ev e1⟩⟩
noncomputable def asB:D->Option Bool
 | .bl b=>some b
 | _=>none
noncomputable def Am (ma:DM D):DM Bool:=ma.bnd fun x=>match asB x with | some b=>Zr b | none=>Zb
theorem lA {f:D->D->MH->Option (D×MH)}(h:∀ ta tb,PE X a ta->PE X b tb->PT X e (aY (tOp (rD X.K f) ta tb))) (ha:DE X a ma) (hb:DE X b mb):DT X e (Am (dop f ma mb)):=fun loc mh=>by
 cases ea:ma loc mh with
 | none =>
  have:Am (dop f ma mb) loc mh=none:=by unfold Am dop DM.bnd;rw [ea]
  rw [this];exact Xi
 | some p =>
  refine Qk (h _ _ (ha loc mh) (hb loc p.2)) ?_;rintro σ H Q ⟨ρ,k,mh',q,rl,rs,co⟩;unfold Am at q;cases ed:dop f ma mb loc mh with
  | none=>unfold DM.bnd at q;rw [ed] at q;cases q
  | some z =>
   obtain ⟨d,m2⟩:=z;unfold DM.bnd at q;rw [ed] at q;cases d with
   | bl k' =>
    cases q;have t:tD X.K loc mh (dop f ma mb loc mh) σ H (fun x H'=>∃ k,x=.bl k/\Q k H'):=⟨ρ,.bl k,mh',ed,rl,rs,fun H' ρ' v e' rs' r'=>by cases r';exact ⟨k,rfl,co H' ρ' e' rs'⟩⟩;obtain ⟨x,m1,e1,q⟩:=two t;rw [ea] at e1;cases e1;exact q
   | non=>cases q
   | int i=>cases q
   | str s=>cases q
   | tup ds=>cases q
   | ref n=>cases q
   | rol ds=>cases q
   | obj c ks ds=>cases q
   | fn x=>cases q
   | lam=>cases q
   | clo=>cases q
theorem tM {op:CmpOp}{f:D->D->MH->Option (D×MH)}(ho:OpR X (compareOp op) (rD X.K f)) (hm:behindInMarks op b=false) (ha:DE X a ma) (hb:DE X b mb):DT X (.Compare a [op] [b] pos) (Am (dop f ma mb)):=lA (fun _ _ p q=>jK ho p q hm) ha hb
noncomputable def Ik (t u:DM Bool):DM Bool:=t.bnd fun c=>if c=true then u else Zr false
noncomputable def Nq (t u:DM Bool):DM Bool:=t.bnd fun c=>if c=true then Zr true else u
noncomputable def Sx (t:DM Bool):DM Bool:=t.bnd fun c=>Zr (!c)
noncomputable def DW (X:Cx) (e:Expr) (m:DM Bool):Prop:=∀ loc mh,PW X e (tDT X.K loc mh (m loc mh))
theorem Xk {loc:Loc}{mh:MH}:PW X e (tDT X.K loc mh none):=fun _ _ _ _ _ _ _ h=>by obtain ⟨_,_,_,e,_⟩:=h;cases e
theorem bW {t t':TT}(h:PW X e t) (i:∀ σ H Q,t' σ H Q->t σ H Q):PW X e t':=fun wh pins s σ H Q I q=>h wh pins s σ H Q I (i σ H Q q)
theorem DW.dt {m:DM Bool}(h:DW X e m):DT X e m:=fun loc mh=>(h loc mh).pt
variable {t u:DM Bool}{rest:List Expr}
theorem lB (ha:DT X a t):DW X (.BoolOp .And [a] pos) t:=fun loc mh=>jB (ha loc mh)
theorem tQ (ha:DT X a t):DW X (.BoolOp .Or [a] pos) t:=fun loc mh=>qU (ha loc mh)
theorem tR (ha:DT X a t) (hb:DW X (.BoolOp .And (b::rest) pos) u):DW X (.BoolOp .And (a::b::rest) pos) (Ik t u):=fun loc mh=>by
 cases ea:t loc mh with
 | none =>
  have:Ik t u loc mh=none:=by unfold Ik DM.bnd;rw [ea]
  rw [this];exact Xk
 | some p =>
  obtain ⟨k,m1⟩:=p;refine bW (qW (ha loc mh) (hb loc m1)) ?_;rintro σ H Q ⟨ρ,k',mh',q,rl,rs,co⟩;have q':(if k=true then u else Zr false) loc m1=some (k',mh'):=by unfold Ik DM.bnd at q;rw [ea] at q;exact q
  refine ⟨ρ,k,m1,ea,rl,rs,fun H1 ρ1 e1 rs1=>?_⟩;cases k with
  | true=>exact Qg ⟨ρ1,k',mh',q',rl.mono e1,rs1,fun H2 ρ2 e2 rs2=>co H2 ρ2 (e1.trans e2) rs2⟩
  | false=>cases q';exact Qf (co H1 ρ1 e1 rs1)
theorem zL (ha:DT X a t) (hb:DW X (.BoolOp .Or (b::rest) pos) u):DW X (.BoolOp .Or (a::b::rest) pos) (Nq t u):=fun loc mh=>by
 cases ea:t loc mh with
 | none =>
  have:Nq t u loc mh=none:=by unfold Nq DM.bnd;rw [ea]
  rw [this];exact Xk
 | some p =>
  obtain ⟨k,m1⟩:=p;refine bW (xQ (ha loc mh) (hb loc m1)) ?_;rintro σ H Q ⟨ρ,k',mh',q,rl,rs,co⟩;have q':(if k=true then Zr true else u) loc m1=some (k',mh'):=by unfold Nq DM.bnd at q;rw [ea] at q;exact q
  refine ⟨ρ,k,m1,ea,rl,rs,fun H1 ρ1 e1 rs1=>?_⟩;cases k with
  | true=>cases q';exact Qg (co H1 ρ1 e1 rs1)
  | false=>exact Qf ⟨ρ1,k',mh',q',rl.mono e1,rs1,fun H2 ρ2 e2 rs2=>co H2 ρ2 (e1.trans e2) rs2⟩
theorem tU (ha:DT X a t):DT X (.UnaryOp .Not a pos) (Sx t):=fun loc mh=>by
 refine Qk (qX (ha loc mh)) ?_;rintro σ H Q ⟨ρ,k',mh',q,rl,rs,co⟩;obtain ⟨k,m1,ea,q⟩:=Ah q
 ·cases q;exact ⟨ρ,k,mh',ea,rl,rs,fun H1 ρ1 e1 rs1=>co H1 ρ1 e1 rs1⟩
noncomputable def dIf (t:DM Bool) (ma mb:DM D):DM D:=t.bnd fun c=>if c=true then ma else mb
theorem zM (hc:DT X c t) (ha:DE X a ma) (hb:DE X b mb):DE X (.IfExp c a b pos) (dIf t ma mb):=fun loc mh=>by
 cases ea:t loc mh with
 | none =>
  have:dIf t ma mb loc mh=none:=by unfold dIf DM.bnd;rw [ea]
  rw [this];exact Az
 | some p =>
  obtain ⟨k,m1⟩:=p;refine Ar (aQ (hc loc mh) (ha loc m1) (hb loc m1)) ?_;rintro σ H Q ⟨ρ,d,mh',q,rl,rs,co⟩;have q':(if k=true then ma else mb) loc m1=some (d,mh'):=by unfold dIf DM.bnd at q;rw [ea] at q;exact q
  refine ⟨ρ,k,m1,ea,rl,rs,fun H1 ρ1 e1 rs1=>?_⟩;cases k with
  | true=>exact Qg ⟨ρ1,d,mh',q',rl.mono e1,rs1,co.ev e1⟩
  | false=>exact Qf ⟨ρ1,d,mh',q',rl.mono e1,rs1,co.ev e1⟩
noncomputable def Lg (ma mb:DM D):DM D:=(Am ma).bnd fun c=>if c=true then mb else Zr (.bl false)
noncomputable def bY (ma mb:DM D):DM D:=(Am ma).bnd fun c=>if c=true then Zr (.bl true) else mb
theorem Em {loc:Loc}{mh:MH}{k:Bool}{m1:MH}(h:Am ma loc mh=some (k,m1)):ma loc mh=some (.bl k,m1):=by
 obtain ⟨x,m2,ea,h⟩:=Ah h
 ·cases x with
  | bl b=>cases h;exact ea
  | non=>cases h
  | int i=>cases h
  | str s=>cases h
  | tup ds=>cases h
  | ref n=>cases h
  | rol ds=>cases h
  | obj c ks ds=>cases h
  | fn x=>cases h
  | lam=>cases h
  | clo=>cases h
theorem tV {op}(ha:DE X a ma):DE X (.BoolOp op [a] pos) ma:=fun loc mh=>qY (ha loc mh)
theorem tW (ha:DE X a ma) (hb:DE X (.BoolOp .And (b::rest) pos) mb):DE X (.BoolOp .And (a::b::rest) pos) (Lg ma mb):=fun loc mh=>by
 cases ea:Am ma loc mh with
 | none =>
  have:Lg ma mb loc mh=none:=by unfold Lg DM.bnd;rw [ea]
  rw [this];exact Az
 | some p =>
  obtain ⟨k,m1⟩:=p;refine Ar (qZ (ha loc mh) (hb loc m1)) ?_;rintro σ H Q ⟨ρ,d,mh',q,rl,rs,co⟩;have q':(if k=true then mb else Zr (.bl false)) loc m1=some (d,mh'):=by unfold Lg DM.bnd at q;rw [ea] at q;exact q
  refine ⟨ρ,.bl k,m1,Em ea,rl,rs,fun H1 ρ1 v e1 rs1 r1=>?_⟩;cases r1;refine ⟨k,rfl,?_⟩;cases k with
  | true=>exact Qg ⟨ρ1,d,mh',q',rl.mono e1,rs1,co.ev e1⟩
  | false=>cases q';exact Qf (co H1 ρ1 _ e1 rs1 (.bl false))
theorem zN (ha:DE X a ma) (hb:DE X (.BoolOp .Or (b::rest) pos) mb):DE X (.BoolOp .Or (a::b::rest) pos) (bY ma mb):=fun loc mh=>by
 cases ea:Am ma loc mh with
 | none =>
  have:bY ma mb loc mh=none:=by unfold bY DM.bnd;rw [ea]
  rw [this];exact Az
 | some p =>
  obtain ⟨k,m1⟩:=p;refine Ar (xV (ha loc mh) (hb loc m1)) ?_;rintro σ H Q ⟨ρ,d,mh',q,rl,rs,co⟩;have q':(if k=true then Zr (.bl true) else mb) loc m1=some (d,mh'):=by unfold bY DM.bnd at q;rw [ea] at q;exact q
  refine ⟨ρ,.bl k,m1,Em ea,rl,rs,fun H1 ρ1 v e1 rs1 r1=>?_⟩;cases r1;refine ⟨k,rfl,?_⟩;cases k with
  | true=>cases q';exact Qg (co H1 ρ1 _ e1 rs1 (.bl true))
  | false=>exact Qf ⟨ρ1,d,mh',q',rl.mono e1,rs1,co.ev e1⟩
theorem tX (ha:DE X a ma):DE X (.UnaryOp .Not a pos) ((Am ma).bnd fun c=>Zr (.bl (!c))):=fun loc mh=>by
 refine Ar (rA (ha loc mh)) ?_;rintro σ H Q ⟨ρ,d,mh',q,rl,rs,co⟩;cases ea:Am ma loc mh with
 | none=>unfold DM.bnd at q;rw [ea] at q;cases q
 | some p =>
  obtain ⟨k,m1⟩:=p;unfold DM.bnd at q;rw [ea] at q;cases q;refine ⟨ρ,.bl k,mh',Em ea,rl,rs,fun H1 ρ1 v e1 rs1 r1=>?_⟩;cases r1;exact ⟨k,rfl,co H1 ρ1 _ e1 rs1 (.bl _)⟩
noncomputable def bZ:D->MH->Option Bool
 | .non,_=>some false
 | .bl b,_=>some b
 | .int i,_=>some (i != 0)
 | .str y,_=>if y.length<=sizeLine then some ((y.length:Int) != 0) else none
 | .tup ds,_=>some (!ds.isEmpty)
 | .ref n,mh=>match mh[n]? with | some (.lst o)=>some (!o.isEmpty) | _=>none
 | .rol ds,_=>some (!ds.isEmpty)
 | .obj ..,_=>none
 | .fn _,_=>none
 | .lam,_=>none
 | .clo _ _,_=>none
theorem Gs {K:PySem.W.Frag}{H:Hp}{ρ:List Addr}{ds:List D}{xs:List V}(r:RDs K H ρ ds xs):ds.isEmpty=xs.isEmpty:=by cases r <;> rfl
theorem lC {K:PySem.W.Frag}{H:Hp}{ρ:List Addr}{mh:MH}{d:D}{v:V}{k:Bool}(rs:RS K H ρ mh) (r:RD K H ρ d v) (e:bZ d mh=some k):sE K v H k:=by
 cases r with
 | non=>cases e;rfl
 | bl b=>cases e;rfl
 | int i=>cases e;rfl
 | str x =>
  have e:(if x.length<=sizeLine then some ((x.length:Int) != 0) else none)=some k:=e;split at e
  ·rename_i hz;cases e;exact ⟨hz,rfl⟩
  ·cases e
 | tup s r=>cases e;exact .inr (.inl ⟨_,s,by rw [Gs r]⟩)
 | rol s r=>cases e;exact .inl ⟨_,s.sq,by rw [Gs r]⟩
 | obj n s l r=>cases e
 | fn h=>cases e
 | lam h=>cases e
 | clo=>cases e
 | @ref n a h =>
  have e:(match mh[n]? with | some (.lst o)=>some (!o.isEmpty) | _=>none)=some k:=e;split at e
  ·rename_i o eo;cases e;obtain ⟨a',ha,ro⟩:=rs.at eo;rw [h] at ha;cases ha;obtain ⟨xs,q,r⟩:=ro.read;exact .inl ⟨xs,q,by rw [Gs r]⟩
  ·cases e
noncomputable def Zg (ma:DM D):DM Bool:=ma.bnd fun x=>fun _ mh=>match bZ x mh with | some k=>some (k,mh) | none=>none
theorem Sy (ha:DE X a ma) (he:∀ whole,isTrue a X.env whole=(do let v ← whole;standAt a.pos;holding [v] (truthy v))):DT X a (Zg ma):=fun loc mh=>by
 refine Qk (bB (ha loc mh) he) ?_;rintro σ H Q ⟨ρ,k,mh',q,rl,rs,co⟩;obtain ⟨x,m1,ea,q⟩:=Ah q
 ·split at q
  ·rename_i k' ek;cases q;exact ⟨ρ,x,mh',ea,rl,rs,fun H1 ρ1 v e1 rs1 r1=>⟨k,lC rs1 r1 ek,co H1 ρ1 e1 rs1⟩⟩
  ·cases q
noncomputable def Aa (ma:DM D) (mr:DM (List D)):DM (List D):=ma.bnd fun x=>mr.bnd fun xs=>Zr (x::xs)
theorem tY:DA X [] (Zr []):=by
 refine fun loc mh=>bU Fz ?_
 rintro σ H Q ⟨ρ,ds,mh',q,rl,rs,co⟩;cases q;exact co H ρ [] Ev.refl rs .nil
theorem lE {es:List Expr}{mr:DM (List D)}(ha:DE X a ma) (hr:DA X es mr) (hs:starEach (a::es) X.env=(false,eval a X.env)::starEach es X.env):DA X (a::es) (Aa ma mr):=fun loc mh=>by
 cases ea:ma loc mh with
 | none =>
  have:Aa ma mr loc mh=none:=by unfold Aa DM.bnd;rw [ea]
  rw [this];exact Xj
 | some p =>
  obtain ⟨x,m1⟩:=p;refine bU (Ed (ha loc mh) (hr loc m1) hs) ?_;rintro σ H Q ⟨ρ,ds,mh',q,rl,rs,co⟩;obtain ⟨x2,m2,ea2,q⟩:=Ah q;rw [ea] at ea2;cases ea2;obtain ⟨xs,m2,er,q'⟩:=Ah q
  ·cases q';exact ⟨ρ,x,m1,ea,rl,rs,fun H1 ρ1 v e1 rs1 r1=>⟨ρ1,xs,mh',er,rl.mono e1,rs1,fun H2 ρ2 vs e2 rs2 r2=>co H2 ρ2 _ (e1.trans e2) rs2 (.cons (r1.mono e2) r2)⟩⟩
noncomputable def Oj (ds:List D) (mh:MH):Option (D×MH):=if ds.length<=sizeLine then some (.tup ds,mh) else none
noncomputable def Ol (ds:List D) (mh:MH):Option (D×MH):=if ds.length<=sizeLine then some (.ref mh.length,mh++[.lst ds]) else none
theorem RS.last {K:PySem.W.Frag}{H:Hp}{ρ:List Addr}{mh:MH}(h:RS K H ρ mh) (p:Addr):(ρ++[p])[mh.length]?=some p:=by rw [← h.len];simp
theorem Co.newT {K:PySem.W.Frag}{H:Hp}{ρ:List Addr}{mh:MH}{ds:List D}{vs:List V}{Q:VK}(rs:RS K H ρ mh) (r:RDs K H ρ ds vs) (co:Co K H ρ mh (.tup ds) Q):∀ p,H p=none->Q (.ref p) (upd H p (.tup vs)):=fun p hp =>
 co _ ρ _ (Ev.new hp) (rs.new hp) (.tup (.inl (.inl Ak)) (r.mono (Ev.new hp)))
theorem Co.newL {K:PySem.W.Frag}{H:Hp}{ρ:List Addr}{mh:MH}{ds:List D}{vs:List V}{Q:VK}(rs:RS K H ρ mh) (r:RDs K H ρ ds vs) (co:Co K H ρ (mh++[.lst ds]) (.ref mh.length) Q):∀ p,H p=none->Q (.ref p) (upd H p (.lst vs)):=fun p hp =>
 co _ (ρ++[p]) _ (Ev.newL hp) (rs.newL hp r) (.ref (rs.last p))
theorem tZ {es:List Expr}{mr:DM (List D)}{x1}(h:DA X es mr):DE X (.Tuple es x1 pos) (mr.bnd fun ds=>Zl (Oj ds)):=fun loc mh=>by
 refine Ar (sJ (h loc mh)) ?_;rintro σ H Q ⟨ρ,d,mh',q,rl,rs,co⟩;obtain ⟨ds,m1,ea,q⟩:=Ah q
 ·unfold Zl Oj at q;split at q
  ·rename_i hz;cases q;exact ⟨ρ,ds,mh',ea,rl,rs,fun H1 ρ1 vs e1 rs1 r1=>⟨by rw [← r1.length];exact hz,Co.newT rs1 r1 (co.ev e1)⟩⟩
  ·cases q
theorem uD {es:List Expr}{mr:DM (List D)}(h:DA X es mr):DE X (.List es pos) (mr.bnd fun ds=>Zl (Ol ds)):=fun loc mh=>by
 refine Ar (bF (h loc mh)) ?_;rintro σ H Q ⟨ρ,d,mh',q,rl,rs,co⟩;obtain ⟨ds,m1,ea,q⟩:=Ah q
 ·unfold Zl Ol at q;split at q
  ·rename_i hz;cases q;exact ⟨ρ,ds,m1,ea,rl,rs,fun H1 ρ1 vs e1 rs1 r1=>⟨by rw [← r1.length];exact hz,Co.newL rs1 r1 (co.ev e1)⟩⟩
  ·cases q
theorem En {f:List D->MH->Option (D×MH)}{es:List Expr}{mr:DM (List D)}{x:Str}{p:Pos}{id:String}(hc:Ax X (.builtin id) (rDs X.K f)) (hg:Gl X x) (hm:X.mg x=none) (hv:bootBuiltins x=some (.builtin id)) (ha:DA X (a::es) mr)
  (hn:x ≠ "__name__") (hdb:(x==("__debug__":Str))=false) (he:starEach (a::es) X.env=(false,eval a X.env)::starEach es X.env) (hpl:(backTo pos (starEach es X.env)).any (·.1)=false) :
  DE X (.Call (.Name x p) (a::es) [] pos) (mr.bnd fun ds=>Zl (f ds)):=fun loc mh=>by
 refine Ar (R8 hc hg hm hv (ha loc mh) hn hdb he hpl) ?_;rintro σ H Q ⟨ρ,d,mh',q,rl,rs,co⟩;obtain ⟨ds,m1,ea,q⟩:=Ah q
 ·exact ⟨ρ,ds,m1,ea,rl,rs,fun H1 ρ1 vs e1 rs1 r1=>⟨ρ1,m1,ds,d,mh',q,rs1,r1,co.ev e1⟩⟩
theorem Jm {f:List D->MH->Option (D×MH)}{es:List Expr}{mr:DM (List D)}{x:Str}{p:Pos}{T:String}(hc:Ax X (.type T) (rDs X.K f)) (hg:Gl X x) (hm:X.mg x=none) (hv:bootBuiltins x=some (.type T)) (ha:DA X (a::es) mr)
  (hn:x ≠ "__name__") (hdb:(x==("__debug__":Str))=false) (he:starEach (a::es) X.env=(false,eval a X.env)::starEach es X.env) (hpl:(backTo pos (starEach es X.env)).any (·.1)=false) :
  DE X (.Call (.Name x p) (a::es) [] pos) (mr.bnd fun ds=>Zl (f ds)):=fun loc mh=>by
 refine Ar (Df hc hg hm hv (ha loc mh) hn hdb he hpl) ?_;rintro σ H Q ⟨ρ,d,mh',q,rl,rs,co⟩;obtain ⟨ds,m1,ea,q⟩:=Ah q
 ·exact ⟨ρ,ds,m1,ea,rl,rs,fun H1 ρ1 vs e1 rs1 r1=>⟨ρ1,m1,ds,d,mh',q,rs1,r1,co.ev e1⟩⟩
end
section
variable {X:Cx}
theorem Ko {f:Value->Value->Sem Value}{r r':R2}(h:OpR X f r) (i:∀ x y H Q,r' x y H Q->r x y H Q):OpR X f r':=fun pins s σ H x y v u Q I rx ry q=>h pins s σ H x y v u Q I rx ry (i x y H Q q)
noncomputable def iop (C:Int->Int->Bool) (g:Int->Int->Int):D->D->MH->Option (D×MH)
 | .int i,.int j,mh=>if C i j=true then some (.int (g i j),mh) else none
 | _,_,_=>none
theorem Lh {f:Value->Value->Sem Value}{C:Int->Int->Prop}{Cb:Int->Int->Bool}{g:Int->Int->Int}(h:OpR X f (rI C fun i j=>.int (g i j))) (hC:∀ i j,Cb i j=true->C i j):OpR X f (rD X.K (iop Cb g)):=by
 refine Ko h ?_;rintro x y H Q ⟨ρ,mh,dx,dy,d,mh',q,rs,rx,ry,co⟩;cases rx with
 | int i =>
  cases ry with
  | int j =>
   have q:(if Cb i j=true then some (D.int (g i j),mh) else none)=some (d,mh'):=q;split at q
   ·rename_i hc;cases q;exact ⟨i,j,rfl,rfl,hC i j hc,co H ρ _ Ev.refl rs (.int _)⟩
   ·cases q
  | _=>cases q
 | _=>cases q
theorem lF {f:Value->Value->Sem Value}{g:Int->Int->Int}(h:OpR X f (rI0 fun i j=>.int (g i j))):OpR X f (rD X.K (iop (fun _ _=>true) g)) :=
 Lh (C:=fun _ _=>True) (Ko h fun x y H Q ⟨i,j,e1,e2,_,q⟩=>⟨i,j,e1,e2,q⟩) fun _ _ _=>trivial
noncomputable def S5 (g:Int->Int->Bool):D->D->MH->Option (D×MH)
 | .int i,.int j,mh=>some (.bl (g i j),mh)
 | _,_,_=>none
theorem Kp {f:Value->Value->Sem Value}{g:Int->Int->Bool}(h:OpR X f (rI0 fun i j=>.bl (g i j))):OpR X f (rD X.K (S5 g)):=by
 refine Ko h ?_;rintro x y H Q ⟨ρ,mh,dx,dy,d,mh',q,rs,rx,ry,co⟩;cases rx with
 | int i =>
  cases ry with
  | int j =>
   cases q;exact ⟨i,j,rfl,rfl,co H ρ _ Ev.refl rs (.bl _)⟩
  | _=>cases q
 | _=>cases q
noncomputable def Hg:D->D->MH->Option (D×MH)
 | .int i,.int j,mh=>some (.int (i+j),mh)
 | .str i,.str j,mh=>if i.length+j.length<=sizeLine then some (.str (i++j),mh) else none
 | .tup xs,.tup ys,mh=>if xs.length+ys.length<=sizeLine then some (.tup (xs++ys),mh) else none
 | .ref n,.ref m,mh=>match mh[n]?,mh[m]? with
  | some (.lst xs),some (.lst ys)=>if xs.length+ys.length<=sizeLine then some (.ref mh.length,mh++[.lst (xs++ys)]) else none
  | _,_=>none
 | _,_,_=>none
end
noncomputable def Bx {α β:Type}(f:α->Option β):List α->Option (List β)
 | []=>some []
 | x::xs=>match f x with
  | some y=>match Bx f xs with
   | some ys=>some (y::ys)
   | none=>none
  | none=>none
noncomputable def py (mh:MH):Nat->D->Option PyData
 | _,.non=>some .none
 | _,.bl b=>some (.bool b)
 | _,.int i=>some (.int i)
 | _,.str x=>if PyData.strOk x=true then some (.str x) else none
 | 0,.tup _=>none
 | 0,.ref _=>none
 | 0,.rol _=>none
 | 0,.obj ..=>none
 | _+1,.obj ..=>none
 | 0,.fn _=>none
 | 0,.lam=>none
 | 0,.clo _ _=>none
 | _+1,.fn _=>none
 | _+1,.lam=>none
 | _+1,.clo _ _=>none
 | n+1,.tup ds=>match Bx (py mh n) ds with | some xs=>some (.tuple xs) | none=>none
 | n+1,.rol ds=>match Bx (py mh n) ds with | some xs=>some (.list xs) | none=>none
 | n+1,.ref k=>match mh[k]? with
  | some (.lst o)=>match Bx (py mh n) o with | some xs=>some (.list xs) | none=>none
  | _=>none
section
variable {X:Cx}{pins:List (Addr×Obj)}{σ:St}{H:Hp}{s:Shared}{ρ:List Addr}{mh:MH}
theorem Bm (I:Inv X pins σ H s) (rs:RS X.K H ρ mh):∀ (n:Nat) (d:D) (v:V) (u:Value) (a:PyData),py mh n d=some a->RD X.K H ρ d v->RelV v u->(∃ as,Reads s.heap u a as)/\a.canLay0=true/\a.depth<=n:=by
 intro n
 induction n with
 | zero =>
  intro d v u a e r rv;cases r with
  | non=>cases e;cases rv;exact ⟨⟨_,.none⟩,rfl,Nat.le_refl _⟩
  | bl b=>cases e;cases rv;exact ⟨⟨_,.bool b⟩,rfl,Nat.le_refl _⟩
  | int i=>cases e;obtain ⟨t,rfl⟩:=rv;exact ⟨⟨_,.int i t⟩,rfl,Nat.le_refl _⟩
  | str x =>
   have e:(if PyData.strOk x=true then some (PyData.str x) else none)=some a:=e;split at e
   ·cases e;obtain ⟨t,rfl⟩:=rv;exact ⟨⟨_,.str x t⟩,by assumption,Nat.le_refl _⟩
   ·cases e
  | tup s r=>cases e
  | ref h=>cases e
  | rol s r=>cases e
  | obj n s l r=>cases e
  | fn h=>cases e
  | lam h=>cases e
  | clo=>cases e
 | succ n ih =>
  have all:∀ (ds:List D) (vs:List V) (us:List Value) (as:List PyData),Bx (py mh n) ds=some as->RDs X.K H ρ ds vs->Vals vs us->(∃ bs,ReadsAll s.heap us as bs)/\PyData.canLayAll0 as=true/\PyData.depthAll as<=n:=by
   intro ds
   induction ds with
   | nil=>intro vs us as e r rv;cases e;cases r;cases rv;exact ⟨⟨_,.nil⟩,rfl,Nat.zero_le _⟩
   | cons d ds ihd =>
    intro vs us as e r rv;cases r with
    | cons r1 r2 =>
     cases rv with
     | cons v1 v2 =>
      simp only [Bx] at e;split at e
      ·rename_i y ey;split at e
       ·rename_i ys eys;cases e;obtain ⟨⟨a1,h1⟩,h2,h3⟩:=ih _ _ _ _ ey r1 v1;obtain ⟨⟨b1,g1⟩,g2,g3⟩:=ihd _ _ _ eys r2 v2;refine ⟨⟨_,.cons h1 g1⟩,?_,?_⟩
        ·simp only [PyData.canLayAll0,h2,g2,Bool.and_self]
        ·simp only [PyData.depthAll];omega
       ·cases e
      ·cases e
  intro d v u a e r rv;cases r with
  | non=>cases e;cases rv;exact ⟨⟨_,.none⟩,rfl,Nat.zero_le _⟩
  | bl b=>cases e;cases rv;exact ⟨⟨_,.bool b⟩,rfl,Nat.zero_le _⟩
  | int i=>cases e;obtain ⟨t,rfl⟩:=rv;exact ⟨⟨_,.int i t⟩,rfl,Nat.zero_le _⟩
  | str x =>
   have e:(if PyData.strOk x=true then some (PyData.str x) else none)=some a:=e;split at e
   ·cases e;obtain ⟨t,rfl⟩:=rv;exact ⟨⟨_,.str x t⟩,by assumption,Nat.zero_le _⟩
   ·cases e
  | @tup ds a' xs sq r =>
   cases rv;have e:(match Bx (py mh n) ds with | some xs=>some (PyData.tuple xs) | none=>none)=some a:=e;split at e
   ·rename_i ys ey;cases e;obtain ⟨its,rv,⟨o,h1,h2,n',h3⟩,_⟩:=I.tuple sq;obtain ⟨⟨bs,g1⟩,g2,g3⟩:=all ds xs its ys ey r rv;refine ⟨⟨_,.tuple h1 h2 h3 (by simpa using g1)⟩,by simpa [PyData.canLay0] using g2,?_⟩;simp only [PyData.depth];omega
   ·cases e
  | obj n s l r=>cases e
  | fn h=>cases e
  | lam h=>cases e
  | clo=>cases e
  | @rol ds a' xs sq r =>
   cases rv;have e:(match Bx (py mh n) ds with | some xs=>some (PyData.list xs) | none=>none)=some a:=e;split at e
   ·rename_i ys ey;cases e;obtain ⟨its,rv,⟨ob,n',h1,h2,h2',h3⟩,_⟩:=I.list sq.sq;obtain ⟨⟨bs,g1⟩,g2,g3⟩:=all _ xs its ys ey r rv;refine ⟨⟨_,.list h1 h2 h3 (by simpa using g1)⟩,by simpa [PyData.canLay0] using g2,?_⟩;simp only [PyData.depth];omega
   ·cases e
  | @ref k a' h =>
   cases rv;have e:(match mh[k]? with | some (.lst o)=>(match Bx (py mh n) o with | some xs=>some (PyData.list xs) | none=>none) | _=>none)=some a:=e;split at e
   ·rename_i o eo;split at e
    ·rename_i ys ey;cases e;obtain ⟨a2,ha,ro⟩:=rs.at eo;rw [h] at ha;cases ha;obtain ⟨xs,sq,r⟩:=ro.read;obtain ⟨its,rv,⟨ob,n',h1,h2,h2',h3⟩,_⟩:=I.list sq;obtain ⟨⟨bs,g1⟩,g2,g3⟩:=all _ xs its ys ey r rv;refine ⟨⟨_,.list h1 h2 h3 (by simpa using g1)⟩,by simpa [PyData.canLay0] using g2,?_⟩;simp only [PyData.depth];omega
    ·cases e
   ·cases e
noncomputable def eqB (mh:MH) (x y:D):Option Bool:=match py mh 60 x,py mh 60 y with
 | some a,some b=>some (PyData.eqv a b)
 | _,_=>none
noncomputable def eqD (x y:D) (mh:MH):Option (D×MH):=match eqB mh x y with | some k=>some (.bl k,mh) | none=>none
noncomputable def neD (x y:D) (mh:MH):Option (D×MH):=match eqB mh x y with | some k=>some (.bl (!k),mh) | none=>none
theorem cA {A:Around}{a b:PyData}(hu:A.units+64 < cLine) (h:a.depth<=60):A.units+min a.depth b.depth < cLine:=by omega
theorem S6 {x y:D}{k:Bool}(h:eqB mh x y=some k):∃ a b,py mh 60 x=some a/\py mh 60 y=some b/\k=PyData.eqv a b:=by
 unfold eqB at h;split at h
 ·rename_i a b ea eb;cases h;exact ⟨a,b,ea,eb,rfl⟩
 ·cases h
theorem uE (hu:X.A.units+64 < cLine):OpR X (compareOp .NotEq) (rD X.K neD):=by
 rintro pins s σ H x y v u Q I rx ry ⟨ρ,mh,dx,dy,d,mh',q,rs,r1,r2,co⟩;unfold neD at q;split at q
 ·rename_i k ek;cases q;obtain ⟨a,b,ea,eb,rfl⟩:=S6 ek;obtain ⟨⟨as,h1⟩,h2,h3⟩:=Bm I rs 60 dx x v a ea r1 rx;obtain ⟨⟨bs,g1⟩,g2,g3⟩:=Bm I rs 60 dy y u b eb r2 ry;exact SeqAt.compareNe_reads h1 g1 h2 g2 (cA hu h3) ⟨.bl _,H,I,rfl,co H ρ _ Ev.refl rs (.bl _)⟩
 ·cases q
noncomputable def inB (mh:MH) (x c:D):Option Bool:=match py mh 60 x,py mh 60 c with
 | some a,some (.list xs)=>some (xs.any fun y=>PyData.eqv y a)
 | some a,some (.tuple xs)=>some (xs.any fun y=>PyData.eqv y a)
 | _,_=>none
noncomputable def cB (neg:Bool) (x c:D) (mh:MH):Option (D×MH):=match inB mh x c with | some k=>some (.bl (if neg then !k else k),mh) | none=>none
theorem lG (hu:X.A.units+64 < cLine):OpR X (compareOp .In) (rD X.K (cB false)):=by
 rintro pins s σ H x y v u Q I rx ry ⟨ρ,mh,dx,dy,d,mh',q,rs,r1,r2,co⟩;unfold cB at q;split at q
 ·rename_i k ek;cases q;unfold inB at ek;split at ek
  ·rename_i a xs ea eb;cases ek;obtain ⟨⟨as,h1⟩,h2,h3⟩:=Bm I rs 60 dx x v a ea r1 rx;obtain ⟨⟨bs,g1⟩,g2,g3⟩:=Bm I rs 60 dy y u _ eb r2 ry;exact SeqAt.in_list_reads g1 h1 (by simpa [PyData.canLay0] using g2) h2 (by simp only [PyData.depth] at g3;omega) ⟨.bl _,H,I,rfl,co H ρ _ Ev.refl rs (.bl _)⟩
  ·rename_i a xs ea eb;cases ek;obtain ⟨⟨as,h1⟩,h2,h3⟩:=Bm I rs 60 dx x v a ea r1 rx;obtain ⟨⟨bs,g1⟩,g2,g3⟩:=Bm I rs 60 dy y u _ eb r2 ry;exact SeqAt.in_tuple_reads g1 h1 (by simpa [PyData.canLay0] using g2) h2 (by simp only [PyData.depth] at g3;omega) ⟨.bl _,H,I,rfl,co H ρ _ Ev.refl rs (.bl _)⟩
  ·cases ek
 ·cases q
theorem Vm (hu:X.A.units+64 < cLine):OpR X (compareOp .NotIn) (rD X.K (cB true)):=by
 rintro pins s σ H x y v u Q I rx ry ⟨ρ,mh,dx,dy,d,mh',q,rs,r1,r2,co⟩;unfold cB at q;split at q
 ·rename_i k ek;cases q;unfold inB at ek;split at ek
  ·rename_i a xs ea eb;cases ek;obtain ⟨⟨as,h1⟩,h2,h3⟩:=Bm I rs 60 dx x v a ea r1 rx;obtain ⟨⟨bs,g1⟩,g2,g3⟩:=Bm I rs 60 dy y u _ eb r2 ry;exact SeqAt.notIn_list_reads g1 h1 (by simpa [PyData.canLay0] using g2) h2 (by simp only [PyData.depth] at g3;omega) ⟨.bl _,H,I,rfl,co H ρ _ Ev.refl rs (.bl _)⟩
  ·rename_i a xs ea eb;cases ek;obtain ⟨⟨as,h1⟩,h2,h3⟩:=Bm I rs 60 dx x v a ea r1 rx;obtain ⟨⟨bs,g1⟩,g2,g3⟩:=Bm I rs 60 dy y u _ eb r2 ry;exact SeqAt.notIn_tuple_reads g1 h1 (by simpa [PyData.canLay0] using g2) h2 (by simp only [PyData.depth] at g3;omega) ⟨.bl _,H,I,rfl,co H ρ _ Ev.refl rs (.bl _)⟩
  ·cases ek
 ·cases q
end
section
variable {X:Cx}
theorem cC:OpR X (binaryOp .Add) (fun x y H Q=>∃ a b ys,x=.ref a/\y=.ref b/\SqT X.K H a []/\SqT X.K H b ys/\Q (.ref b) H):=by
 rintro pins s σ H x y v u Q I rx ry ⟨a,b,ys,e1,e2,ha,hb,q⟩;subst e1;subst e2;cases rx;cases ry;obtain ⟨its,r1,p1,_⟩:=I.tuple ha;obtain ⟨its2,r2,p2,_⟩:=I.tuple hb;cases r1;obtain ⟨⟨cls,dd,data,sl⟩,ho,hc,n,hd⟩:=id p1;obtain ⟨⟨cls2,dd2,data2,sl2⟩,ho2,hc2,n2,hd2⟩:=id p2;simp only at hc hd hc2 hd2;subst hc hd hc2 hd2;exact concat_meets ⟨_,ho,rfl⟩ ⟨_,ho2,rfl⟩ noFill_tuple_add seq_tuple_add PySem.F.slot_tuple_add PySem.F.entry_tuple_add (PySem.F.args_tuple_add_2 _ _) (tuple_addW0 a b _ _ n n2 dd dd2 sl sl2 (by simp)) ⟨ho,ho2,⟨.ref b,H,I,rfl,q⟩⟩
theorem lH:OpR X (binaryOp .Add) (rD X.K Hg):=by
 refine Ko (rR.or (U8.or (jU.or (tB.or cC)))) ?_;rintro x y H Q ⟨ρ,mh,dx,dy,d,mh',q,rs,rx,ry,co⟩;cases rx with
 | int i =>
  cases ry with
  | int j=>cases q;exact .inl ⟨i,j,rfl,rfl,co H ρ _ Ev.refl rs (.int _)⟩
  | _=>cases q
 | str i =>
  cases ry with
  | str j =>
   have q:(if i.length+j.length<=sizeLine then some (D.str (i++j),mh) else none)=some (d,mh'):=q;split at q
   ·rename_i hz;cases q;exact .inr (.inl ⟨i,j,rfl,rfl,hz,co H ρ _ Ev.refl rs (.str _)⟩)
   ·cases q
  | _=>cases q
 | @tup xs a us s1 r1 =>
  cases ry with
  | @tup ys b ws s2 r2 =>
   have q:(if xs.length+ys.length<=sizeLine then some (D.tup (xs++ys),mh) else none)=some (d,mh'):=q;split at q
   ·rename_i hz;cases q
    by_cases hne:xs=[]
    ·subst hne;cases r1;exact .inr (.inr (.inr (.inr ⟨a,b,ws,rfl,rfl,s1,s2,co H ρ _ Ev.refl rs (.tup s2 r2)⟩)))
    ·refine .inr (.inr (.inl ⟨a,b,us,ws,rfl,rfl,s1,s2,fun z=>hne ?_,by rw [← r1.length,← r2.length];exact hz,?_⟩))
     ·rw [z] at r1;cases r1;rfl
     ·refine ⟨fun z=>?_,fun z=>Co.newT rs (r1.append r2) co⟩;subst z;cases r2;exact co H ρ _ Ev.refl rs (.tup s1 (by rw [List.append_nil];exact r1))
   ·cases q
  | _=>cases q
 | @ref n a ha =>
  cases ry with
  | @ref m b hb =>
   have q:(match mh[n]?,mh[m]? with
    | some (.lst xs),some (.lst ys)=>if xs.length+ys.length<=sizeLine then some (D.ref mh.length,mh++[.lst (xs++ys)]) else none
    | _,_=>none)=some (d,mh'):=q
   split at q
   ·rename_i xs ys e1 e2;split at q
    ·rename_i hz;cases q;obtain ⟨a2,h1,us,g1,r1⟩:=rs.at e1;obtain ⟨b2,h2,ws,g2,r2⟩:=rs.at e2;rw [ha] at h1;rw [hb] at h2;cases h1;cases h2;exact .inr (.inr (.inr (.inl ⟨a,b,us,ws,rfl,rfl,g1,g2,by rw [← r1.length,← r2.length];exact hz,Co.newL rs (r1.append r2) co⟩)))
    ·cases q
   ·cases q
  | _=>cases q
 | _=>cases q
end
section
variable {X:Cx}
theorem Om {f:Value}{r r':List V->Hp->VK->Prop}(h:Ax X f r) (i:∀ xs H Q,r' xs H Q->r xs H Q):Ax X f r':=fun pins s σ H xs us Q I rx q=>h pins s σ H xs us Q I rx (i xs H Q q)
theorem lJ {r r':R2}(h:IxR X r) (i:∀ x y H Q,r' x y H Q->r x y H Q):IxR X r':=fun a b pins s σ H x y v u Q I rx ry q hs=>h a b pins s σ H x y v u Q I rx ry (i x y H Q q) hs
theorem lK {r r':V->Option Int->Option Int->Hp->VK->Prop}(h:SlR X r) (i:∀ x lo hi H Q,r' x lo hi H Q->r x lo hi H Q):SlR X r':=fun pins s σ H x v vl vu lo hi sl Q I rx hs pl pu q=>h pins s σ H x v vl vu lo hi sl Q I rx hs pl pu (i x lo hi H Q q)
noncomputable def Ff:D->MH->Option (List D)
 | .tup ds,_=>some ds
 | .ref n,mh=>match mh[n]? with | some (.lst o)=>some o | _=>none
 | .rol ds,_=>some ds
 | _,_=>none
theorem Kq {K:PySem.W.Frag}{H:Hp}{ρ:List Addr}{mh:MH}{d:D}{v:V}{ds:List D}(rs:RS K H ρ mh) (r:RD K H ρ d v) (e:Ff d mh=some ds):∃ p xs,v=.ref p/\(SqL K H p xs\/SqT K H p xs)/\RDs K H ρ ds xs:=by
 cases r with
 | tup s r=>cases e;exact ⟨_,_,rfl,.inr s,r⟩
 | rol s r=>cases e;exact ⟨_,_,rfl,.inl s.sq,r⟩
 | @ref n a h =>
  have e:(match mh[n]? with | some (.lst o)=>some o | _=>none)=some ds:=e;split at e
  ·rename_i o eo;cases e;obtain ⟨a',ha,ro⟩:=rs.at eo;rw [h] at ha;cases ha;obtain ⟨xs,q,r⟩:=ro.read;exact ⟨_,xs,rfl,.inl q,r⟩
  ·cases e
 | _=>cases e
theorem lM {K:PySem.W.Frag}{H:Hp}{ρ:List Addr}{ds:List D}{xs:List V}{i:Int}{d:D}(r:RDs K H ρ ds xs) (e:atI ds i=some d):∃ v,atI xs i=some v/\RD K H ρ d v:=by
 unfold atI at e ⊢;rw [← r.length];cases q:ixN ds.length i with
 | none=>rw [q] at e;cases e
 | some j =>
  rw [q] at e;exact r.get e
noncomputable def Zh (x y:D) (mh:MH):Option (D×MH):=match y with
 | .int i=>(match x with
  | .str z=>if z.length<=sizeLine then (match atI z.cps.toList i with | some c=>some (.str ⟨#[c]⟩,mh) | none=>none) else none
  | _=>match Ff x mh with
   | some ds=>(match atI ds i with | some d=>some (d,mh) | none=>none)
   | none=>none)
 | _=>none
theorem zO:IxR X (rD X.K Zh):=by
 refine lJ (sX (X:=X)) ?_;rintro x y H Q ⟨ρ,mh,dx,dy,d,mh',q,rs,rx,ry,co⟩;have seq:∀ i:Int,y=.int i->(match Ff dx mh with | some ds=>(match atI ds i with | some d=>some (d,mh) | none=>none) | none=>none)=some (d,mh')->rIx X.K x y H Q:=fun i ey q=>by
  split at q
  ·rename_i ds e1;split at q
   ·rename_i d' e2;cases q;obtain ⟨p,xs,rfl,hq,r⟩:=Kq rs rx e1;obtain ⟨v,e3,r3⟩:=lM r e2;rcases hq with hq|hq
    ·exact .inl ⟨p,xs,i,v,rfl,ey,hq,e3,co H ρ v Ev.refl rs r3⟩
    ·exact .inr (.inl ⟨p,xs,i,v,rfl,ey,hq,e3,co H ρ v Ev.refl rs r3⟩)
   ·cases q
  ·cases q
 cases ry with
 | int i =>
  cases rx with
  | str z =>
   have q:(if z.length<=sizeLine then (match atI z.cps.toList i with | some c=>some (D.str ⟨#[c]⟩,mh) | none=>none) else none)=some (d,mh'):=q;split at q
   ·rename_i hz;split at q
    ·rename_i c ec;cases q;exact .inr (.inr ⟨z,i,c,rfl,rfl,hz,ec,co H ρ _ Ev.refl rs (.str _)⟩)
    ·cases q
   ·cases q
  | non=>exact seq i rfl q
  | bl b=>exact seq i rfl q
  | int j=>exact seq i rfl q
  | tup s r=>exact seq i rfl q
  | ref h=>exact seq i rfl q
  | rol s r=>exact seq i rfl q
  | obj n s l r=>exact seq i rfl q
  | fn h=>exact seq i rfl q
  | lam h=>exact seq i rfl q
  | clo=>exact seq i rfl q
 | _=>cases q
noncomputable def cutD {α:Type}(xs:List α) (lo hi:Option Int):List α:=(xs.drop (HT.sIx xs.length 0 lo)).take (HT.sIx xs.length xs.length hi - HT.sIx xs.length 0 lo)
theorem Ql {K:PySem.W.Frag}{H:Hp}{ρ:List Addr}{ds:List D}{xs:List V}{lo hi:Option Int}(r:RDs K H ρ ds xs):RDs K H ρ (cutD ds lo hi) (R9 xs lo hi):=by
 unfold cutD R9;rw [r.length];exact (r.drop _).take _
theorem Hh {prog:Program}{w:World}{A:Around}{E:Value->Shared->Prop}{s:Shared}{t sl:Addr}{items:Array Value}{vl vu:Value}{lo hi:Option Int}{Q:Value->Shared->Prop}(ht:IsTup s.heap t items) (hs:s.heap.IsSliceOf sl vl vu .none) (pl:IsPart vl lo) (pu:IsPart vu hi)
  (h0:HT.sIx items.size 0 lo=0) (h1:HT.sIx items.size items.size hi=items.size) (h:Q (.ref t) s):wpAny (model prog w) A (getItem (.ref t) (.ref sl)) Q E s:=by
 obtain ⟨os,hos,hcs,hds⟩:=id hs
 have hTs:s.TypeIs (.ref sl) "slice":=⟨os,hos,hcs⟩
 unfold getItem
 try with_reducible refine wpAny_holding ?_
 first | refine wpAny_bind (wpAny_pure ?_) | skip
 refine wpAny_bind (wpAny_sequenceKey ht.typeIs (by decide) ?_)
 refine wpAny_bind (wpAny_callSpecial?_slot (name:=Str.ofString "__getitem__") ht.typeIs PyProof.Rows.slot_tuple_getitem
  (wpAny_call_entry PyProof.Rows.slot_tuple_getitem ht.typeIs entry_tuple_getitem ?_ (args_tuple_getitem _ _)))
 show wpAny _ _ (Builtin.Tuple.tupleItemsOf (.ref t) >>= _) _ _ s;refine wpAny_bind (tupleItemsOf_ ht ?_);refine wpAny_bind (wpAny_typeOf hTs ?_);rw [if_pos (by decide)];refine wpAny_bind (HT.sliceApplied_gen hs pl pu ?_);rw [h0,h1];have hyes:((((0:Nat):Int)==0&&(1:Int)==1&&(items.size - 0)==items.size)=true):=by simp
 show wpAny _ _ (if (((0:Nat):Int)==0&&(1:Int)==1&&(items.size - 0)==items.size)=true then _ else _) _ _ s;rw [if_pos hyes];unfold Builtin.Tuple.tupleIsExact;refine wpAny_bind (wpAny_bind (wpAny_typeOf ht.typeIs (wpAny_pure ?_)));rw [if_pos (by decide)];exact wpAny_bind (wpAny_rule (wpAny_pure ⟨_,rfl,wpAny_pure h⟩))
theorem Zi:SlR X (fun x lo hi H Q=>∃ a xs,x=.ref a/\SqT X.K H a xs/\HT.sIx xs.length 0 lo=0/\HT.sIx xs.length xs.length hi=xs.length/\Q (.ref a) H):=by
 intro pins s σ H x v vl vu lo hi sl Q I rx hs pl pu h;obtain ⟨a,xs,rfl,hx,h0,h1,q⟩:=h;cases rx;obtain ⟨its,r,ht,hz⟩:=I.tuple hx;have hlen:its.toArray.size=xs.length:=by rw [List.size_toArray];exact r.length.symm
 refine ⟨"tuple",_,PyProof.Rows.slot_tuple_getitem.lookup,ht.typeIs,?_⟩;exact Hh ht hs pl pu (by rw [hlen];exact h0) (by rw [hlen];exact h1) ⟨.ref a,H,I,rfl,q⟩
noncomputable def slD (x:D) (lo hi:Option Int) (mh:MH):Option (D×MH):=match x with
 | .tup ds=>if HT.sIx ds.length 0 lo=0/\HT.sIx ds.length ds.length hi=ds.length then some (.tup ds,mh) else some (.tup (cutD ds lo hi),mh)
 | .ref n=>match mh[n]? with
  | some (.lst o)=>some (.ref mh.length,mh++[.lst (cutD o lo hi)])
  | _=>none
 | .rol ds=>some (.ref mh.length,mh++[.lst (cutD ds lo hi)])
 | _=>none
noncomputable def Abw (K:PySem.W.Frag):V->Option Int->Option Int->Hp->VK->Prop:=fun x lo hi H Q=>∃ ρ mh dx d mh',slD dx lo hi mh=some (d,mh')/\RS K H ρ mh/\RD K H ρ dx x/\Co K H ρ mh' d Q
theorem Abx:SlR X (Abw X.K):=by
 refine lK (Zi.or (sU.or jW)) ?_;rintro x lo hi H Q ⟨ρ,mh,dx,d,mh',q,rs,rx,co⟩;cases rx with
 | @tup ds a xs s r =>
  have q:(if HT.sIx ds.length 0 lo=0/\HT.sIx ds.length ds.length hi=ds.length then some (D.tup ds,mh) else some (D.tup (cutD ds lo hi),mh))=some (d,mh'):=q;have hl:=r.length;split at q
  ·rename_i hw;cases q;exact .inl ⟨a,xs,rfl,s,by rw [← hl];exact hw.1,by rw [← hl];exact hw.2,co H ρ _ Ev.refl rs (.tup s r)⟩
  ·rename_i hw;cases q;exact .inr (.inl ⟨a,xs,rfl,s,by rw [← hl];exact hw,Co.newT rs (Ql r) co⟩)
 | @ref n a h =>
  have q:(match mh[n]? with | some (.lst o)=>some (D.ref mh.length,mh++[.lst (cutD o lo hi)]) | _=>none)=some (d,mh'):=q;split at q
  ·rename_i o eo;cases q;obtain ⟨a',ha,ro⟩:=rs.at eo;rw [h] at ha;cases ha;obtain ⟨xs,sq,r⟩:=ro.read;exact .inr (.inr ⟨a,xs,rfl,sq,Co.newL rs (Ql r) co⟩)
  ·cases q
 | @rol ds a xs s r =>
  cases q;exact .inr (.inr ⟨a,xs,rfl,s.sq,Co.newL rs (Ql r) co⟩)
 | _=>cases q
noncomputable def J2 (m:Option (DM D)):DM (Option Int):=match m with
 | none=>Zr none
 | some m=>m.bnd fun x=>match x with | .int i=>Zr (some i) | _=>Zb
noncomputable def cD (X:Cx) (e:Option Expr) (m:Option (DM D)):Prop:=match e,m with
 | none,none=>True
 | some e,some m=>DE X e m
 | _,_=>False
noncomputable def tDO (K:PySem.W.Frag) (loc:Loc) (mh:MH) (r:Option (Option Int×MH)):TO:=fun σ H Q=>∃ ρ o mh',r=some (o,mh')/\RL K H ρ loc σ/\RS K H ρ mh/\∀ H' ρ',Ev K H ρ H' ρ'->RS K H' ρ' mh'->Q o H'
theorem zP {e:Option Expr}{m:Option (DM D)}(h:cD X e m) (loc:Loc) (mh:MH):PO X e (tDO X.K loc mh (J2 m loc mh)):=by
 rintro pins s σ H Q I ⟨ρ,o,mh',q,rl,rs,co⟩;cases e with
 | none =>
  cases m with
  | none =>
   cases q;exact jR pins s σ H Q I (co H ρ Ev.refl rs)
  | some m=>exact h.elim
 | some e =>
  cases m with
  | none=>exact h.elim
  | some m =>
   obtain ⟨x,m1,ea,q⟩:=Ah q;cases x with
   | int i =>
    cases q;refine jT (h loc mh) pins s σ H Q I ⟨ρ,.int i,mh',ea,rl,rs,fun H' ρ' v e' rs' r'=>?_⟩;cases r';exact ⟨i,rfl,co H' ρ' e' rs'⟩
   | non=>cases q
   | bl b=>cases q
   | str z=>cases q
   | tup ds=>cases q
   | ref n=>cases q
   | rol ds=>cases q
   | obj c ks ds=>cases q
   | fn x=>cases q
   | lam=>cases q
   | clo=>cases q
noncomputable def dSl (ma:DM D) (ml mu:Option (DM D)):DM D:=ma.bnd fun x=>(J2 ml).bnd fun l=>(J2 mu).bnd fun u=>Zl (slD x l u)
theorem cF {a:Expr}{ma:DM D}{lo hi:Option Expr}{ml mu:Option (DM D)}{p2 pos:Pos}(ha:DE X a ma) (hl:cD X lo ml) (hu:cD X hi mu):DE X (.Subscript a (.Slice lo hi none p2) pos) (dSl ma ml mu):=fun loc mh=>by
 cases ea:ma loc mh with
 | none =>
  have:dSl ma ml mu loc mh=none:=by unfold dSl DM.bnd;rw [ea]
  rw [this];exact Az
 | some p =>
  obtain ⟨x,m1⟩:=p;cases el:J2 ml loc m1 with
  | none =>
   have:dSl ma ml mu loc mh=none:=by unfold dSl;unfold DM.bnd;rw [ea];dsimp only;rw [el]
   rw [this];exact Az
  | some p2 =>
   obtain ⟨l,m2⟩:=p2;refine Ar (bK Abx (ha loc mh) (zP hl loc m1) (zP hu loc m2)) ?_;rintro σ H Q ⟨ρ,d,mh',q,rl,rs,co⟩;obtain ⟨x',m1',ea',q⟩:=Ah q;rw [ea] at ea';cases ea';obtain ⟨l',m2',el',q⟩:=Ah q;rw [el] at el';cases el';obtain ⟨u,m3,eu,q⟩:=Ah q
   exact ⟨ρ,x,m1,ea,rl,rs,fun H1 ρ1 v e1 rs1 r1=>⟨ρ1,l,m2,el,rl.mono e1,rs1,fun H2 ρ2 e2 rs2=>⟨ρ2,u,m3,eu,(rl.mono e1).mono e2,rs2,fun H3 ρ3 e3 rs3 =>
    ⟨ρ3,m3,x,d,mh',q,rs3,(r1.mono e2).mono e3,co.ev (e1.trans (e2.trans e3))⟩⟩⟩⟩
end
end DL
namespace HT
open PySem PySem.Spec PyProof.Rows
section
variable {prog:Program}{w:World}{A:Around}{E:Value->Shared->Prop}{s:Shared}
end
end HT
namespace DL
open PySem PySem.Spec PyProof.Rows L2
section
variable {X:Cx}
noncomputable def Oo:List D->MH->Option (D×MH)
 | [.str z],mh=>if z.length<=sizeLine then some (.int z.length,mh) else none
 | [x],mh=>match Ff x mh with | some ds=>some (.int ds.length,mh) | none=>none
 | _,_=>none
theorem Li {K:PySem.W.Frag}{H:Hp}{ρ:List Addr}{d:D}{xs:List V}(h:RDs K H ρ [d] xs):∃ v,xs=[v]/\RD K H ρ d v:=by
 cases h with
 | cons r t=>cases t;exact ⟨_,rfl,r⟩
theorem Lj:Ax X (.builtin "len") (rDs X.K Oo):=by
 refine Om (Qc.or Qd) ?_;rintro xs H Q ⟨ρ,mh,ds,d,mh',q,rs,r,co⟩
 match ds,q with
 | [x],q =>
  obtain ⟨v,rfl,rx⟩:=Li r;have seq:(match Ff x mh with | some ds=>some (D.int ds.length,mh) | none=>none)=some (d,mh')->∃ p ys,[v]=[.ref p]/\(SqL X.K H p ys\/SqT X.K H p ys)/\Q (.int ys.length) H:=fun q=>by
   split at q
   ·rename_i ds e1;cases q;obtain ⟨p,ys,rfl,hq,r⟩:=Kq rs rx e1;exact ⟨p,ys,rfl,hq,by rw [← r.length];exact co H ρ _ Ev.refl rs (.int _)⟩
   ·cases q
  cases rx with
  | str z =>
   have q:(if z.length<=sizeLine then some (D.int z.length,mh) else none)=some (d,mh'):=q;split at q
   ·rename_i hz;cases q;exact .inr ⟨z,rfl,hz,co H ρ _ Ev.refl rs (.int _)⟩
   ·cases q
  | non=>exact .inl (seq q)
  | bl b=>exact .inl (seq q)
  | int i=>exact .inl (seq q)
  | tup s r=>exact .inl (seq q)
  | ref h=>exact .inl (seq q)
  | rol s r=>exact .inl (seq q)
  | obj n s l r=>exact .inl (seq q)
  | fn h=>exact .inl (seq q)
  | lam h=>exact .inl (seq q)
  | clo=>exact .inl (seq q)
 | [],q=>cases q
 | _::_::_,q=>simp [Oo] at q
noncomputable def Oq:List D->MH->Option (D×MH)
 | [x],mh=>match Ff x mh with | some ds=>some (.ref mh.length,mh++[.lst ds]) | none=>none
 | _,_=>none
theorem Vn:Ax X (.type "list") (rDs X.K Oq):=by
 refine Om Qe ?_;rintro xs H Q ⟨ρ,mh,ds,d,mh',q,rs,r,co⟩
 match ds,q with
 | [x],q =>
  obtain ⟨v,rfl,rx⟩:=Li r;have q:(match Ff x mh with | some ds=>some (D.ref mh.length,mh++[.lst ds]) | none=>none)=some (d,mh'):=q;split at q
  ·rename_i ds e1;cases q;obtain ⟨p,ys,rfl,hq,r⟩:=Kq rs rx e1;exact ⟨p,ys,rfl,hq,Co.newL rs r co⟩
  ·cases q
 | [],q=>cases q
 | _::_::_,q=>cases q
noncomputable def cG:D->MH->Option String
 | .non,_=>some "NoneType"
 | .bl _,_=>some "bool"
 | .int _,_=>some "int"
 | .str _,_=>some "str"
 | .tup _,_=>some "tuple"
 | .ref n,mh=>match mh[n]? with | some (.lst _)=>some "list" | _=>none
 | .rol _,_=>some "list"
 | .obj ..,_=>none
 | .fn _,_=>none
 | .lam,_=>none
 | .clo _ _,_=>none
noncomputable def uF (t c:String):Option Bool :=
 if t==c then some true else
 if ["NoneType", "bool", "int", "str", "tuple", "list"].contains t&&["bool", "int", "str", "tuple", "list", "dict"].contains c then some (t == "bool"&&c == "int") else none
theorem Ge {K:PySem.W.Frag}{t c:String}{b:Bool}(ht:t∈["NoneType", "bool", "int", "str", "tuple", "list"]) (hc:c∈["bool", "int", "str", "tuple", "list", "dict"]) (h:uF t c=some b):PySem.W.kitOne K (.type t) (.type c)=some b:=by
 simp only [List.mem_cons,List.mem_nil_iff,or_false] at ht hc;rcases ht with rfl | rfl | rfl | rfl | rfl | rfl <;> rcases hc with rfl | rfl | rfl | rfl | rfl | rfl <;> (first | (have e:b=true:=by (have h':=h;revert h';decide +revert));subst e;kernel_rfl | (have e:b=false:=by (have h':=h;revert h';decide +revert));subst e;kernel_rfl)
end
inductive Src where
 | seq (ds:List D) | lref (n:Nat) | enum (s:Src) | zip (s t:Src)
noncomputable def pM:Nat->List D->List D
 | _,[]=>[]
 | i,d::r=>.tup [.int i,d]::pM (i+1) r
noncomputable def Src.items:Src->MH->List D
 | .seq ds,_=>ds
 | .lref n,mh=>match mh[n]? with | some (.lst o)=>o | _=>[]
 | .enum s,mh=>pM 0 (s.items mh)
 | .zip s t,mh=>List.zipWith (fun a b=>.tup [a,b]) (s.items mh) (t.items mh)
noncomputable def Src.ok:Src->MH->Bool
 | .seq _,_=>true
 | .lref n,mh=>match mh[n]? with | some (.lst _)=>true | _=>false
 | .enum s,mh=>s.ok mh
 | .zip s t,mh=>s.ok mh&&t.ok mh
noncomputable def Src.get (s:Src) (mh:MH) (i:Nat):Option D:=(s.items mh)[i]?
noncomputable def Src.stop (s:Src) (mh:MH) (i:Nat):Bool:=s.ok mh&&decide ((s.items mh).length<=i)
structure JR (K:PySem.W.Frag) (H0:Hp) (ρ0:List Addr) (src:Src) (J:It):Prop where
 go:∀ H ρ mh i d,Ev K H0 ρ0 H ρ->RS K H ρ mh->src.get mh i=some d->J.go i H/\∀ x H',J.yld i H x H'->Ev K H ρ H' ρ/\RS K H' ρ mh/\RD K H' ρ d x
 stop:∀ H ρ mh i,Ev K H0 ρ0 H ρ->RS K H ρ mh->src.stop mh i=true->J.stop i H
noncomputable def tDI (K:PySem.W.Frag) (loc:Loc) (mh:MH) (r:Option (Src×MH)):TI:=fun σ H R=>∃ ρ src mh',r=some (src,mh')/\RL K H ρ loc σ/\RS K H ρ mh/\∀ H' ρ' J,Ev K H ρ H' ρ'->RS K H' ρ' mh'->JR K H' ρ' src J->R J H'
noncomputable def DI (X:Cx) (tg iter:Expr) (m:DM Src):Prop:=∀ loc mh,PI X tg iter (tDI X.K loc mh (m loc mh))
theorem uG {X:Cx}{tg e:Expr}{t t':TI}(h:PI X tg e t) (i:∀ σ H R,t' σ H R->t σ H R):PI X tg e t':=fun pins s σ H R I q=>h pins s σ H R I (i σ H R q)
theorem Du {X:Cx}{tg e:Expr}{loc:Loc}{mh:MH}:PI X tg e (tDI X.K loc mh none):=fun _ _ _ _ _ _ h=>by obtain ⟨_,_,_,e,_⟩:=h;cases e
section
variable {X:Cx}{tg:Expr}
theorem JR.tup {K:PySem.W.Frag}{H0:Hp}{ρ0:List Addr}{ds:List D}{a:Addr}{xs:List V}(s:SqT K H0 a xs) (r:RDs K H0 ρ0 ds xs):JR K H0 ρ0 (.seq ds) (Itt K a) where
 go:=fun H ρ mh i d e rs q=>by
  obtain ⟨v,e1,r1⟩:=(r.mono e).get q;refine ⟨⟨xs,v,e.tup _ _ s,e1⟩,?_⟩;rintro x H' ⟨h1,h2⟩;subst h1;have:=h2 xs (e.tup _ _ s);rw [e1] at this;cases this;exact ⟨Ev.refl,rs,r1⟩
 stop:=fun H ρ mh i e rs q=>by
  refine ⟨xs,e.tup _ _ s,?_⟩;rw [← r.length];have q:(true&&decide (ds.length<=i))=true:=q;rw [Bool.true_and] at q;exact of_decide_eq_true q
theorem JR.lst {K:PySem.W.Frag}{H0:Hp}{ρ0:List Addr}{n:Nat}{a:Addr}(h:ρ0[n]?=some a):JR K H0 ρ0 (.lref n) (Itl K a) where
 go:=fun H ρ mh i d e rs q=>by
  unfold Src.get Src.items at q;cases eo:mh[n]? with
  | none=>simp only [eo] at q;simp at q
  | some ob =>
   cases ob with
   | dct kvs=>simp only [eo] at q;simp at q
   | dtk kvs=>simp only [eo] at q;simp at q
   | plc=>simp only [eo] at q;simp at q
   | plq=>simp only [eo] at q;simp at q
   | fzd=>simp only [eo] at q;simp at q
   | lst o =>
   simp only [eo] at q;obtain ⟨a',ha,ro⟩:=rs.at eo;rw [e.at h] at ha;cases ha;obtain ⟨xs,sq,r⟩:=ro.read;obtain ⟨v,e1,r1⟩:=r.get q;refine ⟨⟨xs,v,sq,e1⟩,?_⟩;rintro x H' ⟨h1,h2⟩;subst h1;have:=h2 xs sq;rw [e1] at this;cases this;exact ⟨Ev.refl,rs,r1⟩
 stop:=fun H ρ mh i e rs q=>by
  unfold Src.stop Src.ok Src.items at q;cases eo:mh[n]? with
  | none=>simp only [eo] at q;simp at q
  | some ob =>
   cases ob with
   | dct kvs=>simp only [eo] at q;simp at q
   | dtk kvs=>simp only [eo] at q;simp at q
   | plc=>simp only [eo] at q;simp at q
   | plq=>simp only [eo] at q;simp at q
   | fzd=>simp only [eo] at q;simp at q
   | lst o =>
   simp only [eo] at q;obtain ⟨a',ha,ro⟩:=rs.at eo;rw [e.at h] at ha;cases ha;obtain ⟨xs,sq,r⟩:=ro.read;exact ⟨xs,sq,by rw [← r.length];simpa using q⟩
theorem JR.rol {K:PySem.W.Frag}{H0:Hp}{ρ0:List Addr}{ds:List D}{a:Addr}{xs:List V}(s:Gr K H0 a xs) (r:RDs K H0 ρ0 ds xs):JR K H0 ρ0 (.seq ds) (Itl K a) where
 go:=fun H ρ mh i d e rs q=>by
  obtain ⟨v,e1,r1⟩:=(r.mono e).get q;have sq:=(e.perm _ _ s).sq;refine ⟨⟨xs,v,sq,e1⟩,?_⟩;rintro x H' ⟨h1,h2⟩;subst h1;have:=h2 xs sq;rw [e1] at this;cases this;exact ⟨Ev.refl,rs,r1⟩
 stop:=fun H ρ mh i e rs q=>by
  refine ⟨xs,(e.perm _ _ s).sq,?_⟩;rw [← r.length];have q:(true&&decide (ds.length<=i))=true:=q;rw [Bool.true_and] at q;exact of_decide_eq_true q
noncomputable def Br (lo:Int) (n:Nat):List D:=(List.range n).map fun (k:Nat)=>D.int (lo+(k:Int))
theorem JR.rng {K:PySem.W.Frag}{H0:Hp}{ρ0:List Addr}{lo:Int}{n:Nat}:JR K H0 ρ0 (.seq (Br lo n)) (Itr lo n) where
 go:=fun H ρ mh i d e rs q=>by
  have q:(Br lo n)[i]?=some d:=q;unfold Br at q;rw [List.getElem?_map] at q
  by_cases hi:i < n
  ·rw [List.getElem?_range hi] at q;cases q;refine ⟨hi,?_⟩;rintro x H' ⟨h1,h2⟩;subst h1;subst h2;exact ⟨Ev.refl,rs,.int _⟩
  ·rw [List.getElem?_eq_none (by simp;omega)] at q;cases q
 stop:=fun H ρ mh i e rs q=>by
  show n<=i;have q:(true&&decide ((Br lo n).length<=i))=true:=q;rw [Bool.true_and] at q;have:=of_decide_eq_true q;unfold Br at this
  simpa using this
noncomputable def srcOf:D->MH->Option Src
 | .tup ds,_=>some (.seq ds)
 | .ref n,mh=>match mh[n]? with | some (.lst _)=>some (.lref n) | _=>none
 | .rol ds,_=>some (.seq ds)
 | _,_=>none
noncomputable def Fo (ma:DM D):DM Src:=ma.bnd fun x=>fun _ mh=>match srcOf x mh with | some s=>some (s,mh) | none=>none
theorem Di {a:Expr}{ma:DM D}(ha:DE X a ma):DI X tg a (Fo ma):=fun loc mh=>by
 cases ea:ma loc mh with
 | none =>
  have:Fo ma loc mh=none:=by unfold Fo DM.bnd;rw [ea]
  rw [this];exact Du
 | some p =>
  obtain ⟨x,m1⟩:=p;have eq:Fo ma loc mh=(match srcOf x m1 with | some s=>some (s,m1) | none=>none):=by unfold Fo DM.bnd;rw [ea]
  rw [eq];cases x with
  | tup ds =>
   rintro pins s σ H R I ⟨ρ,src,mh',q,rl,rs,co⟩;cases q;refine rN (ha loc mh) pins s σ H R I ⟨ρ,_,_,ea,rl,rs,fun H1 ρ1 v e1 rs1 r1=>?_⟩;cases r1 with
   | tup s r=>exact ⟨_,rfl,⟨_,s⟩,co H1 ρ1 _ e1 rs1 (JR.tup s r)⟩
  | ref n =>
   rintro pins s σ H R I ⟨ρ,src,mh',q,rl,rs,co⟩;cases eo:m1[n]? with
   | none=>simp only [srcOf,eo] at q;cases q
   | some ob =>
    cases ob with
    | dct kvs=>simp only [srcOf,eo] at q;cases q
    | dtk kvs=>simp only [srcOf,eo] at q;cases q
    | plc=>simp only [srcOf,eo] at q;cases q
    | plq=>simp only [srcOf,eo] at q;cases q
    | fzd=>simp only [srcOf,eo] at q;cases q
    | lst o =>
    simp only [srcOf,eo] at q;cases q;refine Xa (ha loc mh) pins s σ H R I ⟨ρ,_,_,ea,rl,rs,fun H1 ρ1 v e1 rs1 r1=>?_⟩;cases r1 with
    | @ref _ a' h =>
     obtain ⟨a2,ha2,ro⟩:=rs1.at eo;rw [h] at ha2;cases ha2;obtain ⟨xs,sq,r⟩:=ro.read;exact ⟨_,rfl,⟨xs,sq⟩,co H1 ρ1 _ e1 rs1 (JR.lst h)⟩
  | rol ds =>
   rintro pins s σ H R I ⟨ρ,src,mh',q,rl,rs,co⟩;cases q;refine Xa (ha loc mh) pins s σ H R I ⟨ρ,_,_,ea,rl,rs,fun H1 ρ1 v e1 rs1 r1=>?_⟩;cases r1 with
   | rol s r=>exact ⟨_,rfl,⟨_,s.sq⟩,co H1 ρ1 _ e1 rs1 (JR.rol s r)⟩
  | non=>exact Du
  | bl b=>exact Du
  | int i=>exact Du
  | str z=>exact Du
  | obj c ks ds=>exact Du
  | fn x=>exact Du
  | lam=>exact Du
  | clo=>exact Du
noncomputable def Hi (ds:List D):Option Src:=match ds with
 | [.int j]=>if -(2 ^ 62)<=j/\j < 2 ^ 62 then some (.seq (Br 0 j.toNat)) else none
 | _=>none
theorem Zj {ds:List D}{s:Src}(h:Hi ds=some s):∃ j,ds=[.int j]/\-(2 ^ 62)<=j/\j < 2 ^ 62/\s=.seq (Br 0 j.toNat):=by
 unfold Hi at h;split at h
 ·rename_i j;split at h
  ·rename_i hj;cases h;exact ⟨j,rfl,hj.1,hj.2,rfl⟩
  ·cases h
 ·cases h
noncomputable def Gn (f:List D->Option Src) (mr:DM (List D)):DM Src:=mr.bnd fun ds=>match f ds with | some s=>Zr s | none=>Zb
theorem Ot {f:List D->Option Src}{mr:DM (List D)}{loc:Loc}{mh:MH}{r:Src×MH}(h:Gn f mr loc mh=some r):∃ ds,mr loc mh=some (ds,r.2)/\f ds=some r.1:=by
 obtain ⟨ds,m1,ea,q⟩:=Ah h;cases e:f ds with
 | none=>rw [e] at q;cases q
 | some s=>rw [e] at q;cases q;exact ⟨ds,ea,e⟩
theorem uH {K:PySem.W.Frag}{H:Hp}{ρ:List Addr}{d e:D}{xs:List V}(h:RDs K H ρ [d,e] xs):∃ v u,xs=[v,u]/\RD K H ρ d v/\RD K H ρ e u:=by
 cases h with
 | cons r t =>
  cases t with
  | cons r2 t=>cases t;exact ⟨_,_,rfl,r,r2⟩
theorem Zk {a:Expr}{mr:DM (List D)}{p pos:Pos}(hg:Gl X "range") (hm:X.mg "range"=none) (ha:DA X [a] mr) (hs:starEach [a] X.env=[(false,eval a X.env)]):DI X tg (.Call (.Name "range" p) [a] [] pos) (Gn Hi mr):=fun loc mh=>by
 refine uG (Y5 hg hm (ha loc mh) hs) ?_;rintro σ H R ⟨ρ,src,mh',q,rl,rs,co⟩;obtain ⟨ds,ea,q⟩:=Ot q;refine ⟨ρ,ds,mh',ea,rl,rs,fun H1 ρ1 vs e1 rs1 r1=>?_⟩;obtain ⟨j,rfl,h1,h2,e⟩:=Zj q;obtain ⟨v,rfl,rv⟩:=Li r1;cases rv;have e:src=.seq (Br 0 j.toNat):=e;subst e;exact ⟨j,rfl,h1,h2,co H1 ρ1 _ e1 rs1 JR.rng⟩
end
inductive Fl where
 | nx | bk | ct | rt (d:D)
noncomputable abbrev SM:=Loc->MH->Option (Fl×Loc×MH)
noncomputable def CoS (K:PySem.W.Frag) (H:Hp) (ρ:List Addr) (f:Fl) (loc':Loc) (mh':MH) (N:Ends):Prop:=match f with
 | .nx=>∀ H' ρ' σ',Ev K H ρ H' ρ'->RS K H' ρ' mh'->RL K H' ρ' loc' σ'->N.nx σ' H'
 | .bk=>∀ H' ρ' σ',Ev K H ρ H' ρ'->RS K H' ρ' mh'->RL K H' ρ' loc' σ'->N.bk σ' H'
 | .ct=>∀ H' ρ' σ',Ev K H ρ H' ρ'->RS K H' ρ' mh'->RL K H' ρ' loc' σ'->N.ct σ' H'
 | .rt d=>∀ H' ρ' v,Ev K H ρ H' ρ'->RS K H' ρ' mh'->RD K H' ρ' d v->N.rt v H'
theorem CoS.ev {K:PySem.W.Frag}{H H1:Hp}{ρ ρ1:List Addr}{f:Fl}{loc':Loc}{mh':MH}{N:Ends}(e:Ev K H ρ H1 ρ1) (c:CoS K H ρ f loc' mh' N):CoS K H1 ρ1 f loc' mh' N:=by
 cases f with
 | nx=>exact fun H' ρ' σ' e' rs r=>c H' ρ' σ' (e.trans e') rs r
 | bk=>exact fun H' ρ' σ' e' rs r=>c H' ρ' σ' (e.trans e') rs r
 | ct=>exact fun H' ρ' σ' e' rs r=>c H' ρ' σ' (e.trans e') rs r
 | rt d=>exact fun H' ρ' σ' e' rs r=>c H' ρ' σ' (e.trans e') rs r
noncomputable def tS (K:PySem.W.Frag) (m:SM):TS:=fun N σ H=>∃ loc mh ρ f loc' mh',m loc mh=some (f,loc',mh')/\RL K H ρ loc σ/\RS K H ρ mh/\CoS K H ρ f loc' mh' N
noncomputable def DS (X:Cx) (st:Stmt) (m:SM):Prop:=PS X st (tS X.K m)
noncomputable def DSs (X:Cx) (sts:List Stmt) (m:SM):Prop:=PSs X sts (tS X.K m)
theorem Eo {X:Cx}{st:Stmt}{t t':TS}(h:PS X st t) (i:∀ N σ H,t' N σ H->t N σ H):PS X st t':=fun pins s σ H N I q=>h pins s σ H N I (i N σ H q)
theorem Xl {X:Cx}{st:List Stmt}{t t':TS}(h:PSs X st t) (i:∀ N σ H,t' N σ H->t N σ H):PSs X st t':=fun pins s σ H N I q=>h pins s σ H N I (i N σ H q)
noncomputable def SM.bad:SM:=fun _ _=>none
theorem Cy {X:Cx}{st:Stmt}:DS X st SM.bad:=fun _ _ _ _ _ _ h=>by obtain ⟨_,_,_,_,_,_,e,_⟩:=h;cases e
noncomputable def tDx (K:PySem.W.Frag) (m:DM D):TE:=fun σ H Q=>∃ loc mh,tD K loc mh (m loc mh) σ H Q
noncomputable def tTx (K:PySem.W.Frag) (m:DM Bool):TT:=fun σ H Q=>∃ loc mh,tDT K loc mh (m loc mh) σ H Q
noncomputable def tIx (K:PySem.W.Frag) (m:DM Src):TI:=fun σ H R=>∃ loc mh,tDI K loc mh (m loc mh) σ H R
theorem DE.x {X:Cx}{e:Expr}{m:DM D}(h:DE X e m):PE X e (tDx X.K m):=fun pins s σ H Q I ⟨loc,mh,q⟩=>h loc mh pins s σ H Q I q
theorem DT.x {X:Cx}{e:Expr}{m:DM Bool}(h:DT X e m):PT X e (tTx X.K m):=fun pins s σ H Q I ⟨loc,mh,q⟩=>h loc mh pins s σ H Q I q
theorem DI.x {X:Cx}{tg e:Expr}{m:DM Src}(h:DI X tg e m):PI X tg e (tIx X.K m):=fun pins s σ H Q I ⟨loc,mh,q⟩=>h loc mh pins s σ H Q I q
section
variable {X:Cx}{st:Stmt}{sts:List Stmt}{m m1 m2:SM}{e:Expr}{me:DM D}{pos:Pos}
noncomputable def Zn:SM:=fun loc mh=>some (.nx,loc,mh)
noncomputable def Ae (m1 m2:SM):SM:=fun loc mh=>match m1 loc mh with
 | some (.nx,l,h)=>m2 l h
 | r=>r
theorem lN:DSs X [] Zn:=by
 refine Xl W7 ?_;rintro N σ H ⟨loc,mh,ρ,f,loc',mh',q,rl,rs,co⟩;cases q;exact co H ρ σ Ev.refl rs rl
theorem cH (h1:DS X st m1) (h2:DSs X sts m2):DSs X (st::sts) (Ae m1 m2):=by
 refine Xl (Ig h1 h2) ?_;rintro N σ H ⟨loc,mh,ρ,f,loc',mh',q,rl,rs,co⟩;unfold Ae at q;split at q
 ·rename_i l h e1;exact ⟨loc,mh,ρ,.nx,l,h,e1,rl,rs,fun H1 ρ1 σ1 ev1 rs1 rl1=>⟨l,h,ρ1,f,loc',mh',q,rl1,rs1,co.ev ev1⟩⟩
 ·rename_i r hne;refine ⟨loc,mh,ρ,f,loc',mh',q,rl,rs,?_⟩;cases f with
  | nx=>exact absurd q (hne _ _)
  | bk=>exact co
  | ct=>exact co
  | rt d=>exact co
theorem lO:DS X (.Pass pos) Zn:=by
 refine Eo jC ?_;rintro N σ H ⟨loc,mh,ρ,f,loc',mh',q,rl,rs,co⟩;cases q;exact co H ρ σ Ev.refl rs rl
theorem cI:DS X (.Break pos) (fun loc mh=>some (.bk,loc,mh)):=by
 refine Eo aR ?_;rintro N σ H ⟨loc,mh,ρ,f,loc',mh',q,rl,rs,co⟩;cases q;exact co H ρ σ Ev.refl rs rl
theorem S7:DS X (.Continue pos) (fun loc mh=>some (.ct,loc,mh)):=by
 refine Eo R6 ?_;rintro N σ H ⟨loc,mh,ρ,f,loc',mh',q,rl,rs,co⟩;cases q;exact co H ρ σ Ev.refl rs rl
noncomputable def retS (me:DM D):SM:=fun loc mh=>match me loc mh with | some (d,mh')=>some (.rt d,loc,mh') | none=>none
theorem uI (he:DE X e me):DS X (.Return (some e) pos) (retS me):=by
 refine Eo (rC he.x) ?_;rintro N σ H ⟨loc,mh,ρ,f,loc',mh',q,rl,rs,co⟩;unfold retS at q;split at q
 ·rename_i d h1 ee;cases q;exact ⟨loc,mh,ρ,d,_,ee,rl,rs,co⟩
 ·cases q
theorem lQ:DS X (.Return none pos) (fun loc mh=>some (.rt .non,loc,mh)):=by
 refine Eo jE ?_;rintro N σ H ⟨loc,mh,ρ,f,loc',mh',q,rl,rs,co⟩;cases q;exact co H ρ _ Ev.refl rs .non
noncomputable def Ca (me:DM D):SM:=fun loc mh=>match me loc mh with | some (_,mh')=>some (.nx,loc,mh') | none=>none
theorem lR (he:DE X e me) (hs:swapsWith e none pos.line X.env=pure false):DS X (.Expr e pos) (Ca me):=by
 refine Eo (jD he.x hs) ?_;rintro N σ H ⟨loc,mh,ρ,f,loc',mh',q,rl,rs,co⟩;unfold Ca at q;split at q
 ·rename_i d h1 ee;cases q;exact ⟨loc,mh,ρ,d,_,ee,rl,rs,fun H' ρ' v e' rs' r'=>co H' ρ' σ e' rs' (rl.mono e')⟩
 ·cases q
noncomputable def ifS (t:DM Bool) (m1 m2:SM):SM:=fun loc mh=>match t loc mh with
 | some (k,h)=>if k=true then m1 loc h else m2 loc h
 | none=>none
theorem zQ {c:Expr}{a b:List Stmt}{t:DM Bool}(hc:DT X c t) (ha:DSs X a m1) (hb:DSs X b m2):DS X (.If c a b pos) (ifS t m1 m2):=by
 refine Eo (xZ hc.x ha hb) ?_;rintro N σ H ⟨loc,mh,ρ,f,loc',mh',q,rl,rs,co⟩;unfold ifS at q;split at q
 ·rename_i k h ek;refine ⟨loc,mh,ρ,k,h,ek,rl,rs,fun H1 ρ1 e1 rs1=>?_⟩;cases k with
  | true=>exact Qg ⟨loc,h,ρ1,f,loc',mh',by rw [if_pos rfl] at q;exact q,rl.mono e1,rs1,co.ev e1⟩
  | false=>exact Qf ⟨loc,h,ρ1,f,loc',mh',by rw [if_neg Bool.false_ne_true] at q;exact q,rl.mono e1,rs1,co.ev e1⟩
 ·cases q
noncomputable abbrev GM:=D->Loc->MH->Option (Loc×MH)
noncomputable def Gy (ws:List Nat) (σ σ':St):Prop:=σ'.length=σ.length/\∀ i,i ∉ ws->σ'[i]?=σ[i]?
noncomputable def tG (K:PySem.W.Frag) (ws:List Nat) (g:GM):TG:=fun v σ H Q=>∃ d loc mh ρ loc' mh',g d loc mh=some (loc',mh')/\RL K H ρ loc σ/\RS K H ρ mh/\RD K H ρ d v /\
 ∀ H' ρ' σ',Ev K H ρ H' ρ'->RS K H' ρ' mh'->RL K H' ρ' loc' σ'->Gy ws σ σ'->Q σ' H'
noncomputable def DG (X:Cx) (tg:Expr) (ws:List Nat) (g:GM):Prop:=PG X tg (tG X.K ws g)
theorem Vo {tg:Expr}{t t':TG}(h:PG X tg t) (i:∀ v σ H Q,t' v σ H Q->t v σ H Q):PG X tg t':=fun pins s σ H v u Q I r q=>h pins s σ H v u Q I r (i v σ H Q q)
noncomputable def Bj (i:Nat):GM:=fun d loc mh=>some (loc.set i (some d),mh)
theorem Gy.set {σ:St}{i:Nat}{o:Option V}:Gy [i] σ (σ.set i o):=⟨List.length_set,fun j hj=>List.getElem?_set_ne (fun e=>hj (by simp [e]))⟩
theorem lU {i:Nat}{x:Str}(hN:X.N.Nodup) (hi:X.N[i]?=some x) (hx:L2.Loc X.env.scope x) (hf:X.fn x=true\/X.env.scope.names.lookup x=some .local):DG X (.Name x pos) [i] (Bj i):=by
 refine Vo (W8 hN hi hx hf) ?_;rintro v σ H Q ⟨d,loc,mh,ρ,loc',mh',q,rl,rs,r,co⟩;cases q;exact co H ρ _ Ev.refl rs (rl.set r) Gy.set
noncomputable def Qm:List Nat->List D->Loc->Loc
 | i::is,d::ds,loc=>Qm is ds (loc.set i (some d))
 | _,_,loc=>loc
noncomputable def Il:List Nat->List V->St->St
 | i::is,d::ds,loc=>Il is ds (loc.set i (some d))
 | _,_,loc=>loc
noncomputable def gNs:List Nat->TGs
 | []=>yD
 | i::is=>pH (aU i) (gNs is)
theorem cJ:∀ (is:List Nat) (vs:List V) (σ:St) (H:Hp) (Q:St->Hp->Prop),vs.length=is.length->Q (Il is vs σ) H->gNs is vs σ H Q
 | [],[],_,_,_,_,q=>⟨rfl,q⟩
 | [],_::_,_,_,_,h,_=>by simp at h
 | _::_,[],_,_,_,h,_=>by simp at h
 | i::is,v::vs,σ,H,Q,h,q=>⟨v,vs,rfl,cJ is vs _ H Q (by simpa using h) q⟩
theorem Ou {K:PySem.W.Frag}{H:Hp}{ρ:List Addr}:∀ (is:List Nat) {ds:List D}{vs:List V}{loc:Loc}{σ:St},RDs K H ρ ds vs->RL K H ρ loc σ->RL K H ρ (Qm is ds loc) (Il is vs σ)
 | [],_,_,_,_,.nil,rl=>rl
 | [],_,_,_,_,.cons _ _,rl=>rl
 | _::_,_,_,_,_,.nil,rl=>rl
 | i::is,_,_,_,_,.cons r t,rl=>Ou is t (rl.set r)
theorem J3:∀ (is:List Nat) (vs:List V) (σ:St),Gy is σ (Il is vs σ)
 | [],[],_=>⟨rfl,fun _ _=>rfl⟩
 | [],_::_,_=>⟨rfl,fun _ _=>rfl⟩
 | _::_,[],_=>⟨rfl,fun _ _=>rfl⟩
 | i::is,v::vs,σ=>by
  obtain ⟨h1,h2⟩:=J3 is vs (σ.set i (some v));refine ⟨h1.trans List.length_set,fun j hj=>?_⟩;have hj':¬ (j=i)/\j ∉ is:=by simpa using hj
  show (Il is vs (σ.set i (some v)))[j]?=σ[j]?;rw [h2 j hj'.2,List.getElem?_set_ne (fun e=>hj'.1 e.symm)]
noncomputable def pN (is:List Nat):GM:=fun d loc mh=>match d with
 | .tup ds=>if ds.length=is.length then some (Qm is ds loc,mh) else none
 | _=>none
theorem uJ {es:List Expr}{k:Nat}{is:List Nat}(hc:X.calm=true) (h:PGs X es (gNs is)) (hn:(assignEach es X.env).length=is.length) (hst:(assignEach es X.env).findIdx? (·.1)=none):DG X (.Tuple es k pos) is (pN is):=by
 refine Vo (rF hc h hn hst) ?_;rintro v σ H Q ⟨d,loc,mh,ρ,loc',mh',q,rl,rs,r,co⟩;cases r with
 | @tup ds a xs s r =>
  have q:(if ds.length=is.length then some (Qm is ds loc,mh) else none)=some (loc',mh'):=q;split at q
  ·rename_i hl;cases q;exact ⟨a,xs,rfl,s,by rw [← r.length];exact hl,cJ is xs σ H Q (by rw [← r.length];exact hl) (co H ρ _ Ev.refl rs (Ou is r rl) (J3 is xs σ))⟩
  ·cases q
 | _=>cases q
noncomputable def Im (o i v:D) (mh:MH):Option MH:=match o with
 | .ref n=>(match i with
  | .int k=>(match mh[n]? with
   | some (.lst ds)=>(match ixN ds.length k with
    | some j=>some (mh.set n (.lst (ds.set j v)))
    | none=>none)
   | _=>none)
  | _=>none)
 | _=>none
noncomputable def S8 (mo mi:DM D):GM:=fun v loc mh=>match mo loc mh with
 | some (o,m1)=>match mi loc m1 with
  | some (i,m2)=>match Im o i v m2 with
   | some m3=>some (loc,m3)
   | none=>none
  | none=>none
 | none=>none
theorem Vp {o i v:D}{mh m:MH}(h:Im o i v mh=some m):∃ n k ds j,o=.ref n/\i=.int k/\mh[n]?=some (.lst ds)/\ixN ds.length k=some j/\m=mh.set n (.lst (ds.set j v)):=by
 cases o with
 | ref n =>
  cases i with
  | int k =>
   have h:(match mh[n]? with | some (.lst ds)=>(match ixN ds.length k with | some j=>some (mh.set n (.lst (ds.set j v))) | none=>none) | _=>none)=some m:=h;split at h
   ·rename_i ds em;split at h
    ·rename_i j ej;cases h;exact ⟨n,k,ds,j,rfl,rfl,em,ej,rfl⟩
    ·cases h
   ·cases h
  | _=>cases h
 | _=>cases h
theorem uK {o i:Expr}{mo mi:DM D}(ho:DE X o mo) (hi:DE X i mi) (ha:∀ v,assign (.Subscript o i pos) X.env v=(do
      let ov ← holding [v] (eval o X.env)
      let iv ← holding [v,ov] (eval i X.env)
      standAt pos
      holding [v,ov,iv] (setItem ov iv v)
      release [v,ov,iv] [])):DG X (.Subscript o i pos) [] (S8 mo mi):=by
  refine Vo (rG ho.x hi.x set_list ha) ?_;rintro v σ H Q ⟨d,loc,mh,ρ,loc',mh',q,rl,rs,r,co⟩;unfold S8 at q;split at q
  · rename_i od m1 eo;split at q
    · rename_i idx m2 ei;split at q
      · rename_i m3 es;cases q;refine ⟨loc,mh,ρ,od,m1,eo,rl,rs,fun H1 ρ1 v1 e1 rs1 r1=>⟨loc,m1,ρ1,idx,m2,ei,rl.mono e1,rs1,fun H2 ρ2 v2 e2 rs2 r2=>?_⟩⟩;obtain ⟨n,k,ds,j,rfl,rfl,em,ej,rfl⟩:=Vp es;have r':=(r.mono e1).mono e2;cases r1.mono e2 with
        | @ref _ a hn =>
          cases r2;obtain ⟨a',ha',xs,hx,rx⟩:=rs2.at em;rw [hn] at ha';cases ha';refine ⟨a,xs,k,j,rfl,rfl,hx,by rw [← rx.length];exact ej,?_⟩;exact co _ ρ2 σ ((e1.trans e2).trans (Ev.lst hx)) (rs2.setL hn hx (rx.set r' j)) (((rl.mono e1).mono e2).mono (Ev.lst hx)) ⟨rfl,fun _ _=>rfl⟩
      · cases q
    · cases q
  · cases q
noncomputable def Ay (me:DM D) (g:GM):SM:=fun loc mh=>match me loc mh with
 | some (d,h)=>match g d loc h with
  | some (l,h')=>some (.nx,l,h')
  | none=>none
 | none=>none
theorem S9 {ws:List Nat}{g:GM}{N:Ends}{σ:St}{H:Hp}(h:tS X.K (Ay me g) N σ H):rH (tDx X.K me) (tG X.K ws g) N σ H:=by
 obtain ⟨loc,mh,ρ,f,loc',mh',q,rl,rs,co⟩:=h;unfold Ay at q;split at q
 ·rename_i d h1 ee;split at q
  ·rename_i l h2 eg;cases q;exact ⟨loc,mh,ρ,d,h1,ee,rl,rs,fun H1 ρ1 v e1 rs1 r1=>⟨d,loc,h1,ρ1,_,_,eg,rl.mono e1,rs1,r1,fun H2 ρ2 σ2 e2 rs2 rl2 _=>co H2 ρ2 σ2 (e1.trans e2) rs2 rl2⟩⟩
  ·cases q
 ·cases q
theorem Vq {tg:Expr}{ws:List Nat}{g:GM}(he:DE X e me) (hg:DG X tg ws g) (hs:swapsWithSole [tg] e pos.line X.env=pure false) (hw:swappedStores [tg] e X.env=pure none) (h1:(assignEach [tg] X.env).map (·.2)=[assign tg X.env]):DS X (.Assign [tg] e pos) (Ay me g) :=
 Eo (rJ he.x hg hs hw h1) fun N σ H h=>S9 h
noncomputable def Kg (src:Src) (g:GM) (body:SM):Nat->Nat->SM
 | 0,i,loc,mh=>if src.stop mh i=true then some (.nx,loc,mh) else none
 | k+1,i,loc,mh=>match src.get mh i with
  | none=>if src.stop mh i=true then some (.nx,loc,mh) else none
  | some d=>match g d loc mh with
   | none=>none
   | some (l1,h1)=>match body l1 h1 with
    | some (.nx,l,h)=>Kg src g body k (i+1) l h
    | some (.ct,l,h)=>Kg src g body k (i+1) l h
    | some (.bk,l,h)=>some (.nx,l,h)
    | some (.rt d,l,h)=>some (.rt d,l,h)
    | none=>none
noncomputable def Hj (mi:DM Src) (g:GM) (body:SM):SM:=fun loc mh=>match mi loc mh with
 | some (src,h)=>Kg src g body (src.items h).length 0 loc h
 | none=>none
theorem uL {tg iter:Expr}{body:List Stmt}{mi:DM Src}{ws:List Nat}{g:GM}{mb:SM}(hp:PassesOwn (model X.prog X.w) X.A X.env X.xe) (hc:X.calm=true) (hi:DI X tg iter mi) (hg:DG X tg ws g) (hb:DSs X body mb)
  (hs:∀ x,foldedSetIterable iter X.env x=pure x):DS X (.For tg iter body [] pos) (Hj mi g mb):=by
 refine Eo (rO hp hc hi.x hg hb hs) ?_;rintro N σ H ⟨loc,mh,ρ,f,loc',mh',q,rl,rs,co⟩;unfold Hj at q;split at q
 ·rename_i src h0 ei;refine ⟨loc,mh,ρ,src,h0,ei,rl,rs,fun H1 ρ1 J e1 rs1 jr=>?_⟩
  refine ⟨fun i k σ H=>∃ ρ loc mh f loc' mh',Ev X.K H1 ρ1 H ρ/\RL X.K H ρ loc σ/\RS X.K H ρ mh/\Kg src g mb k i loc mh=some (f,loc',mh')/\CoS X.K H ρ f loc' mh' N,
   ⟨_,ρ1,loc,h0,f,loc',mh',Ev.refl,rl.mono e1,rs1,q,co.ev e1⟩,?_⟩
  rintro i k σ H ⟨ρ,loc,mh,f,loc',mh',ev,rl,rs,q,co⟩;have stop:(if src.stop mh i=true then some (Fl.nx,loc,mh) else none)=some (f,loc',mh')->J.stop i H/\N.nx σ H:=fun q=>by
   split at q
   ·rename_i hst;cases q;exact ⟨jr.stop H ρ mh i ev rs hst,co H ρ σ Ev.refl rs rl⟩
   ·cases q
  cases k with
  | zero=>exact .inl (stop q)
  | succ k =>
   simp only [Kg] at q;split at q
   ·exact .inl (stop q)
   ·rename_i d ed;obtain ⟨hgo,hyld⟩:=jr.go H ρ mh i d ev rs ed;split at q
    ·cases q
    ·rename_i l1 h1 eg
     refine .inr ⟨hgo,fun σ' H'=>∃ ρ' loc mh f loc' mh',Ev X.K H1 ρ1 H' ρ'/\RL X.K H' ρ' loc σ'/\RS X.K H' ρ' mh/\Kg src g mb k (i+1) loc mh=some (f,loc',mh')/\CoS X.K H' ρ' f loc' mh' N,
      fun σ' H' h=>⟨k,Nat.lt_succ_self _,h⟩,fun x H' hy=>?_⟩
     obtain ⟨ev2,rs2,rd2⟩:=hyld x H' hy;refine ⟨d,loc,mh,ρ,l1,h1,eg,rl.mono ev2,rs2,rd2,fun H3 ρ3 σ3 ev3 rs3 rl3 _=>?_⟩;split at q
     ·rename_i l h eb;exact ⟨l1,h1,ρ3,.nx,l,h,eb,rl3,rs3,fun H4 ρ4 σ4 ev4 rs4 rl4=>⟨ρ4,l,h,f,loc',mh',ev.trans (ev2.trans (ev3.trans ev4)),rl4,rs4,q,co.ev (ev2.trans (ev3.trans ev4))⟩⟩
     ·rename_i l h eb;exact ⟨l1,h1,ρ3,.ct,l,h,eb,rl3,rs3,fun H4 ρ4 σ4 ev4 rs4 rl4=>⟨ρ4,l,h,f,loc',mh',ev.trans (ev2.trans (ev3.trans ev4)),rl4,rs4,q,co.ev (ev2.trans (ev3.trans ev4))⟩⟩
     ·rename_i l h eb;cases q;exact ⟨l1,h1,ρ3,.bk,_,_,eb,rl3,rs3,fun H4 ρ4 σ4 ev4 rs4 rl4=>co H4 ρ4 σ4 (ev2.trans (ev3.trans ev4)) rs4 rl4⟩
     ·rename_i d' l h eb;cases q;exact ⟨l1,h1,ρ3,.rt d',_,_,eb,rl3,rs3,fun H4 ρ4 v4 ev4 rs4 r4=>co H4 ρ4 v4 (ev2.trans (ev3.trans ev4)) rs4 r4⟩
     ·cases q
 ·cases q
end
noncomputable def Dz (t:DM Bool) (body:SM):Nat->SM
 | 0,_,_=>none
 | k+1,loc,mh=>match t loc mh with
  | none=>none
  | some (false,h)=>some (.nx,loc,h)
  | some (true,h)=>match body loc h with
   | some (.nx,l,h)=>Dz t body k l h
   | some (.ct,l,h)=>Dz t body k l h
   | some (.bk,l,h)=>some (.nx,l,h)
   | some (.rt d,l,h)=>some (.rt d,l,h)
   | none=>none
noncomputable def Hu (t:DM Bool) (body:SM):SM:=Dz t body 1000000
section
variable {X:Cx}{pos:Pos}
theorem cL {c:Expr}{body:List Stmt}{t:DM Bool}{mb:SM}(hp:PassesOwn (model X.prog X.w) X.A X.env X.xe) (hc:DT X c t) (hb:DSs X body mb):DS X (.While c body [] pos) (Hu t mb):=by
 refine Eo (aW hp hc.x hb) ?_;rintro N σ H ⟨loc,mh,ρ,f,loc',mh',q,rl,rs,co⟩;refine ⟨fun k σ H=>∃ ρ loc mh f loc' mh',RL X.K H ρ loc σ/\RS X.K H ρ mh/\Dz t mb k loc mh=some (f,loc',mh')/\CoS X.K H ρ f loc' mh' N,⟨_,ρ,loc,mh,f,loc',mh',rl,rs,q,co⟩,?_⟩;rintro k σ H ⟨ρ,loc,mh,f,loc',mh',rl,rs,q,co⟩;cases k with
 | zero=>cases q
 | succ k =>
  simp only [Dz] at q;split at q
  ·cases q
  ·rename_i h et;cases q;exact ⟨_,mh,ρ,false,_,et,rl,rs,fun H1 ρ1 e1 rs1=>Qf (co H1 ρ1 σ e1 rs1 (rl.mono e1))⟩
  ·rename_i h et;refine ⟨loc,mh,ρ,true,h,et,rl,rs,fun H1 ρ1 e1 rs1=>Qg ⟨fun σ' H'=>∃ ρ' loc mh f loc' mh',RL X.K H' ρ' loc σ'/\RS X.K H' ρ' mh/\Dz t mb k loc mh=some (f,loc',mh')/\CoS X.K H' ρ' f loc' mh' N,fun σ' H' h=>⟨k,Nat.lt_succ_self _,h⟩,?_⟩⟩;have rl1:=rl.mono e1;split at q
   ·rename_i l h2 eb;exact ⟨loc,h,ρ1,.nx,l,h2,eb,rl1,rs1,fun H4 ρ4 σ4 ev4 rs4 rl4=>⟨ρ4,l,h2,f,loc',mh',rl4,rs4,q,co.ev (e1.trans ev4)⟩⟩
   ·rename_i l h2 eb;exact ⟨loc,h,ρ1,.ct,l,h2,eb,rl1,rs1,fun H4 ρ4 σ4 ev4 rs4 rl4=>⟨ρ4,l,h2,f,loc',mh',rl4,rs4,q,co.ev (e1.trans ev4)⟩⟩
   ·rename_i l h2 eb;cases q;exact ⟨loc,h,ρ1,.bk,_,_,eb,rl1,rs1,fun H4 ρ4 σ4 ev4 rs4 rl4=>co H4 ρ4 σ4 (e1.trans ev4) rs4 rl4⟩
   ·rename_i d' l h2 eb;cases q;exact ⟨loc,h,ρ1,.rt d',_,_,eb,rl1,rs1,fun H4 ρ4 v4 ev4 rs4 r4=>co H4 ρ4 v4 (e1.trans ev4) rs4 r4⟩
   ·cases q
end
noncomputable def Tc (cs:List (Option Nat)) (loc:Loc):Loc:=cs.map fun o=>match o with | some j=>(match loc[j]? with | some d=>d | none=>none) | none=>none
noncomputable def Nr (cs:List (Option Nat)) (σ:St):St:=cs.map fun o=>match o with | some j=>(match σ[j]? with | some d=>d | none=>none) | none=>none
theorem uM {K:PySem.W.Frag}{H:Hp}{ρ:List Addr}{loc:Loc}{σ:St}(cs:List (Option Nat)) (h:RL K H ρ loc σ):RL K H ρ (Tc cs loc) (Nr cs σ):=by
 refine ⟨by unfold Tc Nr;rw [List.length_map,List.length_map],fun i d e=>?_⟩;unfold Tc at e;unfold Nr;rw [List.getElem?_map] at e ⊢;cases q:cs[i]? with
 | none=>rw [q] at e;cases e
 | some o =>
  rw [q] at e;cases o with
  | none=>simp at e
  | some j =>
   simp only [Option.map_some,Option.some.injEq] at e;cases ej:loc[j]? with
   | none=>rw [ej] at e;cases e
   | some d' =>
    rw [ej] at e;have e:d'=some d:=e;subst e;obtain ⟨v,e1,r⟩:=h.2 j d ej;exact ⟨v,by simp only [Option.map_some,e1],r⟩
structure CapOk (X:Cx) (N':List Str) (scope:Scope) (cs:List (Option Nat)):Prop where
 len:N'.length=cs.length
 cap:∀ (i:Nat) (x:Str) (j:Nat),N'[i]?=some x->cs[i]?=some (some j)->scope.names.lookup x=some .free/\X.N[j]?=some x
theorem CapOk.to {X:Cx}{N':List Str}{scope:Scope}{cs:List (Option Nat)}(h:CapOk X N' scope cs) (σ:St):Cap X N' scope σ (Nr cs σ):=by
 refine ⟨by unfold Nr;rw [List.length_map];exact h.len.symm,fun i x v e1 e2=>?_⟩;unfold Nr at e2;rw [List.getElem?_map] at e2;cases q:cs[i]? with
 | none=>rw [q] at e2;cases e2
 | some o =>
  rw [q] at e2;cases o with
  | none=>simp at e2
  | some j =>
   obtain ⟨h1,h2⟩:=h.cap i x j e1 q;refine ⟨h1,j,h2,?_⟩;simp only [Option.map_some,Option.some.injEq] at e2;cases ej:σ[j]? with
   | none=>rw [ej] at e2;cases e2
   | some d'=>rw [ej] at e2;have e2:d'=some v:=e2;rw [e2]
theorem lV {cs:List (Option Nat)}{ws:List Nat}{σ σ2:St}(hw:∀ i∈ws,∀ j,cs[i]?≠some (some j)) (h:Gy ws (Nr cs σ) σ2):Kept (Nr cs σ) σ2:=by
 refine ⟨h.1,fun i v e=>?_⟩;rw [h.2 i fun hi=>?_]
 ·exact e
 ·unfold Nr at e;rw [List.getElem?_map] at e;cases q:cs[i]? with
  | none=>rw [q] at e;cases e
  | some o =>
   cases o with
   | none=>rw [q] at e;simp at e
   | some j=>exact hw i hi j q
noncomputable def Ho (src:Src) (g:GM) (tc:DM Bool) (me:DM D) (loc:Loc):Nat->Nat->List D->MH->Option (List D×MH)
 | 0,i,acc,mh=>if src.stop mh i=true then some (acc,mh) else none
 | k+1,i,acc,mh=>match src.get mh i with
  | none=>if src.stop mh i=true then some (acc,mh) else none
  | some d=>match g d loc mh with
   | none=>none
   | some (l1,h1)=>match tc l1 h1 with
    | none=>none
    | some (c,h2)=>if c=true then (match me l1 h2 with
      | some (y,h3)=>if acc.length < sizeLine then Ho src g tc me loc k (i+1) (acc++[y]) h3 else none
      | none=>none) else Ho src g tc me loc k (i+1) acc h2
noncomputable def Ec (mi:DM Src) (cs:List (Option Nat)) (g:GM) (tc:DM Bool) (me:DM D):DM D:=fun loc mh=>match mi loc mh with
 | some (src,h)=>match Ho src g tc me (Tc cs loc) (src.items h).length 0 [] h with
  | some (ds,h')=>some (.ref h'.length,h'++[.lst ds])
  | none=>none
 | none=>none
section
variable {X:Cx}{N':List Str}{scope:Scope}{cs:List (Option Nat)}{ws:List Nat}{mi:DM Src}{g:GM}{tc:DM Bool}{me:DM D}{elt target iter:Expr}{ifs:List Expr}{pos:Pos}
theorem Td (hcap:CapOk X N' scope cs) (hw:∀ i∈ws,∀ j,cs[i]?≠some (some j)) {σ:St}{H:Hp}{Q:VK}(h:tDx X.K (Ec mi cs g tc me) σ H Q) :
  bR X N' scope (tIx X.K mi) (tG X.K ws g) (tTx X.K tc) (tDx X.K me) σ H Q:=by
 obtain ⟨loc,mh,ρ,d,mh',q,rl,rs,co⟩:=h;unfold Ec at q;split at q
 ·rename_i src h0 ei;split at q
  ·rename_i ds h1 ec;cases q;refine ⟨loc,mh,ρ,src,h0,ei,rl,rs,fun H1 ρ1 J e1 rs1 jr=>?_⟩;refine ⟨Nr cs σ,hcap.to σ,fun i k acc H=>∃ ρ accD mh,Ev X.K H1 ρ1 H ρ/\RS X.K H ρ mh/\RDs X.K H ρ accD acc/\Ho src g tc me (Tc cs loc) k i accD mh=some (ds,h1),⟨_,ρ1,[],h0,Ev.refl,rs1,.nil,ec⟩,?_⟩;have co1:=co.ev e1;have rl1:=uM cs (rl.mono e1);rintro i k acc H ⟨ρ,accD,mh,ev,rs,ra,q⟩;have stop:(if src.stop mh i=true then some (accD,mh) else none)=some (ds,h1)->J.stop i H/\∀ p,H p=none->Q (.ref p) (upd H p (.lst acc)):=fun q=>by
    split at q
    ·rename_i hst;cases q;exact ⟨jr.stop H ρ _ i ev rs hst,Co.newL rs ra (co1.ev ev)⟩
    ·cases q
   cases k with
   | zero=>exact .inl (stop q)
   | succ k =>
    simp only [Ho] at q;split at q
    ·exact .inl (stop q)
    ·rename_i d ed;obtain ⟨hgo,hyld⟩:=jr.go H ρ mh i d ev rs ed;split at q
     ·cases q
     ·rename_i l1 h2 eg;refine .inr ⟨hgo,fun acc' H'=>∃ ρ accD mh,Ev X.K H1 ρ1 H' ρ/\RS X.K H' ρ mh/\RDs X.K H' ρ accD acc'/\Ho src g tc me (Tc cs loc) k (i+1) accD mh=some (ds,h1),fun acc' H' h=>⟨k,Nat.lt_succ_self _,h⟩,fun x H' hy=>?_⟩;obtain ⟨ev2,rs2,rd2⟩:=hyld x H' hy;refine ⟨d,Tc cs loc,mh,ρ,l1,h2,eg,rl1.mono (ev.trans ev2),rs2,rd2,fun H3 ρ3 σ3 ev3 rs3 rl3 kb=>⟨lV hw kb,?_⟩⟩;split at q
      ·cases q
      ·rename_i c h3 et;refine ⟨l1,h2,ρ3,c,h3,et,rl3,rs3,fun H4 ρ4 ev4 rs4=>?_⟩;have evA:=ev2.trans (ev3.trans ev4);cases c with
       | false =>
        rw [if_neg Bool.false_ne_true] at q;exact Qf ⟨ρ4,accD,h3,ev.trans evA,rs4,ra.mono evA,q⟩
       | true =>
        rw [if_pos rfl] at q;split at q
        ·rename_i y h4 ey;split at q
         ·rename_i hz;refine Qg ⟨by rw [← ra.length];exact hz,l1,h3,ρ4,y,h4,ey,rl3.mono ev4,rs4,fun H5 ρ5 v ev5 rs5 r5=>⟨ρ5,accD++[y],h4,ev.trans (evA.trans ev5),rs5,(ra.mono (evA.trans ev5)).append (.cons r5 .nil),q⟩⟩
         ·cases q
        ·cases q
  ·cases q
 ·cases q
noncomputable def DIf (X:Cx) (ifs:List Expr) (m:DM Bool):Prop:=PIf X ifs (tTx X.K m)
theorem lW:DIf X [] (Zr true):=by
 rintro pins s σ H Q I ⟨loc,mh,ρ,b,mh',q,rl,rs,co⟩;cases q;exact kI pins s σ H Q I (co H ρ Ev.refl rs)
theorem lX {c:Expr}{m:DM Bool}(h:DT X c m):DIf X [c] m:=kJ h.x
theorem lY (hc:X.calm=true) (S:CompOk X scope) (hcap:CapOk X N' scope cs) (hw:∀ i∈ws,∀ j,cs[i]?≠some (some j)) (hit:DI X target iter mi)
  (hg:∀ pins C cells s₀ H₀ fp,DG (Bp X pins N' scope C cells s₀ H₀ fp) target ws g)
  (hi:∀ pins C cells s₀ H₀ fp,DIf (Bp X pins N' scope C cells s₀ H₀ fp) ifs tc)
  (he:∀ pins C cells s₀ H₀ fp,DE (Bp X pins N' scope C cells s₀ H₀ fp) elt me)
  (hs:∀ x,foldedSetIterable iter X.env x=pure x):DE X (.ListComp elt [⟨target,iter,ifs,0⟩] scope pos) (Ec mi cs g tc me):=fun loc mh =>
 Ar (kO (N':=N') (g:=tG X.K ws g) (tc:=tTx X.K tc) (te:=tDx X.K me) hc S hit.x (fun p C c s h f=>hg p C c s h f) (fun p C c s h f=>hi p C c s h f) (fun p C c s h f=>(he p C c s h f).x) hs) fun σ H Q h=>Td hcap hw ⟨loc,mh,h⟩
theorem Vr {y:Str}{py spos:Pos}{wy:List Nat}{gy:GM}(hc:X.calm=true) (S:CompOk X scope) (hcap:CapOk X N' scope cs) (hw:∀ i∈ws,∀ j,cs[i]?≠some (some j)) (hit:DI X target iter mi)
  (hg:∀ pins C cells s₀ H₀ fp,DG (Bp X pins N' scope C cells s₀ H₀ fp) target ws g)
  (hi:∀ pins C cells s₀ H₀ fp,DIf (Bp X pins N' scope C cells s₀ H₀ fp) ifs tc)
  (he:∀ pins C cells s₀ H₀ fp,DE (Bp X pins N' scope C cells s₀ H₀ fp) elt me) (hgy:DG X (.Name y py) wy gy)
  (hsw:swapsWith (.ListComp elt [⟨target,iter,ifs,0⟩] scope pos) (some (.Name y py)) spos.line X.env=pure true)
  (hs:∀ x,foldedSetIterable iter X.env x=pure x):DS X (.Assign [.Name y py] (.ListComp elt [⟨target,iter,ifs,0⟩] scope pos) spos) (Ay (Ec mi cs g tc me) gy) :=
 Eo (Vk (N':=N') (g:=tG X.K ws g) (tc:=tTx X.K tc) (te:=tDx X.K me) hc S hit.x (fun p C c s h f=>hg p C c s h f) (fun p C c s h f=>hi p C c s h f) (fun p C c s h f=>(he p C c s h f).x) hgy hsw hs) fun N σ H h=>Td hcap hw (S9 h)
end
noncomputable def spD (K:PySem.W.Frag) (n:Nat) (f:List D->MH->Option (D×MH)):Sp:=fun vs H Q _=>vs.length=n/\rDs K f vs H Q
section
variable {X:Cx}
theorem lZ {CX:CXT}{k:Nat}{fa:Addr}{fd:FuncData}{ps:List Str}{f:List D->MH->Option (D×MH)}{x:Str}{p pos:Pos}{a:Expr}{es:List Expr}{mr:DM (List D)}{E:XK}
  (F:FnOk X.prog X.w X.K X.mg X.base CX k fa fd ps (spD X.K ps.length f)) (hr:Room k X.A) (hg:Gl X x) (hm:X.mg x=some (.ref fa)) (hk:PySem.W.keepIn X.K (.ref fa)=true) (hb:Binds X.K fd ps []) (hx:Cr CX X E)
  (ha:DA X (a::es) mr) (hf:∀ ds mh r,f ds mh=some r->ds.length=ps.length) (hdb:(x==("__debug__":Str))=false) (he:starEach (a::es) X.env=(false,eval a X.env)::starEach es X.env) (hpl:(backTo pos (starEach es X.env)).any (·.1)=false) :
  DE X (.Call (.Name x p) (a::es) [] pos) (mr.bnd fun ds=>Zl (f ds)):=fun loc mh=>by
 refine Ar (jN F hr hg hm hk hb .nil hx (ha loc mh) hdb he hpl) ?_;rintro σ H Q ⟨ρ,d,mh',q,rl,rs,co⟩;obtain ⟨ds,m1,ea,q⟩:=Ah q;refine ⟨ρ,ds,m1,ea,rl,rs,fun H1 ρ1 vs e1 rs1 r1=>?_⟩;show spD X.K ps.length f (vs++[]) H1 Q E;rw [List.append_nil];exact ⟨by rw [← r1.length];exact hf _ _ _ q,ρ1,m1,ds,d,mh',q,rs1,r1,co.ev e1⟩
theorem cM {CX:CXT}{k:Nat}{fa:Addr}{fd:FuncData}{f:List D->MH->Option (D×MH)}{x:Str}{p pos:Pos}{E:XK}
  (F:FnOk X.prog X.w X.K X.mg X.base CX k fa fd [] (spD X.K 0 f)) (hr:Room k X.A) (hg:Gl X x) (hm:X.mg x=some (.ref fa)) (hk:PySem.W.keepIn X.K (.ref fa)=true) (hb:Binds X.K fd [] []) (hx:Cr CX X E) (hdb:(x==("__debug__":Str))=false) :
  DE X (.Call (.Name x p) [] [] pos) (Zl (f [])):=fun loc mh=>by
 refine Ar (bG F hr hg hm hk hb .nil hx hdb) ?_;rintro σ H Q ⟨ρ,d,mh',q,rl,rs,co⟩;exact ⟨rfl,ρ,mh,[],d,mh',q,rs,.nil,co⟩
noncomputable def Qn (c:String) (x:D) (mh:MH):Option (D×MH):=match cG x mh with
 | some t=>match uF t c with
  | some b=>some (.bl b,mh)
  | none=>none
 | none=>none
theorem cN {c:String}(hc:c∈["bool", "int", "str", "tuple", "list", "dict"]):Ax X (.builtin "isinstance") (fun xs H Q=>∃ v,xs=[v,.ty c]/\rD1 X.K (Qn c) v H Q):=by
 rintro pins s σ H xs us Q I r ⟨v,e,ρ,mh,dx,d,mh',q,rs,rd,co⟩;subst e;obtain ⟨u,w',rfl,r1,r2⟩:=Vals.two r;cases (show w'=Value.type c from r2);unfold Qn at q;split at q
 ·rename_i t et;split at q
  ·rename_i b eb;cases q;have fin:∀ tk,EP X pins σ Q (.bool b) { s with toks:=tk }:=fun tk=>⟨.bl b,H,I.tok tk,rfl,co H ρ _ Ev.refl rs (.bl b)⟩
   cases rd with
   | non=>cases et;cases (show u=Value.none from r1);exact PySem.W.kia_one PySem.W.kitx_none I.kIn True.intro (Ge (by decide) hc eb) (fun z=>nomatch z) fin
   | bl y=>cases et;cases (show u=Value.bool y from r1);exact PySem.W.kia_one PySem.W.kitx_bool I.kIn True.intro (Ge (by decide) hc eb) (fun z=>nomatch z) fin
   | int i=>cases et;obtain ⟨t,q⟩:=(show ∃ t,u=Value.int i t from r1);cases q;exact PySem.W.kia_one PySem.W.kitx_int I.kIn True.intro (Ge (by decide) hc eb) (fun z=>nomatch z) fin
   | str y=>cases et;obtain ⟨t,q⟩:=(show ∃ t,u=Value.str y t from r1);cases q;exact PySem.W.kia_one PySem.W.kitx_str I.kIn True.intro (Ge (by decide) hc eb) (fun z=>nomatch z) fin
   | @tup ds a xs sq r =>
    cases et;cases (show u=Value.ref a from r1);obtain ⟨its,_,⟨o,h1,h2,_⟩,_⟩:=I.tuple sq;exact PySem.W.kia_one PySem.W.kitx_tuple I.kIn ⟨o,h1,h2⟩ (Ge (by decide) hc eb) (fun z=>nomatch z) fin
   | obj n s l r=>cases et
   | fn h=>cases et
   | lam h=>cases et
   | clo=>cases et
   | @rol ds a xs sq r =>
    cases et;cases (show u=Value.ref a from r1);obtain ⟨its,_,⟨ob,n',h1,h2,_⟩,_⟩:=I.list sq.sq;exact PySem.W.kia_one PySem.W.kitx_list I.kIn ⟨ob,h1,h2⟩ (Ge (by decide) hc eb) (fun z=>nomatch z) fin
   | @ref n a h =>
    have et:(match mh[n]? with | some (.lst _)=>some "list" | _=>none)=some t:=et;split at et
    ·rename_i o eo;cases et;cases (show u=Value.ref a from r1);obtain ⟨a',ha,ro⟩:=rs.at eo;rw [h] at ha;cases ha;obtain ⟨xs,sq,_⟩:=ro.read;obtain ⟨its,_,⟨ob,n',h1,h2,_⟩,_⟩:=I.list sq;exact PySem.W.kia_one PySem.W.kitx_list I.kIn ⟨ob,h1,h2⟩ (Ge (by decide) hc eb) (fun z=>nomatch z) fin
    ·cases et
  ·cases q
 ·cases q
theorem uN {c:Str}{T:String}{p p2 pos:Pos}{a:Expr}{ma:DM D}(hT:T∈["bool", "int", "str", "tuple", "list", "dict"]) (hg:Gl X "isinstance") (hm:X.mg "isinstance"=none) (hg2:Gl X c) (hm2:X.mg c=none) (hv2:bootBuiltins c=some (.type T)) (hn2:c ≠ "__name__") (hd2:(c==("__debug__":Str))=false) (ha:DE X a ma)
  (he:starEach (a::[.Name c p2]) X.env=(false,eval a X.env)::starEach [.Name c p2] X.env):DE X (.Call (.Name "isinstance" p) [a,.Name c p2] [] pos) (ma.bnd fun x=>Zl (Qn T x)):=fun loc mh=>by
 refine Ar (R8 (cN hT) hg hm boot_isinstance (Ed (ha loc mh) (Ed (jA hg2 hm2 hv2 (v:=.ty T) rfl hn2 hd2) Fz) he) (by decide) (by decide) he) ?_;rintro σ H Q ⟨ρ,d,mh',q,rl,rs,co⟩;obtain ⟨x,m1,ea,q⟩:=Ah q;exact ⟨ρ,x,m1,ea,rl,rs,fun H1 ρ1 v e1 rs1 r1=>⟨v,rfl,ρ1,m1,x,d,mh',q,rs1,r1,co.ev e1⟩⟩
end
section
variable {X:Cx}{a b c e o:Expr}{ma mb mc mo:DM D}{pos:Pos}
noncomputable def Lk (f f':D->D->MH->Option (D×MH)) (ma mb mc:DM D):DM D:=ma.bnd fun x=>mb.bnd fun y=>(Am (Zl (f x y))).bnd fun k=>if k=true then mc.bnd fun z=>Zl (f' y z) else Zr (.bl false)
theorem Ov {f f':D->D->MH->Option (D×MH)}{σ:St}{H:Hp}{Q:VK}(h:tDx X.K (Lk f f' ma mb mc) σ H Q):U6 (rD X.K f) (rD X.K f') (tDx X.K ma) (tDx X.K mb) (tDx X.K mc) σ H Q:=by
 obtain ⟨loc,mh,ρ,d,mh',q,rl,rs,co⟩:=h;obtain ⟨x,m1,ea,q⟩:=Ah q;obtain ⟨y,m2,eb,q⟩:=Ah q;obtain ⟨k,m3,ek,q⟩:=Ah q;have ek:=Em ek;refine ⟨loc,mh,ρ,x,m1,ea,rl,rs,fun H1 ρ1 v1 e1 rs1 r1=>⟨loc,m1,ρ1,y,m2,eb,rl.mono e1,rs1,fun H2 ρ2 v2 e2 rs2 r2=>⟨ρ2,m2,x,y,.bl k,m3,ek,rs2,r1.mono e2,r2,fun H3 ρ3 v3 e3 rs3 r3=>?_⟩⟩⟩;cases r3;refine ⟨k,rfl,?_⟩;cases k with
 | true =>
  rw [if_pos rfl] at q;obtain ⟨z,m4,ec,q⟩:=Ah q;exact Qg ⟨loc,m3,ρ3,z,m4,ec,((rl.mono e1).mono e2).mono e3,rs3,fun H4 ρ4 v4 e4 rs4 r4=>⟨ρ4,m4,y,z,d,mh',q,rs4,(r2.mono e3).mono e4,r4,co.ev (e1.trans (e2.trans (e3.trans e4)))⟩⟩
 | false =>
  rw [if_neg Bool.false_ne_true] at q;cases q;exact Qf (co H3 ρ3 _ (e1.trans (e2.trans e3)) rs3 (.bl false))
theorem cO {op op':CmpOp}{f f':D->D->MH->Option (D×MH)}(ho:OpR X (compareOp op) (rD X.K f)) (ho':OpR X (compareOp op') (rD X.K f')) (hm:lastMarks [op,op'] [b,c]=false) (ha:DE X a ma) (hb:DE X b mb) (hc:DE X c mc) :
  DE X (.Compare a [op,op'] [b,c] pos) (Lk f f' ma mb mc):=fun loc mh=>Ar (aZ ho ho' ha.x hb.x hc.x hm) fun σ H Q h=>Ov ⟨loc,mh,h⟩
theorem cP {op op':CmpOp}{f f':D->D->MH->Option (D×MH)}(ho:OpR X (compareOp op) (rD X.K f)) (ho':OpR X (compareOp op') (rD X.K f')) (hm:lastMarks [op,op'] [b,c]=false) (ha:DE X a ma) (hb:DE X b mb) (hc:DE X c mc) :
  DT X (.Compare a [op,op'] [b,c] pos) (Am (Lk f f' ma mb mc)):=by
 refine fun loc mh=>Qk (bA ho ho' ha.x hb.x hc.x hm) ?_
 rintro σ H Q ⟨ρ,k,mh',q,rl,rs,co⟩;have q:=Em q;exact Ov ⟨loc,mh,ρ,_,_,q,rl,rs,fun H' ρ' v e' rs' r'=>by cases r';exact ⟨k,rfl,co H' ρ' e' rs'⟩⟩
noncomputable def rDM (K:PySem.W.Frag) (f:D->List D->MH->Option (D×MH)):V->List V->Hp->VK->Prop:=fun x xs H Q=>∃ ρ mh dx ds d mh',f dx ds mh=some (d,mh')/\RS K H ρ mh/\RD K H ρ dx x/\RDs K H ρ ds xs/\Co K H ρ mh' d Q
noncomputable def Zm (T:String) (x:D) (mh:MH):Bool:=match x with
 | .str _=>T == "str"
 | .int _=>T == "int"
 | .ref n=>T == "list"&&(match mh[n]? with | some (.lst _)=>true | _=>false)
 | .tup _=>T == "tuple"
 | _=>false
theorem cQ {K:PySem.W.Frag}{H:Hp}{ρ:List Addr}{mh:MH}{T:String}{x:D}{v:V}(rs:RS K H ρ mh) (r:RD K H ρ x v) (h:Zm T x mh=true):tyV K T v H:=by
 cases r with
 | str z=>exact eq_of_beq h
 | int i=>exact eq_of_beq h
 | @ref n a hn =>
  have h:(T == "list"&&(match mh[n]? with | some (.lst _)=>true | _=>false))=true:=h;rw [Bool.and_eq_true] at h;obtain ⟨o,eo⟩:∃ o,mh[n]?=some (.lst o):=by
   have h:=h.2;split at h
   ·exact ⟨_,‹_›⟩
   ·cases h
  obtain ⟨a',ha,ro⟩:=rs.at eo;rw [hn] at ha;cases ha;obtain ⟨xs,sq,_⟩:=ro.read;exact .inl ⟨eq_of_beq h.1,xs,sq⟩
 | tup s r=>exact .inr (.inl ⟨eq_of_beq h,_,s⟩)
 | _=>cases h
noncomputable def Bg (T:String) (f:D->List D->MH->Option (D×MH)) (mo:DM D) (mr:DM (List D)):DM D:=mo.bnd fun x=>fun loc mh=>if Zm T x mh=true then (mr.bnd fun ds=>Zl (f x ds)) loc mh else none
theorem J4 {T id:String}{name:Str}{apos:Pos}{es:List Expr}{mr:DM (List D)}{f:D->List D->MH->Option (D×MH)}(pa:PlainAttrs T) (slot:Slot T name id) (hty:typeOf (.builtin id)=pure (.type "method_descriptor")) (hm:MtR X id (rDM X.K f)) (ho:DE X o mo) (ha:DA X (a::es) mr)
  (hbase:attributeBase o name X.env (eval o X.env)=eval o X.env)
  (hfew:((backTo pos (starEach (a::es) X.env)).all (fun x=>!x.1)&&(backToKw pos (keywordEach [] X.env)).all (fun x=>x.1.isSome)
   && decide ((a::es).length+([]:List Keyword).length+(if ([]:List Keyword).isEmpty then 0 else 1) < 30))=true)
  (hline:(apos.endLine==pos.line)=true) (hs:starEach (a::es) X.env=(false,eval a X.env)::starEach es X.env) (hplain:(backTo pos (starEach es X.env)).any (·.1)=false) :
  DE X (.Call (.Attribute o name apos) (a::es) [] pos) (Bg T f mo mr):=fun loc mh=>by
 cases eo:mo loc mh with
 | none =>
  have:Bg T f mo mr loc mh=none:=by unfold Bg DM.bnd;rw [eo]
  rw [this];exact Az
 | some p =>
  obtain ⟨x,m1⟩:=p;refine Ar (yZ pa slot hty hm (ho loc mh) (ha loc m1) hbase hfew hline hs hplain) ?_;rintro σ H Q ⟨ρ,d,mh',q,rl,rs,co⟩;obtain ⟨x',m1',eo',q⟩:=Ah q;rw [eo] at eo';cases eo';split at q
  ·rename_i ht;obtain ⟨ds,m2,er,q⟩:=Ah q;exact ⟨ρ,x,m1,eo,rl,rs,fun H1 ρ1 v e1 rs1 r1=>⟨cQ rs1 r1 ht,ρ1,ds,m2,er,rl.mono e1,rs1,fun H2 ρ2 vs e2 rs2 r2=>⟨ρ2,m2,x,ds,d,mh',q,rs2,r1.mono e2,r2,co.ev (e1.trans e2)⟩⟩⟩
  ·cases q
theorem cR {T id:String}{name:Str}{apos:Pos}{f:D->List D->MH->Option (D×MH)}(pa:PlainAttrs T) (slot:Slot T name id) (hty:typeOf (.builtin id)=pure (.type "method_descriptor")) (hm:MtR X id (rDM X.K f)) (ho:DE X o mo)
  (hbase:attributeBase o name X.env (eval o X.env)=eval o X.env) (hline:(apos.endLine==pos.line)=true):DE X (.Call (.Attribute o name apos) [] [] pos) (Bg T f mo (Zr [])):=fun loc mh=>by
 refine Ar (sY pa slot hty hm (ho loc mh) hbase hline) ?_;rintro σ H Q ⟨ρ,d,mh',q,rl,rs,co⟩;obtain ⟨x,m1,eo,q⟩:=Ah q;split at q
 ·rename_i ht;exact ⟨ρ,x,m1,eo,rl,rs,fun H1 ρ1 v e1 rs1 r1=>⟨cQ rs1 r1 ht,ρ1,m1,x,[],d,mh',q,rs1,r1,.nil,co.ev e1⟩⟩
 ·cases q
theorem Xm {id:String}{r r':V->List V->Hp->VK->Prop}(h:MtR X id r) (i:∀ x xs H Q,r' x xs H Q->r x xs H Q):MtR X id r':=fun pins s σ H x xs v us Q I rx rs q=>h pins s σ H x xs v us Q I rx rs (i x xs H Q q)
noncomputable def Bo:D->List D->MH->Option (D×MH)
 | .ref n,[y],mh=>match mh[n]? with
  | some (.lst ds)=>if ds.length < sizeLine then some (.non,mh.set n (.lst (ds++[y]))) else none
  | _=>none
 | _,_,_=>none
theorem Vs:MtR X "list.append" (rDM X.K Bo):=by
 refine Xm Za ?_;rintro x xs H Q ⟨ρ,mh,dx,ds,d,mh',q,rs,rx,r,co⟩
 match ds,q with
 | [y],q =>
  obtain ⟨v,rfl,rv⟩:=Li r;cases rx with
  | @ref n a hn =>
   have q:(match mh[n]? with | some (.lst ds)=>if ds.length < sizeLine then some (D.non,mh.set n (.lst (ds++[y]))) else none | _=>none)=some (d,mh'):=q;split at q
   ·rename_i ds em;split at q
    ·rename_i hz;cases q;obtain ⟨a',ha,us,hu,ru⟩:=rs.at em;rw [hn] at ha;cases ha;exact ⟨a,us,v,rfl,rfl,hu,by rw [← ru.length];exact hz,co _ ρ _ (Ev.lst hu) (rs.setL hn hu (ru.append (.cons rv .nil))) .non⟩
    ·cases q
   ·cases q
  | _=>cases q
 | [],q=>cases dx <;> cases q
 | _::_::_,q=>cases dx <;> cases q
noncomputable def uO:D->MH->Option (D×MH)
 | .int i,mh=>some (.int (-i),mh)
 | _,_=>none
theorem mC:UnR X (unaryOp .USub) (rD1 X.K uO):=by
 rintro pins s σ H x v Q I rx ⟨ρ,mh,dx,d,mh',q,rs,r1,co⟩;cases r1 with
 | int i=>cases q;exact rZ pins s σ H _ v Q I rx ⟨i,rfl,co H ρ _ Ev.refl rs (.int _)⟩
 | _=>cases q
end
section
variable {P:Program}{w:World}
variable {A:Around}{E:Value->Shared->Prop}{s:Shared}
end
section
variable {P:Program}{w:World}{A:Around}{R:Result->Shared->Prop}{I:Addr}{fp wr:List Addr}{G:Array GenState->Array GenState->Prop}{n:Nat}{V:Nat->Value->Prop}{T:Nat->Shared->Prop}
end
section
variable {P:Program}{w:World}{A:Around}{E:Value->Shared->Prop}{s:Shared}
end
section
variable {P:Program}{w:World}{A:Around}{E:Value->Shared->Prop}{s:Shared}
noncomputable def cT (ns:List Int):List Int:=firstMet (fun i=>ns.getD i 0) ns.length
end
section
variable {P:Program}{w:World}{A:Around}{E:Value->Shared->Prop}{s:Shared}
end
section
variable {P:Program}{w:World}{A:Around}{E:Value->Shared->Prop}
end
namespace SI
end SI
section
variable {P:Program}{w:World}{A:Around}{E:Value->Shared->Prop}{s:Shared}{a I:Addr}{o:Obj}{es:Array (Int×Value)}{ep n:Nat}{t:SetTable}{S:Int->Bool}
end
section
variable {P:Program}{w:World}{A:Around}{E:Value->Shared->Prop}{s:Shared}{a I:Addr}{o:Obj}{es:Array (Int×Value)}{ep n:Nat}{t:SetTable}{S:Int->Bool}
end
noncomputable def zR (ns:List Int):List Int:=(cT ns).mergeSort fun a b=>decide (a<=b)
theorem cU {l l':List Int}(p:l.Perm l') (h:l.Pairwise (·<=·)) (h':l'.Pairwise (·<=·)):l=l':=p.eq_of_pairwise (le:=(·<=·)) (fun a b _ _ x y=>Int.le_antisymm x y) h h'
theorem Dg:∀ {us:List Value}{ns:List Int},IntsAre us ns->Vals (ns.map V.int) us
 | _,_,.nil=>.nil
 | _,_,.cons n t h=>.cons ⟨t,rfl⟩ (Dg h)
section
variable {X:Cx}
end
section
variable {P:Program}{w:World}{A:Around}{E:Value->Shared->Prop}{s:Shared}{a b:Addr}{o o':Obj}{es es':Array (Int×Value)}{ep n ep' n':Nat}{t t':SetTable}{S S':Int->Bool}
end
noncomputable def zT (ns ms:List Int):Bool:=ns.all (fun k=>ms.contains k)&&ms.all fun k=>ns.contains k
section
variable {P:Program}{w:World}{K:Type} [DecidableEq K] {knd:KeyKind P w K}{A:Around}{E:Value->Shared->Prop}{s:Shared}
end
section
variable {P:Program}{w:World}{K:Type} [DecidableEq K] {knd:KeyKind P w K}{A:Around}{E:Value->Shared->Prop}{s:Shared}
end
section
variable {P:Program}{w:World}{K:Type} [DecidableEq K] {knd:KeyKind P w K}
end
section
variable {P:Program}{w:World}{K:Type} [DecidableEq K] {knd:KeyKind P w K}{A:Around}{R:Result->Shared->Prop}{I:Addr}{fp wr:List Addr}{G:Array GenState->Array GenState->Prop}{n:Nat}{V:Nat->Value->Prop}{T:Nat->Shared->Prop}
end
section
variable {P:Program}{w:World}{K:Type} [DecidableEq K] {knd:KeyKind P w K}{A:Around}{E:Value->Shared->Prop}{s:Shared}
end
section
variable {X:Cx}
end
noncomputable def intsOf:List D->Option (List Int)
 | []=>some []
 | .int i::r=>match intsOf r with
  | some l=>some (i::l)
  | none=>none
 | _=>none
noncomputable def cV:D->MH->Option (List Int)
 | .ref n,mh=>match mh[n]? with
  | some (.lst o)=>intsOf o
  | _=>none
 | .rol ds,_=>intsOf ds
 | .tup ds,_=>intsOf ds
 | _,_=>none
theorem Hv:∀ (ns:List Int),intsOf (ns.map D.int)=some ns
 | []=>rfl
 | n::r=>by
  show (match intsOf (r.map D.int) with | some l=>some (n::l) | none=>none)=_;rw [Hv r]
theorem Dw:∀ {ds:List D}{ns:List Int},intsOf ds=some ns->ds=ns.map D.int
 | [],ns,h=>by cases h;rfl
 | d::r,ns,h=>by
  cases d with
  | int i =>
   have h:(match intsOf r with | some l=>some (i::l) | none=>none)=some ns:=h;split at h
   ·rename_i l e;cases h;rw [Dw e];rfl
   ·cases h
  | _=>cases h
section
variable {K:PySem.W.Frag}{H:Hp}{ρ:List Addr}{mh:MH}
theorem Gu {ns:List Int}{vs:List V}(h:RDs K H ρ (ns.map D.int) vs):vs=ns.map V.int:=by
 induction ns generalizing vs with
 | nil=>cases h;rfl
 | cons n r ih =>
  cases h with
  | cons a t=>cases a;rw [ih t];rfl
end
noncomputable def mD (x:D) (mh:MH):Option (D×MH):=match cV x mh with
 | some ns=>if ns.length < 4000 then some (.int (cT ns).length,mh) else none
 | none=>none
noncomputable def uP (x y:D) (mh:MH):Option (D×MH):=match cV x mh,cV y mh with
 | some ns,some ms=>if ns.length < 4000/\ms.length < 4000 then some (.bl (zT ns ms),mh) else none
 | _,_=>none
section
variable {X:Cx}{a:Expr}{ma:DM D}{p p2 pos pos2:Pos}
noncomputable def cW (mx my:DM D):DM D:=mx.bnd fun x=>my.bnd fun y=>Zl (uP x y)
end
section
variable {X:Cx}{pins:List (Addr×Obj)}{σ:L2.St}{H:Hp}{s:Shared}
theorem cX (I:Inv X pins σ H s) {A:Around}(hh:A.handled=none) {p:Addr}{ys:List V}(hq:SqL X.K H p ys\/SqT X.K H p ys) {Q:Value->Shared->Prop}{E:Value->Shared->Prop}
  (h:∀ (its:List Value) (St:Nat->Heap->Prop) (h2:Heap),Vals ys its->Walks X.prog X.w A s.heap.objs.size [s.heap.objs.size,p] [s.heap.objs.size] its.length (fun i v=>its[i]?=some v) St->St 0 h2 ->
   (∀ b∈[s.heap.objs.size,p],b < h2.objs.size)->(∀ b o,s.heap.get? b=some o->h2.get? b=some o)->Q (.ref s.heap.objs.size) { s with heap:=h2 }) :
  wpAny (model X.prog X.w) A (pyIter (.ref p)) Q E s:=by
 rcases hq with hq|hq
 ·obtain ⟨its,rv,pl,hz⟩:=I.list hq;have hlt:p < s.heap.objs.size:=by obtain ⟨_,_,e,_⟩:=pl;exact Heap.lt_size e
  refine wpAny_pyIter_list pl.isList ?_;have W:=Walks.list (prog:=X.prog) (w:=X.w) hh s.heap.objs.size p (Nat.ne_of_lt hlt) its.toArray;refine h its (fun i h=>h.IsListIter s.heap.objs.size p i/\h.IsList p its.toArray) _ rv (by simpa using W) ⟨⟨_,Heap.get?_push_size _ rfl,rfl,rfl⟩,pl.isList.push _⟩ (fun b hb=>?_) fun b o e=>Heap.get?_push_of_some _ e
  rw [Heap.size_push];simp at hb;rcases hb with e|e
  ·rw [e];exact Nat.lt_succ_self _
  ·rw [e];exact Nat.lt_succ_of_lt hlt
 ·obtain ⟨its,rv,pl,hz⟩:=I.tuple hq;have pl:s.heap.IsTuple p its.toArray:=pl;have hlt:p < s.heap.objs.size:=by obtain ⟨_,e,_⟩:=id pl;exact Heap.lt_size e
  refine wpAny_pyIter_tuple pl ?_;have W:=Walks.tuple (prog:=X.prog) (w:=X.w) hh s.heap.objs.size p (Nat.ne_of_lt hlt) its.toArray;refine h its (fun i h=>h.IsTupleIter s.heap.objs.size p i/\h.IsTuple p its.toArray) _ rv (by simpa using W) ⟨⟨_,Heap.get?_push_size _ rfl,rfl,rfl⟩,pl.push _⟩ (fun b hb=>?_) fun b o e=>Heap.get?_push_of_some _ e
  rw [Heap.size_push];simp at hb;rcases hb with e|e
  ·rw [e];exact Nat.lt_succ_self _
  ·rw [e];exact Nat.lt_succ_of_lt hlt
theorem cY {h2 h':Heap}(hk:∀ b o,b ∉ [s.heap.objs.size]->h2.get? b=some o->h'.get? b=some o) (h1:∀ b o,s.heap.get? b=some o->h2.get? b=some o):∀ b o,s.heap.get? b=some o->h'.get? b=some o :=
 fun b o e=>hk b o (fun hm=>by rw [List.mem_singleton.mp hm] at e;exact Nat.lt_irrefl _ (Heap.lt_size e)) (h1 b o e)
end
theorem Io:∀ {ns:List Int}{its:List Value}{i:Nat}{v:Value},Vals (ns.map V.int) its->its[i]?=some v->∃ n t,ns[i]?=some n/\v=.int n t
 | [],_,_,_,.nil,e=>by simp at e
 | n::r,_,0,_,.cons h t,e=>by
  obtain ⟨k,rfl⟩:=h;cases e;exact ⟨n,k,rfl,rfl⟩
 | n::r,_,i+1,_,.cons h t,e=>by
  obtain ⟨m,k,h1,h2⟩:=Io (i:=i) t (by simpa using e);exact ⟨m,k,by simpa using h1,h2⟩
section
variable {X:Cx}
end
noncomputable def Te:Int->List Int->Int
 | m,[]=>m
 | m,x::r=>Te (if x < m then x else m) r
theorem Ip (bt:Nat->Nat->Bool) (f:Int->List Int->Int) (ns:List Int) (b:Int->Int->Bool) (hb:∀ i j x y,ns[i]?=some x->ns[j]?=some y->bt i j=b x y) (f0:∀ m,f m []=m) (f1:∀ m l x,f m (l++[x])=if b x (f m l)=true then x else f m l) :
  ∀ (k:Nat) (h:k < ns.length),∀ m r,ns=m::r->ns[argBest bt k]?=some (f m (r.take k))
 | 0,h,m,r,e=>by
  subst e;simp [argBest,f0]
 | k+1,h,m,r,e=>by
  have ih:=Ip bt f ns b hb f0 f1 k (by omega) m r e;have hk:k < r.length:=by rw [e,List.length_cons] at h;omega
  have e1:ns[k+1]?=some r[k]:=by rw [e,List.getElem?_cons_succ,List.getElem?_eq_getElem hk]
  have e2:r.take (k+1)=r.take k++[r[k]]:=by rw [List.take_add_one,List.getElem?_eq_getElem hk];rfl
  have e3:=hb (k+1) (argBest bt k) _ _ e1 ih;rw [e2,f1];unfold argBest;rw [e3];split
  ·exact e1
  ·exact ih
theorem Ow:∀ (l:List Int) (m x:Int),Te m (l++[x])=if decide (x < Te m l)=true then x else Te m l
 | [],m,x=>by by_cases h:x < m <;> simp [Te,h]
 | y::l,m,x=>by
  show Te _ (l++[x])=_;rw [Ow l];rfl
noncomputable def Vt (f:Int->List Int->Int):List D->MH->Option (D×MH)
 | [x],mh=>match Ff x mh with
  | some ds=>match intsOf ds with
   | some (n::r)=>some (.int (f n r),mh)
   | _=>none
  | none=>none
 | _,_=>none
theorem Tf {f:Int->List Int->Int}{ds:List D}{mh mh':MH}{d:D}(h:Vt f ds mh=some (d,mh')):∃ x n r,ds=[x]/\Ff x mh=some ((n::r).map D.int)/\d=.int (f n r)/\mh'=mh:=by
 match ds,h with
 | [x],h =>
  have h:(match Ff x mh with | some ds=>(match intsOf ds with | some (n::r)=>some (D.int (f n r),mh) | _=>none) | none=>none)=some (d,mh'):=h;split at h
  ·rename_i es e;split at h
   ·rename_i n r eb;cases h;rw [Dw eb] at e;exact ⟨x,n,r,rfl,e,rfl,rfl⟩
   ·cases h
  ·cases h
 | [],h=>cases h
 | _::_::_,h=>cases h
noncomputable def minD:List D->MH->Option (D×MH):=Vt Te
section
variable {X:Cx}
theorem mF (hc:X.calm=true) {id:String}{f:Int->List Int->Int}{op:CmpOp}{b:Int->Int->Bool}(f0:∀ m,f m []=m) (f1:∀ m l x,f m (l++[x])=if b x (f m l)=true then x else f m l)
  (cmp:∀ {A:Around} {x y:Int} {t u:Tok} {Q:Value->Shared->Prop} {E:Value->Shared->Prop} {s:Shared},Q (.bool (b x y)) s->wpAny (model X.prog X.w) A (richCompare op (.int x t) (.int y u)) Q E s)
  (call_w:∀ {A:Around} {x:Value} {Q:Value->Shared->Prop} {E:Value->Shared->Prop} {s:Shared},wpAny (model X.prog X.w) A.in1 (pyIter x) (fun it s₂=>∃ I fp wr n P St bt,it=.ref I/\Walks X.prog X.w A.in1 I fp wr n P St/\St 0 s₂.heap/\(∀ b∈fp,b < s₂.heap.objs.size)/\0 < n/\CmpOf X.prog X.w A.in1 op P bt /\
   ∀ v h' tk,P (argBest bt (n - 1)) v->(∀ b o,b ∉ wr->s₂.heap.get? b=some o->h'.get? b=some o)->Q v { s₂ with heap:=h',toks:=tk }) E s->wpAny (model X.prog X.w) A (call (.builtin id) [x]) Q E s) :
  Ax X (.builtin id) (rDs X.K (Vt f)):=by
 rintro pins s σ H xs us Q I r ⟨ρ,mh,ds,d,mh',q,rs,rd,co⟩;obtain ⟨x,n,l,rfl,e,rfl,rfl⟩:=Tf q;obtain ⟨v,rfl,rx⟩:=Li rd;obtain ⟨u,rfl,ru⟩:=vals1 r;obtain ⟨p,ys,rfl,hq,ry⟩:=Kq rs rx e;cases ru;rw [Gu ry] at hq;refine call_w (cX I (A:=X.A.in1) (I.ok.hd hc) hq fun its St h2 rv W st hfp hk=>?_);have hlen:(n::l).length=its.length:=by have:=rv.length;simpa using this
 refine ⟨_,_,_,its.length,_,St,fun i j=>(match (n::l)[i]?,(n::l)[j]? with | some x,some y=>b x y | _,_=>false),rfl,W,st,hfp,by rw [← hlen];simp,fun i j vi vj s' Q' E' hi hj hQ=>?_,fun v h' tk hP hk'=>?_⟩
 ·obtain ⟨a,t,e1,rfl⟩:=Io rv hi;obtain ⟨a',t',e2,rfl⟩:=Io rv hj;simp only [e1,e2] at hQ;exact cmp hQ
 ·have ar:=Ip (fun i j=>(match (n::l)[i]?,(n::l)[j]? with | some x,some y=>b x y | _,_=>false)) f (n::l) b (fun i j x y e1 e2=>by simp only [e1,e2]) f0 f1 (its.length - 1) (by rw [hlen];simp at hlen;omega) n l rfl;obtain ⟨a,t,e1,rfl⟩:=Io rv hP;rw [ar] at e1;have e3:l.take (its.length - 1)=l:=List.take_of_length_le (by rw [← hlen];simp);rw [e3] at e1;cases e1;exact ⟨.int _,H,I.kept (t':=tk) (cY hk' hk),⟨t,rfl⟩,co H ρ _ Ev.refl rs (.int _)⟩
end
section
variable {X:Cx}
theorem Zo (hc:X.calm=true):Ax X (.builtin "min") (rDs X.K minD):=mF (op:=.Lt) (b:=fun x m=>decide (x < m)) hc (fun _=>rfl) (fun m l x=>Ow l m x) (fun h=>PyProof.Rows.lt_int h) fun h=>call_min_walk h
theorem RDs.dropLast {K:PySem.W.Frag}{H:Hp}{ρ:List Addr}:∀ {ds:List D}{vs:List V},RDs K H ρ ds vs->RDs K H ρ ds.dropLast vs.dropLast
 | _,_,.nil=>.nil
 | _,_,.cons _ .nil=>.nil
 | _,_,.cons r (.cons r2 t)=>.cons r (RDs.dropLast (.cons r2 t))
noncomputable def Qo:D->List D->MH->Option (D×MH)
 | .ref n,[],mh=>match mh[n]? with
  | some (.lst ds)=>(match ds[ds.length - 1]? with | some y=>some (y,mh.set n (.lst ds.dropLast)) | none=>none)
  | _=>none
 | _,_,_=>none
theorem mG:MtR X "list.pop" (rDM X.K Qo):=by
 refine Xm sZ ?_;rintro x xs H Q ⟨ρ,mh,dx,ds,d,mh',q,rs,rx,r,co⟩
 match ds,q with
 | [],q =>
  cases r;cases rx with
  | @ref n a hn =>
   simp only [Qo] at q;split at q
   ·rename_i ds em;split at q
    ·rename_i y ey;cases q;obtain ⟨a',ha,us,hu,ru⟩:=rs.at em;rw [hn] at ha;cases ha;obtain ⟨w',hw,rw'⟩:=ru.get ey;refine ⟨a,us,w',rfl,rfl,hu,by rw [← ru.length];exact hw,?_⟩;exact co _ ρ _ (Ev.lst hu) (rs.setL hn hu ru.dropLast) (rw'.mono (Ev.lst hu))
    ·cases q
   ·cases q
  | _=>cases q
 | _::_,q=>cases dx <;> simp [Qo] at q
end
section
variable {X:Cx}{pins:List (Addr×Obj)}{σ:L2.St}{H:Hp}{s:Shared}{fp:List Addr}{h':Heap}
end
section
variable {prog:Program}{w:World}{A:Around}{E:Value->Shared->Prop}{s:Shared}
end
section
variable {prog:Program}{w:World}{A:Around}{E:Value->Shared->Prop}{s:Shared}
end
section
variable {X:Cx}
end
section
variable {X:Cx}
theorem Nt {prog:Program}{w:World}{A:Around}{E:Value->Shared->Prop}{s:Shared}{r:Addr}{a b c:Int}{t u v:Tok}{n:Nat}{Q:List Value->Shared->Prop}(hh:A.handled=none) (hr:IsRange s.heap r a b c t u v) (hsmall:Builtin.Range.small a b c=true)
  (hn:Builtin.Range.rangeSize a b c=n) (hlen:n<=2 ^ 24)
  (hQ:∀ h' tk acc,(∀ b o,s.heap.get? b=some o->h'.get? b=some o)->ItemsOf (fun i v=>∃ t,v=.int (a+i * c) t) acc n->Q acc.toList { s with heap:=h',toks:=tk }):wpAny (model prog w) A (collect (.ref r)) Q E s:=by
 have key:∀ R:Result->Shared->Prop,(∀ h' tk acc' c',(∀ b o,b≠s.heap.objs.size->(s.heap.push { cls:=.type "list",data:=.seq ([]:List Value).toArray }).get? b=some o->h'.get? b=some o)->h'.get? s.heap.objs.size=some { cls:=.type "list",dict:=none,data:=.seq acc' c',slots:=#[] } ->
   ItemsOf (fun i v=>∃ t,v=.int (a+i * c) t) acc' n->R (.ok (.ret (.ref s.heap.objs.size))) { s with heap:=h',toks:=tk })->codeAny (model prog w) A (.builtin "proto.collect" ⟨[.ref r],[]⟩) R s:=fun R hR=>by
  refine codeAny_builtin F.entry_proto_collect ?_;rw [Around.under_plainId F.plain_proto_collect _]
  show wpAny _ A.in1 (newList [] >>= fun l=>again (.builtin "list.__iadd__" ⟨[l,.ref r],[]⟩)) _ _ s;refine wpAny_bind (wpAny_newObj_type ?_);refine wpAny_pure ⟨plainId_quiet F.plain_list_iadd _,codeAny_builtin F.entry_list_iadd ?_⟩;rw [Around.under_plainId F.plain_list_iadd _]
  have hS:(s.heap.push { cls:=.type "list",data:=.seq ([]:List Value).toArray }).get? s.heap.objs.size=some { cls:=.type "list",data:=.seq #[] 0 }:=Heap.get?_push_size _ rfl;show wpAny _ A.in1 (Builtin.List.listExtendWith (.ref s.heap.objs.size) (.ref r) (.ref s.heap.objs.size)) _ _ _
  exact wpAny_extend_range (A:=A) (R:=R) (s:={ s with heap:=s.heap.push { cls:=.type "list",data:=.seq ([]:List Value).toArray } }) hh (Heap.get?_push_of_some _ hr) hsmall hn hlen s.heap.objs.size _ 0 hS hR
 unfold collect;refine wpAny_bind (wpAny_runValue (key _ fun h' tk acc' c' hk hS' hacc=>?_));show wpAny _ A (load s.heap.objs.size >>= _) _ _ _;refine wpAny_bind (wpAny_load hS' ?_);exact wpAny_pure (hQ h' tk acc' (fun b o e=>hk b o (Nat.ne_of_lt (Heap.lt_size e)) (Heap.get?_push_of_some _ e)) hacc)
theorem Ln (r:Addr) (a b c:Int) (t u v:Tok) (n:Nat) (hsmall:Builtin.Range.small a b c=true) (hn:Builtin.Range.rangeSize a b c=n) (hlen:n<=2 ^ 24) :
  Meets (Builtin.«tuple.__new__» ⟨[.type "tuple",.ref r],[]⟩) (fun A R s=>A.handled=none/\IsRange s.heap r a b c t u v/\∀ (h':Heap) (tk:Nat) (acc:Array Value),(∀ b o,s.heap.get? b=some o->h'.get? b=some o)->ItemsOf (fun i v=>∃ t,v=.int (a+i * c) t) acc n ->
    R (.ok (.ret (.ref h'.objs.size))) { s with heap:=h'.push { cls:=.type "tuple",data:=.seq acc },toks:=tk }) :=
 .of_wp fun prog w A R s h=>by
  obtain ⟨hh,hr,h⟩:=h;have hsub:=sub_tuple_self;have hinit:=init_tuple_lookup;have hmh:=madeHere_tuple
  have hT:s.TypeIs (.ref r) "range":=⟨_,hr,rfl⟩
  have hh1:A.in1.handled=none:=hh;wp_walk using wpAny_typeOf hT,Nt hh1 hr hsmall hn hlen
  intro h' tk acc hk hacc;show wpAny _ _ (Builtin.Tuple.tupleExact acc.toList.toArray >>= fun v=>ret v) _ _ _;unfold Builtin.Tuple.tupleExact;refine wpAny_bind (wpAny_newObj_type (wpAny_pure ⟨_,rfl,?_⟩) (show acc.toList.toArray.size<=sizeLine by simp only [Array.toArray_toList];rw [hacc.1,sizeLine_eq];omega));have e:acc.toList.toArray=acc:=by simp
  rw [e];exact h h' tk acc hk hacc
theorem Nu {prog:Program}{w:World}{A:Around}{E:Value->Shared->Prop}{s:Shared}{r:Addr}{a b c:Int}{t u v:Tok}{n:Nat}{Q:Value->Shared->Prop}(hh:A.handled=none) (hr:IsRange s.heap r a b c t u v) (hsmall:Builtin.Range.small a b c=true)
  (hn:Builtin.Range.rangeSize a b c=n) (hlen:n<=2 ^ 24)
  (h:∀ (h':Heap) (tk:Nat) (acc:Array Value),(∀ b o,s.heap.get? b=some o->h'.get? b=some o)->ItemsOf (fun i v=>∃ t,v=.int (a+i * c) t) acc n->Q (.ref h'.objs.size) { s with heap:=h'.push { cls:=.type "tuple",data:=.seq acc },toks:=tk }) :
  wpAny (model prog w) A (call (.type "tuple") [.ref r]) Q E s:=by
 refine callType_new F.called_tuple (by decide) (F.typeCall_tuple_1 _) (F.newCall_tuple_1 _) (fun obj=>F.args_object_init_2 obj _) F.entry_tuple_new
  (Ln r a b c t u v n hsmall hn hlen) ⟨hh,hr,fun h' tk acc hk hacc=>⟨⟨_,Heap.get?_push_size _ rfl,rfl⟩,h h' tk acc hk hacc⟩⟩
theorem Hw {a:Int}{n:Nat}{acc:Array Value}(h:ItemsOf (fun i v=>∃ t,v=.int (a+i * 1) t) acc n):Vals ((List.range n).map fun (i:Nat)=>V.int (a+(i:Int))) acc.toList:=by
 have key:∀ (m:Nat) (l:List Value) (j:Nat),l.length=m->(∀ (i:Nat) (v:Value),l[i]?=some v->∃ t,v=Value.int (a+((j+i:Nat):Int)) t)->Vals ((List.range' j m).map fun (i:Nat)=>V.int (a+(i:Int))) l:=by
  intro m
  induction m with
  | zero=>intro l j hl _;rw [List.length_eq_zero_iff.mp hl];exact .nil
  | succ m ih =>
   intro l j hl hv
   match l,hl with
   | x::r,hl =>
    rw [List.range'_succ,List.map_cons];refine .cons ?_ (ih r (j+1) (by simpa using hl) fun i v e=>?_)
    ·obtain ⟨t,e⟩:=hv 0 x rfl;exact ⟨t,e⟩
    ·obtain ⟨t,q⟩:=hv (i+1) v (by simpa using e);have e2:j+(i+1)=j+1+i:=by omega
     rw [e2] at q;exact ⟨t,q⟩
 rw [List.range_eq_range'];refine key n acc.toList 0 (by rw [Array.length_toList];exact h.1) fun i v e=>?_
 obtain ⟨t,q⟩:=h.2 i v (by simpa using e);rw [Int.mul_one] at q;rw [Nat.zero_add];exact ⟨t,q⟩
theorem Ox:Ax X (.type "range") (fun xs H Q=>∃ j:Int,xs=[.int j]/\-(2 ^ 62)<=j/\j < 2 ^ 62/\∀ p,H p=none->Q (.ref p) (upd H p (.rng 0 j))):=by
 rintro pins s σ H xs us Q I r ⟨j,e,h1,h2,q⟩;subst e;obtain ⟨u,rfl,ru⟩:=vals1 r;obtain ⟨t,rfl⟩:=ru;exact call_range_1 ⟨.ref s.heap.objs.size,_,I.laid (o:=.rng 0 j) (fun b o e=>Heap.get?_push_of_some _ e) (Nat.le_refl _) ⟨_,_,_,Heap.get?_push_size _ rfl⟩,rfl,q _ (I.hok.fresh (Nat.le_refl _))⟩
theorem Oz {j:Int}(h1:-(2 ^ 62)<=j) (h2:j < 2 ^ 62):Builtin.Range.small 0 j 1=true/\Builtin.Range.rangeSize 0 j 1=(j.toNat:Int):=by
 refine ⟨small_one (by omega) (by omega) h1 h2,?_⟩;rw [rangeSize_one];split <;> omega
theorem Qp (hc:X.calm=true):Ax X (.type "list") (fun xs H Q=>∃ a j,xs=[.ref a]/\H a=some (.rng 0 j)/\-(2 ^ 62)<=j/\j<=1000000/\∀ p,H p=none->Q (.ref p) (upd H p (.lst ((List.range j.toNat).map fun (i:Nat)=>V.int (0+(i:Int)))))):=by
 rintro pins s σ H xs us Q I r ⟨a,j,e,hH,h1,h2,q⟩;subst e;obtain ⟨u,rfl,ru⟩:=vals1 r;cases ru;obtain ⟨t,u,v,hr⟩:=I.hok a _ hH;obtain ⟨f1,f2⟩:=Oz h1 (show j < 2 ^ 62 by omega);refine call_list_range (I.ok.hd hc) hr f1 f2 (by omega) fun h' tk acc c hk hS hacc=>?_
 exact ⟨.ref s.heap.objs.size,_,I.laid (t':=tk) (o:=.lst ((List.range j.toNat).map fun (i:Nat)=>V.int (0+(i:Int)))) hk (Nat.le_refl _) ⟨by simp [sizeLine_eq];omega,acc.toList,c,Hw hacc,by simpa using hS⟩,rfl,q _ (I.hok.fresh (Nat.le_refl _))⟩
theorem Nv (hc:X.calm=true):Ax X (.type "tuple") (fun xs H Q=>∃ a j,xs=[.ref a]/\H a=some (.rng 0 j)/\-(2 ^ 62)<=j/\j<=1000000/\∀ p,H p=none->Q (.ref p) (upd H p (.tup ((List.range j.toNat).map fun (i:Nat)=>V.int (0+(i:Int)))))):=by
 rintro pins s σ H xs us Q I r ⟨a,j,e,hH,h1,h2,q⟩;subst e;obtain ⟨u,rfl,ru⟩:=vals1 r;cases ru;obtain ⟨t,u,v,hr⟩:=I.hok a _ hH;obtain ⟨f1,f2⟩:=Oz h1 (show j < 2 ^ 62 by omega);refine Nu (I.ok.hd hc) hr f1 f2 (by omega) fun h' tk acc hk hacc=>?_
 have I1:Inv X pins σ H { s with heap:=h',toks:=tk }:=I.kept (t':=tk) hk;exact ⟨.ref h'.objs.size,_,I1.laid (t':=tk) (o:=.tup ((List.range j.toNat).map fun (i:Nat)=>V.int (0+(i:Int)))) (fun b o e=>Heap.get?_push_of_some _ e) (Nat.le_refl _) ⟨by simp [sizeLine_eq];omega,acc.toList,Hw hacc,by simpa using Pq.new h' acc⟩,rfl,q _ (I1.hok.fresh (Nat.le_refl _))⟩
noncomputable def Dy (x:D) (mh:MH):Option (D×MH):=match x with
 | .int j=>if -(2 ^ 62)<=j/\j<=1000000 then some (.ref mh.length,mh++[.lst (Br 0 j.toNat)]) else none
 | _=>none
noncomputable def Kr (x:D) (mh:MH):Option (D×MH):=match x with
 | .int j=>if -(2 ^ 62)<=j/\j<=1000000 then some (.tup (Br 0 j.toNat),mh) else none
 | _=>none
theorem O1 {K:PySem.W.Frag}{H:Hp}{ρ:List Addr}(n:Nat):RDs K H ρ (Br 0 n) ((List.range n).map fun (i:Nat)=>V.int (0+(i:Int))):=by
 unfold Br;generalize List.range n=l
 induction l with
 | nil=>exact .nil
 | cons i r ih=>exact .cons (.int _) ih
variable {a:Expr}{ma:DM D}{p p2 pos pos2:Pos}
theorem Vu (hc:X.calm=true) (hg:Gl X "list") (hm:X.mg "list"=none) (hg2:Gl X "range") (hm2:X.mg "range"=none) (ha:DE X a ma) (hs:starEach [a] X.env=(false,eval a X.env)::starEach [] X.env) :
  DE X (.Call (.Name "list" p) [.Call (.Name "range" p2) [a] [] pos2] [] pos) (ma.bnd fun x=>Zl (Dy x)):=fun loc mh =>
 Ar (Df (Qp hc) hg hm (by decide +kernel) (Ed (Df Ox hg2 hm2 boot_range (Ed (ha loc mh) Fz hs) (by decide) (by decide) hs) Fz)) fun σ H Q ⟨ρ,d,mh',q,rl,rs,co⟩=>by
  obtain ⟨x,m1,ea,q⟩:=Ah q;refine ⟨ρ,x,m1,ea,rl,rs,fun H1 ρ1 v e1 rs1 r1=>?_⟩;have q:Dy x m1=some (d,mh'):=q;cases r1 with
  | int j =>
   simp only [Dy] at q;split at q
   ·rename_i hl;cases q;exact ⟨j,rfl,hl.1,by omega,fun b hb=>⟨b,j,rfl,Ak,hl.1,hl.2,Co.newL (rs1.new hb) (O1 _) (co.ev (e1.trans (Ev.new hb)))⟩⟩
   ·cases q
  | _=>cases q
theorem Zq (hc:X.calm=true) (hg:Gl X "tuple") (hm:X.mg "tuple"=none) (hg2:Gl X "range") (hm2:X.mg "range"=none) (ha:DE X a ma) (hs:starEach [a] X.env=(false,eval a X.env)::starEach [] X.env) :
  DE X (.Call (.Name "tuple" p) [.Call (.Name "range" p2) [a] [] pos2] [] pos) (ma.bnd fun x=>Zl (Kr x)):=fun loc mh =>
 Ar (Df (Nv hc) hg hm (by decide +kernel) (Ed (Df Ox hg2 hm2 boot_range (Ed (ha loc mh) Fz hs) (by decide) (by decide) hs) Fz)) fun σ H Q ⟨ρ,d,mh',q,rl,rs,co⟩=>by
  obtain ⟨x,m1,ea,q⟩:=Ah q;refine ⟨ρ,x,m1,ea,rl,rs,fun H1 ρ1 v e1 rs1 r1=>?_⟩;have q:Kr x m1=some (d,mh'):=q;cases r1 with
  | int j =>
   simp only [Kr] at q;split at q
   ·rename_i hl;cases q;exact ⟨j,rfl,hl.1,by omega,fun b hb=>⟨b,j,rfl,Ak,hl.1,hl.2,Co.newT (rs1.new hb) (O1 _) (co.ev (e1.trans (Ev.new hb)))⟩⟩
   ·cases q
  | _=>cases q
end
end DL
namespace DL
open PySem PySem.Spec PyProof.Rows L2 PySem.W
noncomputable def sortI (ns:List Int):List Int:=ns.mergeSort fun a b=>decide (a<=b)
theorem sortI_perm (ns:List Int):(sortI ns).Perm ns:=List.mergeSort_perm _ _
theorem Tg (ns:List Int):(sortI ns).Pairwise (·<=·):=by
 have h:=List.pairwise_mergeSort (le:=fun a b:Int=>decide (a<=b)) (fun a b c h1 h2=>by simp at *;omega) (fun a b=>by simp;omega) ns;exact h.imp fun h=>by simpa using h
theorem Ir {ns l:List Int}(p:l.Perm ns) (h:l.Pairwise (·<=·)):l=sortI ns:=cU (p.trans (sortI_perm ns).symm) h (Tg ns)
noncomputable def Ep:List Int->List Int->Bool
 | [],[]=>false
 | [],_::_=>true
 | _::_,[]=>false
 | x::xs,y::ys=>if (x==y)=true then Ep xs ys else decide (x < y)
theorem O3:∀ (fuel n r:Nat),minRun' fuel n r<=n+r
 | 0,n,r=>Nat.le_refl _
 | f+1,n,r=>by
  rw [minRun'_succ];split
  ·exact Nat.le_refl _
  ·have:=O3 f (n / 2) (max r (n % 2));omega
section
variable {prog:Program}{w:World}{A:Around}{E:Value->Shared->Prop}{κ:SortKind}{it:Array Keyed}{s:Shared}
end
theorem Eg:∀ {ns:List Int}{us:List Value},Vals (ns.map V.int) us->IntsAre us ns
 | [],_,.nil=>.nil
 | _::_,_,.cons ⟨t,e⟩ h=>by subst e;exact .cons _ _ (Eg h)
noncomputable def TI (h:Heap) (v:Value) (ns:List Int):Prop:=∃ (a:Addr) (o:Obj) (its:List Value) (n:Nat),v=.ref a/\h.get? a=some o/\o.cls=.type "tuple"/\o.data=.seq its.toArray n/\IntsAre its ns
section
variable {prog:Program}{w:World}{A:Around}{E:Value->Shared->Prop}{s:Shared}
theorem Ti {fin:Bool}{Q:Bool->Shared->Prop}:∀ {xs ys:List Value}{ns ms:List Int},IntsAre xs ns->IntsAre ys ms->∀ i,fin=decide (xs.length < ys.length)->Q (Ep ns ms) s->KatLex prog w A true fin Q (xs.zip ys) i s
 | _,_,_,_,.nil,.nil,i,e,h=>by subst e;exact h
 | _,_,_,_,.nil,.cons m u r,i,e,h=>by subst e;exact kat_nil (by simpa [Ep] using h)
 | _,_,_,_,.cons n t r,.nil,i,e,h=>by subst e;exact kat_nil (by simpa [Ep] using h)
 | _,_,_,_,.cons (vs:=vs) n t r,.cons (vs:=us) m u q,i,e,h=>by
  have h:Q (if (n==m)=true then Ep _ _ else decide (n < m)) s:=h;refine kat_cons (wpAny_eqBool_int (kat_go (fun e1=>kat_yes ?_) fun e1=>kat_no ?_))
  ·rw [if_pos e1] at h;exact Ti r q (i+1) (by rw [e];simp) h
  ·rw [if_neg (by rw [e1];simp)] at h;cases hb:(true&&i==0) with
   | true=>exact oneLt_int h
   | false=>exact kat_one _ _ (lt_int h)
theorem zU {v u:Value}{ns ms:List Int}{Q:Bool->Shared->Prop}(h1:TI s.heap v ns) (h2:TI s.heap u ms) (h:Q (Ep ns ms) s):wpAny (model prog w) A (keyLt' (tuples' true) v u) Q E s:=by
 obtain ⟨a,o,its,n,rfl,e1,_,e3,e4⟩:=h1;obtain ⟨a',o',its',n',rfl,e1',_,e3',e4'⟩:=h2;exact kat_lt e1 e3 e1' e3' (by simpa using Ti e4 e4' 0 rfl h)
end
noncomputable def Gz:List D->MH->Option (D×MH)
 | [.ref n],mh=>match mh[n]? with
  | some (.lst ds)=>match intsOf ds with
   | some ns=>if ns.length < 64 then some (.ref mh.length,mh++[.lst ((sortI ns).map .int)]) else none
   | none=>none
  | _=>none
 | _,_=>none
theorem Qq {ds:List D}{mh mh':MH}{d:D}(q:Gz ds mh=some (d,mh')):∃ n,ds=[.ref n]:=by
 unfold Gz at q;split at q
 ·exact ⟨_,rfl⟩
 ·cases q
theorem Iu (h:Heap) (vs:List Value) (out:Array Value):∃ c,(∀ b o,h.get? b=some o->(sortedAll h vs out).get? b=some o)/\(sortedAll h vs out).get? (h.objs.size+1)=some (seqObj "list" out c):=by
 have hsz:((h.push (seqObj "list" #[] 0)).update h.objs.size (Obj.mapSeq (·++vs.toArray))).objs.size=h.objs.size+1:=by
  rw [Heap.size_update,size_push']
 have hoL:(((h.push (seqObj "list" #[] 0)).update h.objs.size (Obj.mapSeq (·++vs.toArray))).push (seqObj "list" vs.toArray 0)).get? (h.objs.size+1)=some (seqObj "list" vs.toArray 0):=by
  rw [← hsz];exact Heap.get?_push_size _ rfl
 have keep:∀ b o,h.get? b=some o->(((h.push (seqObj "list" #[] 0)).update h.objs.size (Obj.mapSeq (·++vs.toArray))).push (seqObj "list" vs.toArray 0)).get? b=some o:=fun b o q=>by
  have hlt:b < h.objs.size:=Heap.lt_size q;rw [Heap.get?_push_ne _ _ _ (by rw [hsz];exact Nat.ne_of_lt (Nat.lt_succ_of_lt hlt)),Heap.get?_update_ne _ _ _ _ (Nat.ne_of_lt hlt),Heap.get?_push_ne _ _ _ (Nat.ne_of_lt hlt)];exact q
 obtain ⟨c,at'⟩:=sortedHeap_at (a:=h.objs.size+1) (vs:=vs) (n:=0) (out:=out) hoL;refine ⟨c,fun b o q=>?_,at'⟩;unfold sortedAll;rw [sortedHeap_old (Nat.ne_of_lt (Nat.lt_succ_of_lt (Heap.lt_size q))) (Heap.lt_size (keep b o q))];exact keep b o q
theorem Et {K:PySem.W.Frag}{H:Hp}{ρ:List Addr}:∀ (ns:List Int),RDs K H ρ (ns.map D.int) (ns.map V.int)
 | []=>.nil
 | _::r=>.cons (.int _) (Et r)
section
variable {X:Cx}
theorem Qs:Ax X (.builtin "sorted") (rDs X.K Gz):=by
 rintro pins s σ H xs us Q I r ⟨ρ,mh,ds,d,mh',q,rs,rd,co⟩;obtain ⟨n,rfl⟩:=Qq q
 ·obtain ⟨v,rfl,rx⟩:=Li rd;obtain ⟨u,rfl,ru⟩:=vals1 r
  have q:(match mh[n]? with
   | some (.lst ds)=>(match intsOf ds with
    | some ns=>if ns.length < 64 then some (D.ref mh.length,mh++[.lst ((sortI ns).map .int)]) else none
    | none=>none)
   | _=>none)=some (d,mh'):=q
  split at q
  ·rename_i es en;obtain ⟨p,ys,rfl,hq,ry⟩:∃ p ys,v=.ref p/\SqL X.K H p ys/\RDs X.K H ρ es ys:=by
    cases rx with
    | ref h =>
     obtain ⟨a',ha,ro⟩:=rs.at en;rw [h] at ha;cases ha;obtain ⟨xs,q,r⟩:=ro.read;exact ⟨_,xs,rfl,q,r⟩
   cases ru;obtain ⟨its,rv,pl,hz⟩:=I.list hq;split at q
   ·rename_i ns ei;split at q
    ·rename_i h64;cases q;rw [Dw ei] at ry;rw [Gu ry] at hq rv;have hlen:=rv.length;refine sorted_ints pl.isList (Eg rv) (by simp at hlen;omega) fun out ns' a1 a2 a3=>?_
     have es':ns'=sortI ns:=Ir a2 a3;subst es';obtain ⟨c,kp,at'⟩:=Iu s.heap its out;refine ⟨.ref (s.heap.objs.size+1),_,I.laid (t':=s.toks) (a:=s.heap.objs.size+1) (o:=.lst ((sortI ns).map V.int)) kp (Nat.le_succ _) ⟨?_,out.toList,c,Dg a1,?_⟩,rfl,Co.newL rs (Et (sortI ns)) co _ (I.hok.fresh (Nat.le_succ _))⟩
     ·rw [List.length_map,(sortI_perm ns).length_eq,sizeLine_eq];omega
     ·rw [at']
    ·cases q
   ·cases q
  ·cases q
end
noncomputable abbrev TX:=Str×List Int
noncomputable def Eu (a b:TX):Bool:=if a.1=b.1 then Ep a.2 b.2 else decide (a.1.cps.toList < b.1.cps.toList)
theorem Lp:∀ {a b:List Int},a≠b->Ep b a=!Ep a b
 | [],[],h=>absurd rfl h
 | [],_::_,_=>rfl
 | _::_,[],_=>rfl
 | x::xs,y::ys,h=>by
  show (if (y==x)=true then Ep ys xs else decide (y < x))=!(if (x==y)=true then Ep xs ys else decide (x < y))
  by_cases e:x=y
  ·subst e;rw [if_pos (by simp),if_pos (by simp)];exact Lp fun q=>h (by rw [q])
  ·rw [if_neg (by simpa using fun q=>e q.symm),if_neg (by simpa using e)]
   by_cases l:x < y
   ·rw [decide_eq_true l,decide_eq_false (by omega)];rfl
   ·rw [decide_eq_false l,decide_eq_true (by omega)];rfl
theorem Hx:∀ {a b c:List Int},Ep a b=true->Ep b c=true->Ep a c=true
 | [],[],_,h,_=>by cases h
 | [],_::_,[],_,h=>by cases h
 | [],_::_,_::_,_,_=>rfl
 | _::_,[],_,h,_=>by cases h
 | _::_,_::_,[],_,h=>by cases h
 | x::xs,y::ys,z::zs,h1,h2=>by
  have g1:(if (x==y)=true then Ep xs ys else decide (x < y))=true:=h1;have g2:(if (y==z)=true then Ep ys zs else decide (y < z))=true:=h2;show (if (x==z)=true then Ep xs zs else decide (x < z))=true
  by_cases e1:x=y
  ·subst e1;rw [if_pos (by simp)] at g1
   by_cases e2:x=z
   ·subst e2;rw [if_pos (by simp)] at g2;rw [if_pos (by simp)];exact Hx g1 g2
   ·rw [if_neg (by simpa using e2)] at g2;rw [if_neg (by simpa using e2)];exact g2
  ·rw [if_neg (by simpa using e1)] at g1;have l1:=of_decide_eq_true g1
   by_cases e2:y=z
   ·subst e2;rw [if_neg (by simpa using e1)];exact g1
   ·rw [if_neg (by simpa using e2)] at g2;have l2:=of_decide_eq_true g2;rw [if_neg (by simp;omega)];exact decide_eq_true (by omega)
theorem mH {a b:Str}(h:a.cps.toList=b.cps.toList):a=b:=by
 cases a;cases b;congr;exact Array.toList_inj.mp h
theorem Fp {a b:TX}(h:a≠b):Eu b a=!Eu a b:=by
 unfold Eu
 by_cases e:a.1=b.1
 ·rw [if_pos e,if_pos e.symm];exact Lp fun q=>h (Prod.ext e q)
 ·rw [if_neg e,if_neg fun q=>e q.symm]
  by_cases l:a.1.cps.toList < b.1.cps.toList
  ·rw [decide_eq_true l,decide_eq_false (List.lt_asymm l)];rfl
  ·rw [decide_eq_false l,decide_eq_true]
   ·rfl
   ·refine Classical.byContradiction fun q=>e (mH ?_)
    exact List.le_antisymm (by simpa using q) (by simpa using l)
theorem Vv {a b c:TX}(h1:Eu a b=true) (h2:Eu b c=true):Eu a c=true:=by
 unfold Eu at *;split at h1
 ·rename_i e1;rw [e1];split at h2
  ·rename_i e2;rw [if_pos e2];exact Hx h1 h2
  ·rename_i e2;rw [if_neg e2];exact h2
 ·rename_i e1;have l1:=of_decide_eq_true h1;split at h2
  ·rename_i e2;rw [← e2,if_neg e1];exact h1
  ·have l2:=of_decide_eq_true h2;have l3:=List.lt_trans l1 l2;rw [if_neg (fun q=>List.lt_irrefl _ (show c.1.cps.toList < c.1.cps.toList by rw [q] at l3;exact l3))];exact decide_eq_true l3
noncomputable def Aw {α:Type}(n:Nat) (lt:Nat->Nat->Bool):KasT α->Option α
 | .ret a=>some a
 | .ask i j k=>if i < n/\j < n/\i≠j then Aw n lt (k (lt i j)) else none
theorem Tj {α:Type}{n:Nat}{lt:Nat->Nat->Bool}{cmp:Nat->Nat->(Bool->Shared->Prop)->Shared->Prop}{Q:α->Shared->Prop}{s:Shared}{a:α}
  (h:∀ i j C,i < n->j < n->i≠j->C (lt i j) s->cmp i j C s) (q:Q a s):∀ t:KasT α,Aw n lt t=some a->t.kasWp cmp Q s
 | .ret b,e=>by cases e;exact q
 | .ask i j k,e=>by
  have e:(if i < n/\j < n/\i≠j then Aw n lt (k (lt i j)) else none)=some a:=e;split at e
  ·rename_i c;exact h i j _ c.1 c.2.1 c.2.2 (Tj h q _ e)
  ·cases e
theorem cZ {α:Type} [DecidableEq α]:∀ {l l':List α},l.Nodup->(∀ x∈l,x∈l')->l'.length<=l.length->l.Perm l'
 | [],l',_,_,h=>by
  have:l'=[]:=List.length_eq_zero_iff.mp (Nat.le_zero.mp h);rw [this]
 | a::r,l',nd,sub,h=>by
  obtain ⟨na,nr⟩:=List.nodup_cons.mp nd;have ha:=sub a (.head _);refine .trans (.cons a ?_) (List.perm_cons_erase ha).symm;refine cZ nr (fun x hx=>(List.mem_erase_of_ne (fun e=>na (by rw [← e];exact hx))).mpr (sub x (.tail _ hx))) ?_;have:=List.length_erase_of_mem ha;simp at h;omega
noncomputable def Lq (ks:List TX):List TX:=ks.mergeSort fun a b=>!Eu b a
theorem Hy (ks:List TX):(Lq ks).Perm ks:=List.mergeSort_perm _ _
theorem Tn (a:TX):Eu a a=false:=by
 unfold Eu;rw [if_pos rfl];have:∀ l:List Int,Ep l l=false:=fun l=>by
  induction l with
  | nil=>rfl
  | cons x r ih=>show (if (x==x)=true then Ep r r else decide (x < x))=false;rw [if_pos (by simp),ih]
 exact this _
theorem Vw {ks:List TX}(nd:ks.Nodup):(Lq ks).Pairwise fun a b=>Eu a b=true:=by
 have nd2:(Lq ks).Nodup:=(Hy ks).nodup_iff.mpr nd;have h:=List.pairwise_mergeSort (le:=fun a b:TX=>!Eu b a) (fun a b c h1 h2=>?_) (fun a b=>?_) ks
 ·refine List.Pairwise.imp_of_mem (R:=fun a b=>a≠b/\(!Eu b a)=true) ?_ (List.pairwise_and_iff.mpr ⟨nd2,h⟩);intro a b _ _ q;rw [← Bool.not_not (Eu a b),← Fp q.1];exact q.2
 ·by_cases e1:a=b
  ·subst e1;exact h2
  by_cases e2:b=c
  ·subst e2;exact h1
  by_cases e3:a=c
  ·subst e3;simp [Tn]
  have q1:Eu a b=true:=by rw [← Bool.not_not (Eu a b),← Fp e1];exact h1
  have q2:Eu b c=true:=by rw [← Bool.not_not (Eu b c),← Fp e2];exact h2
  show (!Eu c a)=true;rw [Fp e3,Bool.not_not];exact Vv q1 q2
 ·by_cases e:a=b
  ·subst e;simp [Tn]
  ·rw [Fp e,Bool.not_not];cases Eu a b <;> rfl
theorem dB {ks l:List TX}(nd:ks.Nodup) (p:l.Perm ks) (h:l.Pairwise fun a b=>Eu a b=true):l=Lq ks :=
 (p.trans (Hy ks).symm).eq_of_pairwise (le:=fun a b=>Eu a b=true) (fun a b _ _ x y=>by
  by_cases e:a=b
  ·exact e
  ·rw [Fp e,x] at y;cases y) h (Vw nd)
theorem Dj {α β:Type}{n:Nat}{lt:Nat->Nat->Bool}{f:α->KasT β}{a:α}:∀ t:KasT α,Aw n lt t=some a->Aw n lt (t.bind f)=Aw n lt (f a)
 | .ret b,e=>by cases e;rfl
 | .ask i j k,e=>by
  have e:(if i < n/\j < n/\i≠j then Aw n lt (k (lt i j)) else none)=some a:=e;show (if i < n/\j < n/\i≠j then Aw n lt ((k (lt i j)).bind f) else none)=_;split at e
  ·rename_i c;rw [if_pos c];exact Dj _ e
  ·cases e
theorem Fq {α:Type}{n i j:Nat}{lt:Nat->Nat->Bool}{k:Bool->KasT α}(hi:i < n) (hj:j < n) (ne:i≠j):Aw n lt (.ask i j k)=Aw n lt (k (lt i j)):=by
 show (if i < n/\j < n/\i≠j then Aw n lt (k (lt i j)) else none)=_;rw [if_pos ⟨hi,hj,ne⟩]
section
variable {n:Nat}{lt:Nat->Nat->Bool}
structure Tot (n:Nat) (lt:Nat->Nat->Bool):Prop where
 tri:∀ i j,i < n->j < n->i≠j->lt j i=!lt i j
 tr:∀ i j k,i < n->j < n->k < n->lt i j=true->lt j k=true->lt i k=true
structure Gd (n:Nat) (p:Array Nat):Prop where
 sz:p.size=n
 pm:p.toList.Perm (List.range n)
theorem Gd.bel {p:Array Nat}(g:Gd n p) {i:Nat}(hi:i < n):p.getD i 0 < n:=by
 have h:i < p.toList.length:=by rw [Array.length_toList,g.sz];exact hi
 have:p.getD i 0=p.toList[i]:=by simp [Array.getD,g.sz,hi]
 rw [this];exact List.mem_range.mp (g.pm.mem_iff.mp (List.getElem_mem h))
theorem Gd.ne {p:Array Nat}(g:Gd n p) {i j:Nat}(hi:i < n) (hj:j < n) (ne:i≠j):p.getD i 0≠p.getD j 0:=by
 have h1:i < p.toList.length:=by rw [Array.length_toList,g.sz];exact hi
 have h2:j < p.toList.length:=by rw [Array.length_toList,g.sz];exact hj
 have e1:p.getD i 0=p.toList[i]:=by simp [Array.getD,g.sz,hi]
 have e2:p.getD j 0=p.toList[j]:=by simp [Array.getD,g.sz,hj]
 rw [e1,e2];intro e;have nd:p.toList.Nodup:=g.pm.nodup_iff.mpr List.nodup_range;exact ne ((List.getElem_inj nd).mp e)
noncomputable def Up (lt:Nat->Nat->Bool) (p:Array Nat) (m:Nat):Prop:=∀ i j,i < j->j < m->lt (p.getD i 0) (p.getD j 0)=true
noncomputable def Dn (lt:Nat->Nat->Bool) (p:Array Nat) (m:Nat):Prop:=∀ i j,i < j->j < m->lt (p.getD j 0) (p.getD i 0)=true
theorem Vx (T:Tot n lt) {p:Array Nat}(g:Gd n p):∀ (f k:Nat),1<=k->k+f<=n->Up lt p k->∃ m,Aw n lt (kas_asc p f k)=some m/\k<=m/\m<=k+f/\Up lt p m/\(m < k+f->lt (p.getD m 0) (p.getD (m - 1) 0)=true)
 | 0,k,h1,h2,u=>⟨k,rfl,Nat.le_refl _,Nat.le_refl _,u,fun h=>absurd h (Nat.lt_irrefl _)⟩
 | f+1,k,h1,h2,u=>by
  have ne:=g.ne (show k < n by omega) (show k - 1 < n by omega) (by omega);have e:Aw n lt (kas_asc p (f+1) k)=Aw n lt (if lt (p.getD k 0) (p.getD (k - 1) 0)=true then .ret k else kas_asc p f (k+1)):=Fq (g.bel (by omega)) (g.bel (by omega)) ne;rw [e];cases c:lt (p.getD k 0) (p.getD (k - 1) 0) with
  | true=>exact ⟨k,by rw [if_pos rfl];rfl,Nat.le_refl _,by omega,u,fun _=>c⟩
  | false =>
   rw [if_neg (by simp)];have c2:lt (p.getD (k - 1) 0) (p.getD k 0)=true:=by rw [T.tri _ _ (g.bel (by omega)) (g.bel (by omega)) ne,c];rfl
   have u2:Up lt p (k+1):=fun i j hij hj=>by
    by_cases hjk:j < k
    ·exact u i j hij hjk
    ·have:j=k:=by omega
     subst this
     by_cases hi:i=j - 1
     ·rw [hi];exact c2
     ·exact T.tr _ _ _ (g.bel (by omega)) (g.bel (by omega)) (g.bel (by omega)) (u i (j - 1) (by omega) (by omega)) c2
   obtain ⟨m,a1,a2,a3,a4,a5⟩:=Vx T g f (k+1) (by omega) (by omega) u2;exact ⟨m,a1,by omega,by omega,a4,fun h=>a5 (by omega)⟩
theorem Xn (T:Tot n lt) {p:Array Nat}(g:Gd n p):∀ (f k:Nat),1<=k->k+f<=n->Dn lt p k->∃ m,Aw n lt (kas_desc f p k 0)=some (p,m,0)/\k<=m/\m<=k+f/\Dn lt p m
 | 0,k,h1,h2,u=>⟨k,rfl,Nat.le_refl _,Nat.le_refl _,u⟩
 | f+1,k,h1,h2,u=>by
  have ne:=g.ne (show k < n by omega) (show k - 1 < n by omega) (by omega)
  have e:Aw n lt (kas_desc (f+1) p k 0)=Aw n lt (if lt (p.getD k 0) (p.getD (k - 1) 0)=true then (if 0 > 0 then kas_desc f (kas_rev p (k - (0+1)) k) (k+1) 0 else kas_desc f p (k+1) 0)
   else .ask (p.getD (k - 1) 0) (p.getD k 0) fun d=>if d=true then .ret (p,k,0) else kas_desc f p (k+1) (0+1)):=Fq (g.bel (by omega)) (g.bel (by omega)) ne
  rw [e];cases c:lt (p.getD k 0) (p.getD (k - 1) 0) with
  | true =>
   rw [if_pos rfl,if_neg (Nat.lt_irrefl _)];have u2:Dn lt p (k+1):=fun i j hij hj=>by
    by_cases hjk:j < k
    ·exact u i j hij hjk
    ·have:j=k:=by omega
     subst this
     by_cases hi:i=j - 1
     ·rw [hi];exact c
     ·exact T.tr _ _ _ (g.bel (by omega)) (g.bel (by omega)) (g.bel (by omega)) c (u i (j - 1) (by omega) (by omega))
   obtain ⟨m,a1,a2,a3,a4⟩:=Xn T g f (k+1) (by omega) (by omega) u2;exact ⟨m,a1,by omega,by omega,a4⟩
  | false =>
   rw [if_neg (by simp),Fq (g.bel (by omega)) (g.bel (by omega)) ne.symm];have c2:lt (p.getD (k - 1) 0) (p.getD k 0)=true:=by rw [T.tri _ _ (g.bel (by omega)) (g.bel (by omega)) ne,c];rfl
   rw [c2,if_pos rfl];exact ⟨k,rfl,Nat.le_refl _,by omega,u⟩
theorem Ks {p q:Array Nat}{i j:Nat}(h:p[i]?=q[j]?):p.getD i 0=q.getD j 0:=by
 rw [Array.getD_eq_getD_getElem?,Array.getD_eq_getD_getElem?,h]
theorem dD {p:Array Nat}(g:Gd n p) (i j:Nat):Gd n (kas_rev p i j):=⟨by rw [kas_rev_size];exact g.sz,(Array.perm_iff_toList_perm.mp (mirror_perm p i j _)).trans g.pm⟩
theorem uQ {p:Array Nat}(g:Gd n p) {m:Nat}(hm:m<=n) (d:Dn lt p m):Up lt (kas_rev p 0 m) m:=fun i j hij hj=>by
 have at':∀ k,k < m->(kas_rev p 0 m).getD k 0=p.getD (m - 1 - k) 0:=fun k hk=>by
  refine Ks ?_;have:=getElem?_mirror_all (xs:=p) (i:=0) (j:=m) (by rw [g.sz];exact hm) k;rw [if_pos ⟨Nat.zero_le _,hk⟩,Nat.zero_add] at this;exact this
 rw [at' i (by omega),at' j hj];exact d _ _ (by omega) (by omega)
theorem dF (T:Tot n lt) (h1:1<=n) {p:Array Nat}(g:Gd n p):∃ m p',Aw n lt (kas_count n p)=some (m,p')/\Gd n p'/\1<=m/\m<=n/\Up lt p' m:=by
 obtain ⟨m,a1,a2,a3,a4,a5⟩:=Vx T g (n - 1) 1 (Nat.le_refl _) (by omega) (fun i j h1 h2=>by omega);have e:Aw n lt (kas_count n p)=Aw n lt (if (m==n)=true then .ret (m,p) else if m > 1 then .ask (p.getD 0 0) (p.getD (m - 1) 0) fun c=>if c=true then .ret (m,p) else kas_descPart m n (kas_rev p 0 m) else kas_descPart m n p):=Dj _ a1;rw [e]
 by_cases hm:m=n
 ·rw [if_pos (by simpa using hm)];exact ⟨m,p,rfl,g,a2,by omega,a4⟩
 ·rw [if_neg (by simpa using hm)]
  by_cases h:m > 1
  ·rw [if_pos h,Fq (g.bel (by omega)) (g.bel (by omega)) (g.ne (by omega) (by omega) (by omega)),a4 0 (m - 1) (by omega) (by omega),if_pos rfl];exact ⟨m,p,rfl,g,a2,by omega,a4⟩
  ·have:m=1:=by omega
   subst this;rw [if_neg h];have c:=a5 (by omega)
   obtain ⟨d,b1,b2,b3,b4⟩:=Xn T g (n - 2) 2 (by decide) (by omega) (fun i j h1 h2=>by
    have e1:i=0:=by omega
    have e2:j=1:=by omega
    subst e1 e2
    exact c)
   have e2:Aw n lt (kas_descPart 1 n p)=Aw n lt (if (0:Nat) > 0 then kas_tail3 d n (kas_rev p (d - (0+1)) d) else kas_tail3 d n p):=Dj _ b1;rw [e2,if_neg (Nat.lt_irrefl _)];obtain ⟨q,c1,c2,c3,c4,_⟩:=Vx T (dD g 0 d) (n - d) d (by omega) (by omega) (uQ g (by omega) b4);have e3:Aw n lt (kas_tail3 d n p)=Aw n lt (.ret (q,kas_rev p 0 d)):=Dj _ c1;exact ⟨q,kas_rev p 0 d,e3,dD g 0 d,by omega,by omega,c4⟩
theorem Lr (T:Tot n lt) {p:Array Nat}(g:Gd n p) {k:Nat}(hk:k < n) (u:Up lt p k):∀ (f l r:Nat),l<=r->r<=k->r - l<=f->(∀ i,i < l->lt (p.getD i 0) (p.getD k 0)=true)->(∀ i,r<=i->i < k->lt (p.getD k 0) (p.getD i 0)=true) ->
  ∃ l',Aw n lt (kas_place p k f l r)=some l'/\l'<=k/\(∀ i,i < l'->lt (p.getD i 0) (p.getD k 0)=true)/\∀ i,l'<=i->i < k->lt (p.getD k 0) (p.getD i 0)=true
 | 0,l,r,h1,h2,h3,a,b=>⟨l,rfl,by omega,a,fun i hi hk=>b i (by omega) hk⟩
 | f+1,l,r,h1,h2,h3,a,b=>by
  by_cases hlr:l ≥ r
  ·refine ⟨l,?_,by omega,a,fun i hi hk=>b i (by omega) hk⟩;show Aw n lt (if l ≥ r then .ret l else _)=_;rw [if_pos hlr];rfl
  ·have ne:=g.ne (show k < n from hk) (show (l+r) / 2 < n by omega) (by omega);have e:Aw n lt (kas_place p k (f+1) l r)=Aw n lt (if lt (p.getD k 0) (p.getD ((l+r) / 2) 0)=true then kas_place p k f l ((l+r) / 2) else kas_place p k f ((l+r) / 2+1) r):=by
    show Aw n lt (if l ≥ r then .ret l else .ask (p.getD k 0) (p.getD ((l+r) / 2) 0) fun c=>if c=true then kas_place p k f l ((l+r) / 2) else kas_place p k f ((l+r) / 2+1) r)=_;rw [if_neg hlr];exact Fq (g.bel hk) (g.bel (by omega)) ne
   rw [e];cases c:lt (p.getD k 0) (p.getD ((l+r) / 2) 0) with
   | true =>
    rw [if_pos rfl];refine Lr T g hk u f l ((l+r) / 2) (by omega) (by omega) (by omega) a fun i hi hik=>?_
    by_cases e:i=(l+r) / 2
    ·rw [e];exact c
    ·exact T.tr _ _ _ (g.bel hk) (g.bel (by omega)) (g.bel (by omega)) c (u _ _ (by omega) hik)
   | false =>
    rw [if_neg (by simp)];have c2:lt (p.getD ((l+r) / 2) 0) (p.getD k 0)=true:=by rw [T.tri _ _ (g.bel hk) (g.bel (by omega)) ne,c];rfl
    refine Lr T g hk u f ((l+r) / 2+1) r (by omega) h2 (by omega) (fun i hi=>?_) b
    by_cases e:i=(l+r) / 2
    ·rw [e];exact c2
    ·exact T.tr _ _ _ (g.bel (by omega)) (g.bel (by omega)) (g.bel hk) (u _ _ (by omega) (by omega)) c2
theorem dG (T:Tot n lt):∀ (f k:Nat) (p:Array Nat),Gd n p->k+f=n->Up lt p k->∃ p',Aw n lt (kas_bin f p k)=some p'/\Gd n p'/\Up lt p' n
 | 0,k,p,g,e,u=>⟨p,rfl,g,by have:k=n:=e;subst this;exact u⟩
 | f+1,k,p,g,e,u=>by
  have hk:k < n:=by omega
  obtain ⟨l,a1,a2,a3,a4⟩:=Lr T g hk u k 0 k (Nat.zero_le _) (Nat.le_refl _) (by omega) (fun i h=>by omega) (fun i h1 h2=>by omega);have e2:Aw n lt (kas_bin (f+1) p k)=Aw n lt (kas_bin f (bubble p k (k - l)) (k+1)):=Dj _ a1;rw [e2];have at':∀ i,(bubble p k (k - l)).getD i 0=if i=l then p.getD k 0 else if l < i/\i<=k then p.getD (i - 1) 0 else p.getD i 0:=fun i=>by
   have:=getElem?_bubble (xs:=p) (src:=k) (by rw [g.sz];exact hk) (k - l) (by omega) i;rw [show k - (k - l)=l by omega] at this;split at this
   ·rename_i h;rw [if_pos h];exact Ks this
   ·rename_i h;rw [if_neg h];split at this
    ·rename_i h2;rw [if_pos h2];exact Ks this
    ·rename_i h2;rw [if_neg h2];exact Ks this
  refine dG T f (k+1) _ ⟨by rw [bubble_size];exact g.sz,(Array.perm_iff_toList_perm.mp (bubble_perm p k _)).trans g.pm⟩ (by omega) fun i j hij hj=>?_
  rw [at' i,at' j];repeat' split
  all_goals first
   | (exfalso;omega)
   | exact a3 _ (by omega)
   | exact a4 _ (by omega) (by omega)
   | exact u _ _ (by omega) (by omega)
theorem dH (h2:2<=n) (T:Tot n lt):∃ p:Array Nat,Aw n lt (kas_sort n)=some p/\p.toList.length=n/\(∀ i∈p.toList,i < n)/\p.toList.Nodup/\p.toList.Pairwise fun i j=>lt i j=true:=by
 have g0:Gd n (List.toArray (List.range n)):=⟨by simp,by simp⟩;obtain ⟨m,q,a1,a2,a3,a4,a5⟩:=dF T (by omega) g0;have e:Aw n lt (kas_sort n)=Aw n lt (if m < n then kas_bin (n - max m 1) q (max m 1) else .ret q):=Dj _ a1;have fin:∃ p,Aw n lt (kas_sort n)=some p/\Gd n p/\Up lt p n:=by
  rw [e]
  by_cases h:m < n
  ·rw [if_pos h,show max m 1=m by omega];exact dG T (n - m) m q a2 (by omega) a5
  ·rw [if_neg h];have:m=n:=by omega
   subst this;exact ⟨q,rfl,a2,a5⟩
 obtain ⟨p,b1,b2,b3⟩:=fin;refine ⟨p,b1,by rw [Array.length_toList];exact b2.sz,fun i hi=>List.mem_range.mp (b2.pm.mem_iff.mp hi),b2.pm.nodup_iff.mpr List.nodup_range,?_⟩;rw [List.pairwise_iff_getElem];intro i j hi hj hij;rw [Array.length_toList,b2.sz] at hi hj;have:=b3 i j hij hj;have e1:p.getD i 0=p.toList[i]:=by simp [Array.getD,b2.sz,hi]
 have e2:p.getD j 0=p.toList[j]:=by simp [Array.getD,b2.sz,hj]
 rw [e1,e2] at this;exact this
end
section
variable {prog:Program}{w:World}{A:Around}{E:Value->Shared->Prop}{s:Shared}
theorem getD_some {α:Type}{l:List α}{i:Nat}{d x:α}(h:l[i]?=some x):l.getD i d=x:=by rw [List.getD_eq_getElem?_getD,h];rfl
theorem range_getD {α:Type}{d:α}(l:List α):(List.range l.length).map (fun i=>l.getD i d)=l:=by
 refine List.ext_getElem? fun i=>?_
 rw [List.getElem?_map]
 by_cases h:i < l.length
 ·rw [List.getElem?_range h,Option.map_some,List.getD_eq_getElem?_getD,List.getElem?_eq_getElem h];rfl
 ·rw [List.getElem?_eq_none (by simpa using h),List.getElem?_eq_none (by simpa using h)];rfl
end
noncomputable def txD (k:TX):D:=.tup (.str k.1::k.2.map D.int)
noncomputable def mJ:List TX->List TX
 | []=>[]
 | x::r=>if x∈r then mJ r else x::mJ r
theorem O4 {α β:Type}{R:α->β->Prop}:∀ {l:List α},(∀ v∈l,∃ k,R v k)->∃ ks:List β,l.length=ks.length/\∀ (i:Nat) (v:α) (k:β),l[i]?=some v->ks[i]?=some k->R v k
 | [],_=>⟨[],rfl,fun i v k h=>by simp at h⟩
 | a::r,h=>by
  obtain ⟨k,hk⟩:=h a (.head _);obtain ⟨ks,h1,h2⟩:=O4 fun v hv=>h v (.tail _ hv)
  refine ⟨k::ks,by simp [h1],fun i v k' e1 e2=>?_⟩;cases i with
  | zero=>cases e1;cases e2;exact hk
  | succ i=>exact h2 i v k' (by simpa using e1) (by simpa using e2)
section
variable {X:Cx}
end
noncomputable def dI:List D->Option (List TX)
 | []=>some []
 | .tup (.str x::r)::t=>match intsOf r with
  | some ns=>match dI t with
   | some l=>some ((x,ns)::l)
   | none=>none
  | none=>none
 | _=>none
noncomputable def dJ (ds:List D) (mh:MH):Option (D×MH):=match dI ds with
 | some ks=>if (mJ ks).length<=17 then some (.ref mh.length,mh++[.lst ((Lq (mJ ks)).map txD)]) else none
 | none=>none
noncomputable def Zt (x:D) (mh:MH):Option (D×MH):=match x with
 | .ref n=>match mh[n]? with
  | some (.lst o)=>match intsOf o with
   | some ns=>if ns.length < 4000 then (if (cT ns).length < 64 then some (.ref mh.length,mh++[.lst ((zR ns).map D.int)]) else none) else none
   | none=>dJ o mh
  | _=>none
 | _=>none
section
variable {K:PySem.W.Frag}{H:Hp}{ρ:List Addr}
end
section
variable {X:Cx}{a:Expr}{ma:DM D}{p p2 pos pos2:Pos}
end
end DL
namespace DL
open PySem PySem.Spec PyProof.Rows L2
section
variable {prog:Program}{w:World}{A:Around}{E:Value->Shared->Prop}{s:Shared}
end
section
variable {prog:Program}{w:World}{A:Around}{E:Value->Shared->Prop}{s:Shared}
end
section
variable {X:Cx}
end
section
variable {prog:Program}{w:World}{A:Around}{E:Value->Shared->Prop}{s:Shared}
end
section
variable {prog:Program}{w:World}{A:Around}{E:Value->Shared->Prop}{s:Shared}{k1 k2:SeqK}{S z TI TO i1 i2 l1 l2:Addr}{i:Nat}
end
noncomputable def uR (a b:D):D:=.tup [a,b]
noncomputable def dM:List D->MH->Option (D×MH)
 | [x,y],mh=>match Ff x mh,Ff y mh with
  | some as,some bs=>some (.ref mh.length,mh++[.lst (List.zipWith uR as bs)])
  | _,_=>none
 | _,_=>none
section
variable {X:Cx}
end
end DL
namespace DL
open PySem PySem.Spec PyProof.Rows L2 PySem.W
noncomputable def dO:List D->MH->Option (D×MH)
 | [x,y],mh=>match Ff x mh,Ff y mh with
  | some as,some bs=>match dI (List.zipWith uR as bs) with
   | some ks=>if ks.Nodup/\ks.length < 64 then some (.ref (mh.length+1),mh++[.lst (List.zipWith uR as bs)]++[.lst ((Lq ks).map txD)]) else none
   | none=>none
  | _,_=>none
 | _,_=>none
section
variable {X:Cx}
end
end DL
namespace DL
open PySem PySem.Spec PyProof.Rows L2
section
variable {X:Cx}
end
noncomputable def Xo (T1:String) (f1:D->List D->MH->Option (D×MH)) (T2:String) (f2:D->List D->MH->Option (D×MH)) (mo:DM D) (mr:DM (List D)):DM D:=fun loc mh=>match mo loc mh with
 | some (x,m1)=>if Zm T1 x m1 then Bg T1 f1 mo mr loc mh else Bg T2 f2 mo mr loc mh
 | none=>none
theorem Tp {X:Cx}{e:Expr}{T1 T2:String}{f1 f2:D->List D->MH->Option (D×MH)}{mo:DM D}{mr:DM (List D)}(h1:DE X e (Bg T1 f1 mo mr)) (h2:DE X e (Bg T2 f2 mo mr)):DE X e (Xo T1 f1 T2 f2 mo mr):=fun loc mh=>by
 unfold Xo;split
 ·split
  ·exact h1 loc mh
  ·exact h2 loc mh
 ·exact Az
section
variable {prog:Program}{w:World}{A:Around}{E:Value->Shared->Prop}{s:Shared}
theorem Tq {l:Addr}{vs:List Value}{Q:List Value->Shared->Prop}(hl:s.heap.IsTuple l vs.toArray)
  (h:Q vs { s with heap:=(s.heap.push (seqObj "list" #[] 0)).update s.heap.objs.size (Obj.mapSeq (·++vs.toArray)) }) (hsz:vs.length<=sizeLine) :
  wpAny (model prog w) A (collect (.ref l)) Q E s:=by
 obtain ⟨o,ho,hc,n,hd⟩:=id hl;unfold collect;refine wpAny_bind (wpAny_runValue (codeAny_builtin entry_proto_collect' ?_))
 show wpAny _ _ (do again (.builtin "list.__iadd__" ⟨[← newList [],.ref l],[]⟩)) _ _ s;refine wpAny_bind (wpAny_newList (wpAny_pure ⟨Code.quiet_builtin _ (by decide +kernel),codeAny_builtin entry_list_iadd' ?_⟩))
 show wpAny _ _ (Builtin.List.listExtendWith (.ref s.heap.objs.size) (.ref l) (.ref s.heap.objs.size)) _ _ { s with heap:=s.heap.push (seqObj "list" #[] 0) };unfold Builtin.List.listExtendWith
 have ho':(s.heap.push (seqObj "list" #[] 0)).get? l=some o:=Heap.get?_push_of_some _ ho
 refine wpAny_bind (wpAny_typeOf (T := "tuple") ⟨o,ho',hc⟩ ?_)
 have ht:(Value.type "tuple"==Value.type "tuple")=true:=by rfl
 rw [if_pos (by rw [ht];simp)];refine wpAny_bind (listItems_at ho' hd ?_);refine wpAny_bind (listItems_at (xs:=#[]) (n:=0) (Heap.get?_push_size _ rfl) rfl ?_);rw [if_neg (by simp)];refine wpAny_bind (listUpdate_at (xs:=#[]) (n:=0) (Heap.get?_push_size _ rfl) rfl ?_ (Nat.zero_le _) (by show (#[]++vs.toArray).size<=sizeLine+1;simp only [Array.size_append,List.size_toArray,List.length_nil];omega));refine wpAny_pure ?_
 show wpAny (model prog w) A (do
   let o ← load s.heap.objs.size
   match o.data with
   | .seq xs _=>pure xs.toList
   | _=>unsupported "internal:collect") Q E { s with heap:=(s.heap.push (seqObj "list" #[] 0)).update s.heap.objs.size (Obj.mapSeq (·++vs.toArray)) }
 refine wpAny_bind (wpAny_load (get?_update_seq (Heap.get?_push_size _ rfl) _) ?_);show wpAny _ _ (pure ((#[]:Array Value)++vs.toArray).toList) Q E _;rw [show ((#[]:Array Value)++vs.toArray).toList=vs by simp];exact wpAny_pure h
theorem Qt {l:Addr}{vs:List Value}{ns:List Int}{Q:Value->Shared->Prop}(hl:s.heap.IsTuple l vs.toArray) (hI:IntsAre vs ns) (h64:vs.length < 64)
  (h:∀ (out:Array Value) (ns':List Int),IntsAre out.toList ns'->ns'.Perm ns->ns'.Pairwise (·<=·)->Q (.ref (s.heap.objs.size+1)) { s with heap:=sortedAll s.heap vs out }) :
  wpAny (model prog w) A (call (.builtin "sorted") [.ref l]) Q E s:=by
 refine Calls.call_function_entry kind_sorted plain_sorted entry_sorted (args_sorted1 _) ?_;unfold Builtin.«sorted»
 refine wpAny_bind (m:=checkCount "sorted" 1 1 _) (wpAny_pure ?_);refine wpAny_bind (Tq hl ?_ (by rw [sizeLine_eq];omega));refine wpAny_bind (wpAny_newList ?_ (by rw [sizeLine_eq];omega))
 have hsz:((s.heap.push (seqObj "list" #[] 0)).update s.heap.objs.size (Obj.mapSeq (·++vs.toArray))).objs.size=s.heap.objs.size+1:=by
  rw [Heap.size_update,size_push']
 have hoL:(((s.heap.push (seqObj "list" #[] 0)).update s.heap.objs.size (Obj.mapSeq (·++vs.toArray))).push (seqObj "list" vs.toArray 0)).get? (s.heap.objs.size+1)=some (seqObj "list" vs.toArray 0):=by
  rw [← hsz];exact Heap.get?_push_size _ rfl
 show wpAny _ _ _ _ _ { s with heap:=((s.heap.push (seqObj "list" #[] 0)).update s.heap.objs.size (Obj.mapSeq (·++vs.toArray))).push (seqObj "list" vs.toArray 0) };rw [hsz];refine wpAny_bind (wpAny_holding (wpAny_call_entry slot_list_sort ⟨_,hoL,rfl⟩ entry_list_sort (list_sort_tree hoL hI h64 fun out ns' a1 a2 a3=>⟨_,rfl,?_⟩) (args_list_sort _)));exact wpAny_pure ⟨_,rfl,h out ns' a1 a2 a3⟩
end
noncomputable def G3:List D->MH->Option (D×MH)
 | [.tup ds],mh=>match intsOf ds with
  | some ns=>if ns.length < 64 then some (.ref mh.length,mh++[.lst ((sortI ns).map .int)]) else none
  | none=>none
 | ds,mh=>Gz ds mh
theorem Iv {X:Cx}:Ax X (.builtin "sorted") (rDs X.K G3):=by
 rintro pins s σ H xs us Q I r ⟨ρ,mh,ds,d,mh',q,rs,rd,co⟩;unfold G3 at q;split at q
 ·rename_i es;split at q
  ·rename_i ns ei;split at q
   ·rename_i h64;cases q;obtain ⟨v,rfl,rx⟩:=Li rd;obtain ⟨u,rfl,ru⟩:=vals1 r;cases rx with
    | tup sq ry =>
     cases ru;rw [Dw ei] at ry;rw [Gu ry] at sq;obtain ⟨its,rv,pl,hz⟩:=I.tuple sq;have hlen:=rv.length;refine Qt pl (Eg rv) (by simp at hlen;omega) fun out ns' a1 a2 a3=>?_
     have es':ns'=sortI ns:=Ir a2 a3;subst es';obtain ⟨c,kp,at'⟩:=Iu s.heap its out;refine ⟨.ref (s.heap.objs.size+1),_,I.laid (t':=s.toks) (a:=s.heap.objs.size+1) (o:=.lst ((sortI ns).map V.int)) kp (Nat.le_succ _) ⟨?_,out.toList,c,Dg a1,?_⟩,rfl,Co.newL rs (Et (sortI ns)) co _ (I.hok.fresh (Nat.le_succ _))⟩
     ·rw [List.length_map,(sortI_perm ns).length_eq,sizeLine_eq];omega
     ·rw [at']
   ·cases q
  ·cases q
 ·exact Qs pins s σ H xs us Q I r ⟨ρ,mh,_,d,mh',q,rs,rd,co⟩
inductive DEnts (w:World) (K:PySem.W.Frag):List DictEntry->List (Str×D)->Prop
 | nil:DEnts w K [] []
 | cons {k:Str} {t:Tok} {u:Value} {v:V} {d:D} {es:List DictEntry} {kvs:List (Str×D)}:RelV v u->(∀ H ρ,RD K H ρ d v)->DEnts w K es kvs->DEnts w K ({ hash:=hashStr w k,key:=.str k t,val:=u }::es) ((k,d)::kvs)
structure DicOk (w:World) (K:PySem.W.Frag) (a:Addr) (kvs:List (Str×D)):Prop where
 ns:(a==sysModules)=false
 ob:∃ o es ep,K.lookup a=some o/\o.ExactDict/\o.data=.dict es ep/\DEnts w K es.toList kvs
section
variable {X:Cx}{a:Addr}{kvs:List (Str×D)}
variable {e:Expr}{me:DM D}{x:Str}{p pos:Pos}
end
mutual
noncomputable def rdV (K:PySem.W.Frag):Nat->Value->Option D
 | _,.none=>some .non
 | _,.bool b=>some (.bl b)
 | _,.int i _=>some (.int i)
 | _,.str x _=>some (.str x)
 | n+1,.ref a=>match K.lookup a with
  | some ⟨.type c,none,.seq its _,_⟩=>if c == "tuple"&&decide (its.size<=1000) then (match Zu K n its.toList with | some ds=>some (.tup ds) | none=>none) else none
  | _=>none
 | _,_=>none
noncomputable def Zu (K:PySem.W.Frag):Nat->List Value->Option (List D)
 | _,[]=>some []
 | 0,_::_=>none
 | n+1,u::r=>match rdV K n u with
  | some d=>(match Zu K n r with | some ds=>some (d::ds) | none=>none)
  | none=>none
end
mutual
theorem uT {K:PySem.W.Frag}:∀ (n:Nat) {u:Value}{d:D},rdV K n u=some d->∃ v,RelV v u/\∀ H ρ,RD K H ρ d v
 | n,.none,d,h=>by cases n <;> (simp only [rdV] at h;cases h;exact ⟨.non,rfl,fun _ _=>.non⟩)
 | n,.bool b,d,h=>by cases n <;> (simp only [rdV] at h;cases h;exact ⟨.bl b,rfl,fun _ _=>.bl b⟩)
 | n,.int i t,d,h=>by cases n <;> (simp only [rdV] at h;cases h;exact ⟨.int i,⟨t,rfl⟩,fun _ _=>.int i⟩)
 | n,.str x t,d,h=>by cases n <;> (simp only [rdV] at h;cases h;exact ⟨.str x,⟨t,rfl⟩,fun _ _=>.str x⟩)
 | 0,.ref a,d,h=>by simp only [rdV] at h;cases h
 | n+1,.ref a,d,h=>by
  simp only [rdV] at h;split at h
  ·rename_i c its ep sl hk;split at h
   ·rename_i hc;rw [Bool.and_eq_true,decide_eq_true_iff] at hc;split at h
    ·rename_i ds hd;cases h;obtain ⟨vs,h1,h2⟩:=Xp n hd;refine ⟨.ref a,rfl,fun H ρ=>.tup (.inr ⟨_,its,ep,hk,by rw [eq_of_beq hc.1],rfl,rfl,?_,h1⟩) (h2 H ρ)⟩;rw [sizeLine_eq];omega
    ·cases h
   ·cases h
  ·cases h
 | n,.float _ _,d,h=>by cases n <;> (simp only [rdV] at h;cases h)
 | n,.bytes _ _,d,h=>by cases n <;> (simp only [rdV] at h;cases h)
 | n,.ellipsis,d,h=>by cases n <;> (simp only [rdV] at h;cases h)
 | n,.notImplemented,d,h=>by cases n <;> (simp only [rdV] at h;cases h)
 | n,.type _,d,h=>by cases n <;> (simp only [rdV] at h;cases h)
 | n,.builtin _,d,h=>by cases n <;> (simp only [rdV] at h;cases h)
theorem Xp {K:PySem.W.Frag}:∀ (n:Nat) {us:List Value}{ds:List D},Zu K n us=some ds->∃ vs,Vals vs us/\∀ H ρ,RDs K H ρ ds vs
 | n,[],ds,h=>by cases n <;> (simp only [Zu] at h;cases h;exact ⟨[],.nil,fun _ _=>.nil⟩)
 | 0,_::_,ds,h=>by simp only [Zu] at h;cases h
 | n+1,u::r,ds,h=>by
  simp only [Zu] at h;split at h
  ·rename_i d hd;split at h
   ·rename_i ds' hr;cases h;obtain ⟨v,a1,a2⟩:=uT n hd;obtain ⟨vs,b1,b2⟩:=Xp n hr;exact ⟨v::vs,.cons a1 b1,fun H ρ=>.cons (a2 H ρ) (b2 H ρ)⟩
   ·cases h
  ·cases h
end
theorem Ls {K:PySem.W.Frag}{H:Hp}{ρ:List Addr}{f:Str}{d:D}:∀ {ks:List Str}{ds:List D}{xs:List V},RDs K H ρ ds xs->(ks.zip ds).lookup f=some d->∃ v,(ks.zip xs).lookup f=some v/\RD K H ρ d v
 | [],_,_,_,h=>by simp at h
 | k::ks,_,_,.nil,h=>by simp at h
 | k::ks,_,_,.cons r t,h=>by
  rw [List.zip_cons_cons,List.lookup_cons] at h ⊢;cases e:f==k with
  | true=>rw [e] at h;cases h;exact ⟨_,rfl,r⟩
  | false=>rw [e] at h;exact Ls t h
theorem Lx {f:Str}:∀ {ks:List Str}{xs:List V},ks.contains f=false->(ks.zip xs).lookup f=none
 | [],_,_=>by simp
 | k::ks,[],_=>by simp
 | k::ks,x::xs,h=>by
  rw [List.contains_cons,Bool.or_eq_false_iff] at h;rw [List.zip_cons_cons,List.lookup_cons,h.1];exact Lx h.2
noncomputable def Tr (c f:Str) (x:D) (mh:MH):Option (D×MH):=match x with
 | .obj c' ks ds=>if c'==c then (match (ks.zip ds).lookup f with | some d=>some (d,mh) | none=>none) else none
 | _=>none
section
variable {X:Cx}{o:Expr}{mo:DM D}{c f:Str}{C:Addr}{pos apos:Pos}
theorem uU (hn:PySem.W.nsIn X.K mainGlobals c=some (some (.ref C))) (hc:Cls X.K C) (ha:Cq X.K C f) (ho:DE X o mo) (hb:attributeBase o f X.env (eval o X.env)=eval o X.env):DE X (.Attribute o f pos) (mo.bnd fun x=>Zl (Tr c f x)):=fun loc mh =>
 Ar (sH (ho loc mh) hb) fun σ H Q ⟨ρ,d,mh',q,rl,rs,co⟩=>by
  obtain ⟨x,m1,ea,q2⟩:=Ah q
  clear q
  refine ⟨ρ,x,m1,ea,rl,rs,fun H1 ρ1 v e1 rs1 r1=>?_⟩;change Tr c f x m1=some (d,mh') at q2;cases r1 with
  | @obj c' ks ds a C' dx xs h1 h2 h3 h4 =>
   simp only [Tr] at q2;split at q2
   ·rename_i hcc;have e:=eq_of_beq hcc;subst e;rw [hn] at h1;cases h1;split at q2
    ·rename_i d' hl;cases q2;obtain ⟨v',l1,l2⟩:=Ls h4 hl;exact ⟨a,C,dx,_,v',rfl,h2,hc,ha,l1,co H1 ρ1 _ e1 rs1 l2⟩
    ·cases q2
   ·cases q2
  | _=>cases q2
noncomputable def Ly (c m:Str) (f:List D->MH->Option (D×MH)) (mo:DM D) (mr:DM (List D)):DM D:=mo.bnd fun x=>match x with
 | .obj c' ks ds=>if c'==c&&!(ks.contains m) then mr.bnd fun as=>Zl (f (.obj c' ks ds::as)) else Zb
 | _=>Zb
theorem O5 {env:Env}{o:Expr}{m:Str}{args:List Expr}(hbase:attributeBase o m env (eval o env)=eval o env)
  (hfew:((backTo pos (starEach args env)).all (fun x=>!x.1)&&(backToKw pos (keywordEach [] env)).all (fun x=>x.1.isSome)&&decide (args.length+([]:List Keyword).length+(if ([]:List Keyword).isEmpty then 0 else 1) < 30))=true)
  (hline:(apos.endLine==pos.line)=true) :
  eval (.Call (.Attribute o m apos) args [] pos) env=(do
   let ov ← eval o env
   standAt apos.atName
   let (f,first) ← holding [ov] (getMethod ov m (do return (← importBound o env).getD true))
   callWith pos f first (backTo pos (starEach args env)) (backToKw pos (keywordEach [] env))):=by
 rw [arm_eval_Call,hbase];have hform:methodCallForm (args.length+([]:List Keyword).length) (backTo pos (starEach args env)) (backToKw pos (keywordEach [] env))=true:=hfew;have hpos:methodCallPos true o env apos pos=pure pos:=by unfold methodCallPos;simp [hline]
 unfold methodCall;rw [hform,hpos];rfl
variable {CX:CXT}{k:Nat}{fa:Addr}{fd:FuncData}{ps:List Str}{m:Str}{g:List D->MH->Option (D×MH)}{e:Expr}{es:List Expr}{mr:DM (List D)}{E:XK}
theorem Lz {loc:Loc}{mh:MH}{r:D×MH}(h:Ly c m g mo mr loc mh=some r):∃ ks ds m1,mo loc mh=some (.obj c ks ds,m1)/\ks.contains m=false/\∃ as m2,mr loc m1=some (as,m2)/\g (.obj c ks ds::as) m2=some r:=by
 obtain ⟨x,m1,ea,h2⟩:=Ah h
 clear h
 cases x with
 | obj c' ks ds =>
  simp only at h2;split at h2
  ·rename_i hc;rw [Bool.and_eq_true] at hc;have ec:=eq_of_beq hc.1;subst ec;obtain ⟨as,m2,eb,h3⟩:=Ah h2;exact ⟨ks,ds,m1,ea,by simpa using hc.2,as,m2,eb,h3⟩
  ·cases h2
 | _=>cases h2
theorem mK (hn:PySem.W.nsIn X.K mainGlobals c=some (some (.ref C))) (hc:Cls X.K C) (hm:Meth X.K C m fa) (F:FnOk X.prog X.w X.K X.mg X.base CX k fa fd ps (spD X.K ps.length g)) (hr:Room k X.A) (hb:Binds X.K fd ps []) (hx:Cr CX X E) (ho:DE X o mo) (ha:DA X (e::es) mr)
  (hl:∀ ds mh r,g ds mh=some r->ds.length=ps.length) (hbase:attributeBase o m X.env (eval o X.env)=eval o X.env)
  (hfew:((backTo pos (starEach (e::es) X.env)).all (fun x=>!x.1)&&(backToKw pos (keywordEach [] X.env)).all (fun x=>x.1.isSome)&&decide ((e::es).length+([]:List Keyword).length+(if ([]:List Keyword).isEmpty then 0 else 1) < 30))=true)
  (hline:(apos.endLine==pos.line)=true) (hst:starEach (e::es) X.env=(false,eval e X.env)::starEach es X.env) (hpl:(backTo pos (starEach es X.env)).any (·.1)=false) :
  DE X (.Call (.Attribute o m apos) (e::es) [] pos) (Ly c m g mo mr):=fun loc mh=>by
 cases eq:Ly c m g mo mr loc mh with
 | none=>exact Az
 | some r =>
  obtain ⟨ks,ds,m1,ea,hk,as,m2,eb,hg⟩:=Lz eq;refine Ar (jO (ho loc mh) hc hm F hr hb .nil hx (ha loc m1) hst hpl (O5 hbase hfew hline)) ?_;rintro σ H Q ⟨ρ,d,mh',q,rl,rs,co⟩;cases q;refine ⟨ρ,_,m1,ea,rl,rs,fun H1 ρ1 v e1 rs1 r1=>?_⟩;cases r1 with
  | @obj _ _ _ a C' dx xs h1 h2 h3 h4 =>
   rw [hn] at h1;cases h1;refine ⟨a,dx,_,rfl,h2,Lx hk,ρ1,as,m2,eb,rl.mono e1,rs1,fun H2 ρ2 vs e2 rs2 r2=>?_⟩;show spD X.K ps.length g (.ref a::(vs++[])) H2 Q E;rw [List.append_nil];have rr:RDs X.K H2 ρ2 (.obj c ks ds::as) (.ref a::vs):=.cons (.obj hn (e2.ins _ _ _ _ h2) h3 (h4.mono e2)) r2;exact ⟨by rw [← rr.length];exact hl _ _ _ hg,ρ2,m2,_,d,mh',hg,rs2,rr,co.ev (e1.trans e2)⟩
theorem dR (hn:PySem.W.nsIn X.K mainGlobals c=some (some (.ref C))) (hc:Cls X.K C) (hm:Meth X.K C m fa) (F:FnOk X.prog X.w X.K X.mg X.base CX k fa fd ps (spD X.K ps.length g)) (hr:Room k X.A) (hb:Binds X.K fd ps []) (hx:Cr CX X E) (ho:DE X o mo)
  (hl:∀ ds mh r,g ds mh=some r->ds.length=ps.length) (hbase:attributeBase o m X.env (eval o X.env)=eval o X.env) (hline:(apos.endLine==pos.line)=true) :
  DE X (.Call (.Attribute o m apos) [] [] pos) (Ly c m g mo (Zr [])):=fun loc mh=>by
 cases eq:Ly c m g mo (Zr []) loc mh with
 | none=>exact Az
 | some r =>
  obtain ⟨ks,ds,m1,ea,hk,as,m2,eb,hg⟩:=Lz eq;cases eb;refine Ar (bH (ho loc mh) hc hm F hr hb .nil hx (O5 hbase rfl hline)) ?_;rintro σ H Q ⟨ρ,d,mh',q,rl,rs,co⟩;cases q;refine ⟨ρ,_,m1,ea,rl,rs,fun H1 ρ1 v e1 rs1 r1=>?_⟩;cases r1 with
  | @obj _ _ _ a C' dx xs h1 h2 h3 h4 =>
   rw [hn] at h1;cases h1;refine ⟨a,dx,_,rfl,h2,Lx hk,?_⟩;have rr:RDs X.K H1 ρ1 [.obj c ks ds] [.ref a]:=.cons (.obj hn h2 h3 h4) .nil;have hl1:[V.ref a].length=ps.length:=by rw [← rr.length];exact hl _ _ _ hg
   exact ⟨hl1,ρ1,m1,_,d,mh',hg,rs1,rr,co.ev e1⟩
end
noncomputable abbrev Fn:=List D->MH->Option (D×MH)
noncomputable def Bd (ok:Str->Str->Bool) (f:Str) (mo:DM D):DM D:=mo.bnd fun x=>match x with
 | .obj c ks ds=>if ok c f then Zl (Tr c f (.obj c ks ds)) else Zb
 | _=>Zb
noncomputable def Ea (met:Str->Str->Option (List Str×Fn)) (m:Str) (mo:DM D) (mr:DM (List D)):DM D:=mo.bnd fun x=>match x with
 | .obj c ks ds=>(match met c m with
  | some (_,g)=>if ks.contains m then Zb else mr.bnd fun as=>Zl (g (.obj c ks ds::as))
  | none=>Zb)
 | _=>Zb
section
variable {X:Cx}{o:Expr}{mo:DM D}{f m:Str}{pos apos:Pos}
theorem mL {ok:Str->Str->Bool}(hok:∀ c,ok c f=true->∃ C,PySem.W.nsIn X.K mainGlobals c=some (some (.ref C))/\Cls X.K C/\Cq X.K C f) (ho:DE X o mo) (hb:attributeBase o f X.env (eval o X.env)=eval o X.env):DE X (.Attribute o f pos) (Bd ok f mo):=fun loc mh=>by
 cases ea:mo loc mh with
 | none =>
  have:Bd ok f mo loc mh=none:=by unfold Bd DM.bnd;rw [ea]
  rw [this];exact Az
 | some pr =>
  obtain ⟨x,m1⟩:=pr;cases x with
  | obj c ks ds =>
   by_cases h:ok c f=true
   ·obtain ⟨C,h1,h2,h3⟩:=hok c h;have e:Bd ok f mo loc mh=(mo.bnd fun x=>Zl (Tr c f x)) loc mh:=by unfold Bd DM.bnd;rw [ea];dsimp only;rw [if_pos h]
    rw [e];exact uU h1 h2 h3 ho hb loc mh
   ·have:Bd ok f mo loc mh=none:=by unfold Bd DM.bnd;rw [ea];dsimp only;rw [if_neg h];rfl
    rw [this];exact Az
  | _ =>
   have:Bd ok f mo loc mh=none:=by unfold Bd DM.bnd;rw [ea];rfl
   rw [this];exact Az
theorem Xq {met:Str->Str->Option (List Str×Fn)}{mr:DM (List D)}{loc:Loc}{mh m1:MH}{c:Str}{ks:List Str}{ds:List D}{ps:List Str}{g:Fn}(ea:mo loc mh=some (.obj c ks ds,m1)) (hm:met c m=some (ps,g)):Ea met m mo mr loc mh=Ly c m g mo mr loc mh:=by
 unfold Ea Ly DM.bnd;rw [ea];dsimp only;rw [hm];dsimp only;cases hk:ks.contains m with
 | true=>rw [if_pos rfl,if_neg (by simp)]
 | false=>rw [if_neg (by simp),if_pos (by simp)]
theorem mO {k:Nat}{E:XK}{e:Expr}{es:List Expr}{mr:DM (List D)}{met:Str->Str->Option (List Str×Fn)}
  (hm:∀ c ps g,met c m=some (ps,g)->∃ C fa fd,PySem.W.nsIn X.K mainGlobals c=some (some (.ref C))/\Cls X.K C/\Meth X.K C m fa/\Binds X.K fd ps []/\FnOk X.prog X.w X.K X.mg X.base CX0 k fa fd ps (spD X.K ps.length g)/\∀ ds mh r,g ds mh=some r->ds.length=ps.length)
  (hr:Room k X.A) (hx:Cr CX0 X E) (ho:DE X o mo) (ha:DA X (e::es) mr) (hbase:attributeBase o m X.env (eval o X.env)=eval o X.env)
  (hfew:((backTo pos (starEach (e::es) X.env)).all (fun x=>!x.1)&&(backToKw pos (keywordEach [] X.env)).all (fun x=>x.1.isSome)&&decide ((e::es).length+([]:List Keyword).length+(if ([]:List Keyword).isEmpty then 0 else 1) < 30))=true)
  (hline:(apos.endLine==pos.line)=true) (hst:starEach (e::es) X.env=(false,eval e X.env)::starEach es X.env) (hpl:(backTo pos (starEach es X.env)).any (·.1)=false) :
  DE X (.Call (.Attribute o m apos) (e::es) [] pos) (Ea met m mo mr):=fun loc mh=>by
 cases ea:mo loc mh with
 | none =>
  have:Ea met m mo mr loc mh=none:=by unfold Ea DM.bnd;rw [ea]
  rw [this];exact Az
 | some pr =>
  obtain ⟨x,m1⟩:=pr;cases x with
  | obj c ks ds =>
   cases em:met c m with
   | none =>
    have:Ea met m mo mr loc mh=none:=by unfold Ea DM.bnd;rw [ea];dsimp only;rw [em];rfl
    rw [this];exact Az
   | some pg =>
    obtain ⟨ps,g⟩:=pg;obtain ⟨C,fa,fd,h1,h2,h3,h4,h5,h6⟩:=hm c ps g em;rw [Xq ea em];exact mK (E:=E) h1 h2 h3 h5 hr h4 hx ho ha h6 hbase hfew hline hst hpl loc mh
  | _ =>
   have:Ea met m mo mr loc mh=none:=by unfold Ea DM.bnd;rw [ea];rfl
   rw [this];exact Az
theorem dU {k:Nat}{E:XK}{met:Str->Str->Option (List Str×Fn)}
  (hm:∀ c ps g,met c m=some (ps,g)->∃ C fa fd,PySem.W.nsIn X.K mainGlobals c=some (some (.ref C))/\Cls X.K C/\Meth X.K C m fa/\Binds X.K fd ps []/\FnOk X.prog X.w X.K X.mg X.base CX0 k fa fd ps (spD X.K ps.length g)/\∀ ds mh r,g ds mh=some r->ds.length=ps.length)
  (hr:Room k X.A) (hx:Cr CX0 X E) (ho:DE X o mo) (hbase:attributeBase o m X.env (eval o X.env)=eval o X.env) (hline:(apos.endLine==pos.line)=true) :
  DE X (.Call (.Attribute o m apos) [] [] pos) (Ea met m mo (Zr [])):=fun loc mh=>by
 cases ea:mo loc mh with
 | none =>
  have:Ea met m mo (Zr []) loc mh=none:=by unfold Ea DM.bnd;rw [ea]
  rw [this];exact Az
 | some pr =>
  obtain ⟨x,m1⟩:=pr;cases x with
  | obj c ks ds =>
   cases em:met c m with
   | none =>
    have:Ea met m mo (Zr []) loc mh=none:=by unfold Ea DM.bnd;rw [ea];dsimp only;rw [em];rfl
    rw [this];exact Az
   | some pg =>
    obtain ⟨ps,g⟩:=pg;obtain ⟨C,fa,fd,h1,h2,h3,h4,h5,h6⟩:=hm c ps g em;rw [Xq ea em];exact dR (E:=E) h1 h2 h3 h5 hr h4 hx ho h6 hbase hline loc mh
  | _ =>
   have:Ea met m mo (Zr []) loc mh=none:=by unfold Ea DM.bnd;rw [ea];rfl
   rw [this];exact Az
end
section
variable {X:Cx}
noncomputable def uV:List D->Option (Int×Int)
 | [.int i,.int j]=>some (i,j)
 | _=>none
theorem Zv {ds:List D}{z:Int×Int}(h:uV ds=some z):ds=[.int z.1,.int z.2]:=by
 match ds,h with
 | [d,e],h =>
  cases d with
  | int i =>
   cases e with
   | int j=>cases h;rfl
   | _=>cases h
  | _=>cases h
 | [],h=>cases h
 | [d],h=>cases d <;> cases h
 | d::e::_::_,h=>cases d <;> first | cases h | (cases e <;> cases h)
noncomputable def dW (f:Int->List Int->Int) (g:Fn):Fn:=fun ds mh=>match uV ds with
 | some z=>some (.int (f z.1 [z.2]),mh)
 | none=>g ds mh
theorem Vy {v:Value}{f:Int->List Int->Int}{g:Fn}(h2:Ax X v (fun xs H Q=>∃ i j,xs=[.int i,.int j]/\Q (.int (f i [j])) H)) (hg:Ax X v (rDs X.K g)):Ax X v (rDs X.K (dW f g)):=by
 rintro pins s σ H xs us Q I r ⟨ρ,mh,ds,d,mh',q,rs,rd,co⟩;unfold dW at q;cases e:uV ds with
 | none=>rw [e] at q;exact hg pins s σ H xs us Q I r ⟨ρ,mh,ds,d,mh',q,rs,rd,co⟩
 | some z =>
  rw [e] at q;cases q;rw [Zv e] at rd;obtain ⟨v1,v2,rfl,r1,r2⟩:=uH rd;cases r1;cases r2;exact h2 pins s σ H _ us Q I r ⟨_,_,rfl,co H ρ _ Ev.refl rs (.int _)⟩
noncomputable def Xr:Fn:=dW Te minD
theorem Vz (hc:X.calm=true):Ax X (.builtin "min") (rDs X.K Xr):=Vy (Y6 hc) (Zo hc)
end
noncomputable def zV (lo c:Int) (n:Nat):It:=⟨fun i _=>i < n,fun i H x H'=>H'=H/\x=.int (lo+i * c),fun i _=>n<=i⟩
theorem Tv {P:Program}{w:World}{K:PySem.W.Frag}{tg:Expr}(it:Addr) (lo c:Int) (n:Nat):Turn P w K tg (zV lo c n) [it] it (fun i h=>IsRangeIter h it (lo+(i:Nat) * c) ((n:Int) - (i:Nat)) c) where
 mem:=by simp
 obj:=fun i h st b hb=>by
  have e:b=it:=by simpa using hb
  subst e
  exact ⟨_,st,fun v z=>by
   have z':Data.fields _=Data.cell v:=z
   cases z'⟩
 keep:=fun i h h' st k=>k it (by simp) _ st
 item:=by
  intro X hP hw hK hc i pins s σ H E I hf st hg;subst hP hw hK;obtain ⟨f0,f1,f2,f3,f4,f5⟩:=hf it (by simp);have W:=Walks.range (prog:=X.prog) (w:=X.w) (I.ok.hd hc) it lo c n;refine W.item i s _ _ hg st fun v h' tk hv st' kk=>?_
  obtain ⟨t,rfl⟩:=hv;have I1:Inv X pins σ H { s with heap:=h',toks:=tk }:=I.turned (fun b o hb e=>kk b o (by simpa using hb) e) f0 f1 f3 f4 f5
  exact ⟨_,rfl,W9 (s:={ s with heap:=h',toks:=tk }) (n := "range_iterator") st' rfl rfl (by decide) ⟨.int (lo+i * c),H,I1,⟨t,rfl⟩,⟨rfl,rfl⟩,st',fun b hb=>(hf b hb).1⟩⟩
 done:=by
  intro X hP hw hK hc i pins s σ H E I hf st hg;subst hP hw hK;obtain ⟨f0,f1,f2,f3,f4,f5⟩:=hf it (by simp);exact wpAny_pyNext_range_end (I.ok.hd hc) st (by have:n<=i:=hg;omega) fun h' eb=>⟨rfl,I.turned (t':=s.toks) (fun b o hb e=>eb b o hb e) f0 f1 f3 f4 f5⟩
 self:=fun _ _ _ _ _ st h=>wpAny_pyIter_rangeiter st h
noncomputable def Fg (lo c:Int) (n:Nat):List D:=(List.range n).map fun (k:Nat)=>D.int (lo+(k:Int) * c)
theorem JR.rngS {K:PySem.W.Frag}{H0:Hp}{ρ0:List Addr}{lo c:Int}{n:Nat}:JR K H0 ρ0 (.seq (Fg lo c n)) (zV lo c n) where
 go:=fun H ρ mh i d e rs q=>by
  have q:(Fg lo c n)[i]?=some d:=q;unfold Fg at q;rw [List.getElem?_map] at q
  by_cases hi:i < n
  ·rw [List.getElem?_range hi] at q;cases q;refine ⟨hi,?_⟩;rintro x H' ⟨h1,h2⟩;subst h1;subst h2;exact ⟨Ev.refl,rs,.int _⟩
  ·rw [List.getElem?_eq_none (by simp;omega)] at q;cases q
 stop:=fun H ρ mh i e rs q=>by
  show n<=i;have q:(true&&decide ((Fg lo c n).length<=i))=true:=q;rw [Bool.true_and] at q;have:=of_decide_eq_true q;unfold Fg at this
  simpa using this
noncomputable def Kh (a b c:Int):Nat:=(Builtin.Range.rangeSize a b c).toNat
theorem Xu {a b c:Int}(hc:0 < c):((Kh a b c:Nat):Int)=Builtin.Range.rangeSize a b c:=by
 unfold Kh Builtin.Range.rangeSize;rw [if_pos hc];split
 ·have:0<=(b - a - 1) / c:=Int.ediv_nonneg (by omega) (by omega);omega
 ·rfl
theorem Zw {a b c:Int}(h1:0 < c/\c < 1000) (ha:-1000000<=a/\a<=1000000) (hb:-1000000<=b/\b<=1000000):Builtin.Range.small a b c=true:=by
 have h2:Builtin.Range.rangeSize a b c<=2000001:=by
  unfold Builtin.Range.rangeSize;rw [if_pos h1.1];split
  ·have:(b - a - 1) / c<=b - a - 1:=Int.ediv_le_self _ (by omega);omega
  ·omega
 have h3:0<=Builtin.Range.rangeSize a b c:=by rw [← Xu h1.1];omega
 unfold Builtin.Range.small;simp only [Builtin.Range.rangeFitsLong,Bool.and_eq_true,Bool.or_eq_true,decide_eq_true_eq,beq_iff_eq,if_pos (show c > 0 from h1.1)];omega
theorem Xv {a b c:Int}(hc:(0 < c/\c < 1000)\/c=-1):((Kh a b c:Nat):Int)=Builtin.Range.rangeSize a b c:=by
 rcases hc with hc|hc
 ·exact Xu hc.1
 subst hc;unfold Kh Builtin.Range.rangeSize;rw [if_neg (by decide)];split
 ·have:(a - b - 1) / -(-1)=a - b - 1:=by simp
  rw [this];omega
 ·rfl
theorem V0 {a b c:Int}(hc:(0 < c/\c < 1000)\/c=-1) (ha:-1000000<=a/\a<=1000000) (hb:-1000000<=b/\b<=1000000):Builtin.Range.small a b c=true:=by
 rcases hc with hc|hc
 ·exact Zw hc ha hb
 subst hc;have h2:Builtin.Range.rangeSize a b (-1)<=2000001/\0<=Builtin.Range.rangeSize a b (-1):=by
  unfold Builtin.Range.rangeSize;rw [if_neg (by decide)];split
  ·have:(a - b - 1) / -(-1)=a - b - 1:=by simp
   rw [this];omega
  ·omega
 unfold Builtin.Range.small;simp only [Builtin.Range.rangeFitsLong,Bool.and_eq_true,Bool.or_eq_true,decide_eq_true_eq,beq_iff_eq,if_neg (show ¬ ((-1:Int) > 0) by decide)];omega
section
variable {X:Cx}{tg:Expr}
noncomputable def Tw (ds:List D):Option Src:=match ds with
 | [.int i,.int j,.int c]=>if (0 < c/\c < 1000)/\(-1000000<=i/\i<=1000000)/\(-1000000<=j/\j<=1000000) then some (.seq (Fg i c (Kh i j c))) else if c=-1/\(-1000000<=i/\i<=1000000)/\(-1000000<=j/\j<=1000000) then some (.seq (Fg i c (Kh i j c))) else none
 | _=>none
theorem Zx {ds:List D}{s:Src}(h:Tw ds=some s):∃ i j c,ds=[.int i,.int j,.int c]/\(((0 < c/\c < 1000)\/c=-1)/\(-1000000<=i/\i<=1000000)/\(-1000000<=j/\j<=1000000))/\s=.seq (Fg i c (Kh i j c)):=by
 unfold Tw at h;split at h
 ·rename_i i j c;split at h
  ·rename_i hj;cases h;exact ⟨i,j,c,rfl,⟨.inl hj.1,hj.2⟩,rfl⟩
  ·split at h
   ·rename_i hj;cases h;exact ⟨i,j,c,rfl,⟨.inr hj.1,hj.2⟩,rfl⟩
   ·cases h
 ·cases h
theorem Zy {a b c:Expr}{mr:DM (List D)}{p pos:Pos}(hg:Gl X "range") (hm:X.mg "range"=none) (ha:DA X [a,b,c] mr) (he:starEach [a,b,c] X.env=(false,eval a X.env)::starEach [b,c] X.env) (hpl:(backTo pos (starEach [b,c] X.env)).any (·.1)=false) :
  DI X tg (.Call (.Name "range" p) [a,b,c] [] pos) (Gn Tw mr):=fun loc mh=>by
 rintro pins s σ H R I ⟨ρ,src,mh',q,rl,rs,co⟩;obtain ⟨ds,ea,q⟩:=Ot q;obtain ⟨i,j,k,rfl,⟨hc,hi,hj⟩,e⟩:=Zx q;have e:src=.seq (Fg i k (Kh i j k)):=e;subst e;refine Call_ (K8 I hg hm boot_range (PyProof.Rows.callWith_type1 (thn (ha loc mh pos pins s σ H (fun vs H1=>∃ ρ1,Ev X.K H ρ H1 ρ1/\RS X.K H1 ρ1 mh'/\RDs X.K H1 ρ1 [.int i,.int j,.int k] vs) I ⟨ρ,_,mh',ea,rl,rs,fun H1 ρ1 vs e1 rs1 r1=>⟨ρ1,e1,rs1,r1⟩⟩) ?_) he hpl));rintro us s1 ⟨vs,H1,I1,r,ρ1,e1,rs1,rd⟩;cases rd with
 | cons d1 rd =>
  obtain ⟨v2,v3,rfl,d2,d3⟩:=uH rd;cases d1;cases d2;cases d3;cases r with
  | cons r1 rr =>
   obtain ⟨u2,u3,rfl,⟨t2,rfl⟩,⟨t3,rfl⟩⟩:=vals2 rr;obtain ⟨t1,rfl⟩:=r1
   refine call_range_3 (by omega) ?_ (.inl (PyProof.noPylong_of_log2 (by
    have h0:k.natAbs≠0:=by omega
    have:k.natAbs.log2 < 10:=(Nat.log2_lt h0).mpr (by omega)
    omega)))
   refine wpAny_pyIter_range (IsRange.new ..) (V0 hc hi hj) ?_
   have I2:Inv X pins σ H1 { s1 with heap:=s1.heap.push { cls:=.type "range",data:=.fields #[.int i t1,.int j t2,.int k t3] },toks:=s1.toks }:=I1.kept fun b o e=>Heap.get?_push_of_some _ e
   refine ⟨(s1.heap.push { cls:=.type "range",data:=.fields #[.int i t1,.int j t2,.int k t3] }).objs.size,[(s1.heap.push { cls:=.type "range",data:=.fields #[.int i t1,.int j t2,.int k t3] }).objs.size],_,_,H1,rfl,
    I2.kept (t':=s1.toks) fun b o e=>Heap.get?_push_of_some _ e,Tv _ i k (Kh i j k),?_,fun b hb=>?_,co H1 ρ1 _ e1 rs1 JR.rngS⟩
   ·have e3:i+((0:Nat):Int) * k=i:=by simp
    have e2:((Kh i j k:Nat):Int) - ((0:Nat):Int)=Builtin.Range.rangeSize i j k:=by rw [Xv hc];simp
    show IsRangeIter _ _ (i+((0:Nat):Int) * k) (((Kh i j k:Nat):Int) - ((0:Nat):Int)) k;rw [e3,e2];exact Heap.get?_push_size _ rfl
   ·have e:b=(s1.heap.push { cls:=.type "range",data:=.fields #[.int i t1,.int j t2,.int k t3] }).objs.size:=by simpa using hb
    subst e;exact I2.fpOk (Nat.le_refl _) (I2.hok.fresh (Nat.le_refl _))
end
section
variable {X:Cx}
end
section
variable {X:Cx}
end
noncomputable def Qu:D->Option Key
 | .int i=>some (.inl i)
 | .str x=>some (.inr x)
 | _=>none
noncomputable def keyB:Key->Key->Bool
 | .inl i,.inl j=>i==j
 | .inr x,.inr y=>x==y
 | _,_=>false
theorem Cm (a b:Key):keyB a b=decide (a=b):=by
 cases a with
 | inl i =>
  cases b with
  | inl j=>show (i==j)=_;by_cases h:i=j <;> simp [h]
  | inr y=>rfl
 | inr x =>
  cases b with
  | inl j=>rfl
  | inr y =>
   show (x==y)=_
   by_cases h:x=y
   ·subst h;simp
   ·rw [decide_eq_false (fun z=>h (by cases z;rfl))];exact beq_eq_false_iff_ne.mpr h
noncomputable def Ci:List (Key×D)->Key->Option D
 | [],_=>none
 | p::r,k=>if keyB p.1 k=true then some p.2 else Ci r k
noncomputable def putD (kvs:List (Key×D)) (k:Key) (d:D):List (Key×D) :=
 if (kvs.any fun kv=>keyB kv.1 k)=true then kvs.map (fun kv=>if keyB kv.1 k=true then (kv.1,d) else kv) else kvs++[(k,d)]
section
variable {K:PySem.W.Frag}{H H':Hp}{ρ ρ':List Addr}
noncomputable def RK (K:PySem.W.Frag) (H:Hp) (ρ:List Addr) (kvs:List (Key×D)) (xs:List (Key×V)):Prop:=xs.map (·.1)=kvs.map (·.1)/\RDs K H ρ (kvs.map (·.2)) (xs.map (·.2))
theorem RK.nil:RK K H ρ [] []:=⟨rfl,.nil⟩
theorem RK.cons {k:Key}{d:D}{v:V}{kvs:List (Key×D)}{xs:List (Key×V)}(r:RD K H ρ d v) (h:RK K H ρ kvs xs):RK K H ρ ((k,d)::kvs) ((k,v)::xs) :=
 ⟨by rw [List.map_cons,List.map_cons,h.1],.cons r h.2⟩
theorem RK.inv {k:Key}{d:D}{kvs:List (Key×D)}{xs:List (Key×V)}(h:RK K H ρ ((k,d)::kvs) xs):∃ v r,xs=(k,v)::r/\RD K H ρ d v/\RK K H ρ kvs r:=by
 obtain ⟨h1,h2⟩:=h;cases xs with
 | nil=>cases h1
 | cons p r =>
  obtain ⟨k',v⟩:=p;rw [List.map_cons,List.map_cons] at h1;injection h1 with e1 e2
  have e1:k'=k:=e1;subst e1;cases h2 with
  | cons a b=>exact ⟨v,r,rfl,a,e2,b⟩
theorem RK.inv0 {xs:List (Key×V)}(h:RK K H ρ [] xs):xs=[]:=by
 cases xs with
 | nil=>rfl
 | cons p r=>cases h.1
theorem RK.val (k:Key):∀ {kvs:List (Key×D)}{xs:List (Key×V)},RK K H ρ kvs xs->(∃ d v,Ci kvs k=some d/\Ih xs k=some v/\RD K H ρ d v)\/(Ci kvs k=none/\Ih xs k=none)
 | [],xs,h=>by rw [h.inv0];exact .inr ⟨rfl,rfl⟩
 | (k',d)::kvs,xs,h=>by
  obtain ⟨v,r,rfl,a,b⟩:=h.inv
  by_cases e:k'=k
  ·exact .inl ⟨d,v,by unfold Ci;rw [Cm,decide_eq_true e,if_pos rfl],Ii e,a⟩
  ·have e1:Ci ((k',d)::kvs) k=Ci kvs k:=by
    show (if keyB k' k=true then _ else _)=_;rw [Cm,decide_eq_false e,if_neg Bool.false_ne_true]
   rw [e1,Ij e];exact RK.val k b
theorem RK.some_eq (k:Key) {kvs:List (Key×D)}{xs:List (Key×V)}(h:RK K H ρ kvs xs):(Ih xs k).isSome=(Ci kvs k).isSome:=by
 rcases h.val k with ⟨d,v,e1,e2,_⟩ | ⟨e1,e2⟩ <;> rw [e1,e2] <;> rfl
theorem RK.any (k:Key):∀ {kvs:List (Key×D)}{xs:List (Key×V)},RK K H ρ kvs xs->(xs.any fun kv=>decide (kv.1=k))=(kvs.any fun kv=>keyB kv.1 k)
 | [],xs,h=>by rw [h.inv0];rfl
 | (k',d)::kvs,xs,h=>by
  obtain ⟨v,r,rfl,a,b⟩:=h.inv;rw [List.any_cons,List.any_cons,RK.any k b,Cm]
theorem RK.repl {d:D}{v:V}(k:Key) (rv:RD K H ρ d v):∀ {kvs:List (Key×D)}{xs:List (Key×V)},RK K H ρ kvs xs->RK K H ρ (kvs.map fun kv=>if keyB kv.1 k=true then (kv.1,d) else kv) (xs.map fun kv=>if kv.1=k then (kv.1,v) else kv)
 | [],xs,h=>by rw [h.inv0];exact .nil
 | (k',d')::kvs,xs,h=>by
  obtain ⟨v',r,rfl,a,b⟩:=h.inv;rw [List.map_cons,List.map_cons];dsimp only;rw [Cm]
  by_cases e:k'=k
  ·rw [decide_eq_true e,if_pos rfl,if_pos e];exact (RK.repl k rv b).cons rv
  ·rw [decide_eq_false e,if_neg Bool.false_ne_true,if_neg e];exact (RK.repl k rv b).cons a
theorem RK.put {d:D}{v:V}(k:Key) (rv:RD K H ρ d v) {kvs:List (Key×D)}{xs:List (Key×V)}(h:RK K H ρ kvs xs):RK K H ρ (putD kvs k d) (putK xs k v):=by
 unfold putD putK;rw [h.any k]
 by_cases e:(kvs.any fun kv=>keyB kv.1 k)=true
 ·rw [if_pos e,if_pos e];exact h.repl k rv
 ·rw [if_neg e,if_neg e];refine ⟨by rw [List.map_append,List.map_append,h.1];rfl,?_⟩;rw [List.map_append,List.map_append];exact h.2.append (.cons rv .nil)
theorem RK.length {kvs:List (Key×D)}{xs:List (Key×V)}(h:RK K H ρ kvs xs):xs.length=kvs.length:=by
 have:=congrArg List.length h.1
 simpa using this
theorem Ev.dk {p:Addr}{ys zs:List (Key×V)}(hp:H p=some (.dK ys)):Ev K H ρ (upd H p (.dK zs)) ρ:=by
 refine ⟨fun a xs h=>?_,List.prefix_refl _,fun a xs h=>?_,fun a C dx fs h=>?_,fun a o u h=>by rw [Ab (Gp h hp (by intro z;cases z))];exact h⟩
 ·rcases h with (h|⟨ob,h⟩)|h
  ·exact .inl (.inl (by rw [Ab (Gp h hp (by intro z;cases z))];exact h))
  ·exact .inl (.inr ⟨ob,by rw [Ab (Gp h hp (by intro z;cases z))];exact h⟩)
  ·exact .inr h
 ·rcases h with ⟨ob,h⟩|h
  ·exact .inl ⟨ob,by rw [Ab (Gp h hp (by intro z;cases z))];exact h⟩
  ·exact .inr h
 ·rw [Ab (Gp h hp (by intro z;cases z))];exact h
theorem RS.newD {mh:MH}{p:Addr}{xs:List (Key×V)}{kvs:List (Key×D)}(h:RS K H ρ mh) (hp:H p=none) (r:RK K H ρ kvs xs):RS K (upd H p (.dK xs)) (ρ++[p]) (mh++[.dct kvs]):=by
 have hnp:p ∉ ρ:=fun z=>by
  obtain ⟨o,q⟩:=h.tracked z;rw [hp] at q;cases q
 refine ⟨by rw [List.length_append,List.length_append,h.len];rfl,?_,fun n a ob e1 e2=>?_⟩
 ·rw [List.nodup_append]
  exact ⟨h.nd,List.pairwise_singleton _ _,fun a ha b hb z=>by
   rw [List.mem_singleton.mp hb] at z;rw [z] at ha;exact hnp ha⟩
 ·by_cases hn:n < ρ.length
  ·rw [List.getElem?_append_left hn] at e1;rw [List.getElem?_append_left (by rw [← h.len];exact hn)] at e2;refine (h.obj n a ob e1 e2).mono (Ev.newL hp) ?_;obtain ⟨oo,q⟩:=h.tracked (List.mem_of_getElem? e1);rw [Ab (Aj q hp)]
  ·rw [List.getElem?_append_right (by omega)] at e1;rw [List.getElem?_append_right (by rw [← h.len];omega)] at e2;have n0:n - ρ.length=0:=by
    have:=(List.getElem?_eq_some_iff.mp e1).1;simp at this;omega
   rw [n0] at e1;rw [← h.len,n0] at e2;cases e1;cases e2;exact ⟨xs,Ak,r.1,r.2.mono (Ev.newL hp)⟩
theorem RS.setD {mh:MH}{n:Nat}{p:Addr}{ys xs:List (Key×V)}{kvs:List (Key×D)}(h:RS K H ρ mh) (hn:ρ[n]?=some p) (hp:H p=some (.dK ys)) (r:RK K H ρ kvs xs):RS K (upd H p (.dK xs)) ρ (mh.set n (.dct kvs)):=by
 refine ⟨by rw [List.length_set];exact h.len,h.nd,fun m a ob e1 e2=>?_⟩
 by_cases hm:n=m
 ·subst hm;rw [hn] at e1;cases e1;rw [List.getElem?_set] at e2;simp only [if_true] at e2;split at e2
  ·cases e2;exact ⟨xs,Ak,r.1,r.2.mono (Ev.dk hp)⟩
  ·cases e2
 ·rw [List.getElem?_set_ne hm] at e2;refine (h.obj m a ob e1 e2).mono (Ev.dk hp) ?_;rw [Ab];intro z;subst z;exact hm ((List.getElem?_inj (List.getElem?_eq_some_iff.mp hn).1 h.nd).mp (hn.trans e1.symm))
end
noncomputable def Iw (kvs:List (PyData×D)) (k:PyData):Option D:=(kvs.find? fun e=>decide (e.1=k)).map (·.2)
noncomputable def mQ (kvs:List (PyData×D)) (k:PyData) (d:D):List (PyData×D) :=
 if (Iw kvs k).isSome=true then kvs.map (fun e=>if e.1=k then (e.1,d) else e) else kvs++[(k,d)]
noncomputable def kD (d:D):Option PyData:=match py [] 8 d with
 | some (.tuple ks)=>if kCl (.tuple ks)=true then some (.tuple ks) else none
 | _=>none
theorem Qv {f g:D->Option PyData}(h:∀ d k,f d=some k->g d=some k):∀ {ds:List D}{ks:List PyData},Bx f ds=some ks->Bx g ds=some ks
 | [],_,e=>e
 | d::r,ks,e=>by
  simp only [Bx] at e ⊢;cases e1:f d with
  | none=>rw [e1] at e;cases e
  | some b =>
   rw [e1] at e;rw [h d b e1];cases e2:Bx f r with
   | none=>rw [e2] at e;cases e
   | some bs=>rw [e2] at e;rw [Qv h e2];exact e
theorem V1 (mh:MH):∀ (n:Nat) (d:D) (k:PyData),py [] n d=some k->py mh n d=some k
 | 0,d,k,e=>by cases d <;> exact e
 | n+1,d,k,e=>by
  cases d with
  | tup ds =>
   have e:(match Bx (py [] n) ds with | some xs=>some (PyData.tuple xs) | none=>none)=some k:=e;show (match Bx (py mh n) ds with | some xs=>some (PyData.tuple xs) | none=>none)=some k;cases e1:Bx (py [] n) ds with
   | none=>rw [e1] at e;cases e
   | some xs=>rw [e1] at e;rw [Qv (V1 mh n) e1];exact e
  | rol ds =>
   have e:(match Bx (py [] n) ds with | some xs=>some (PyData.list xs) | none=>none)=some k:=e;show (match Bx (py mh n) ds with | some xs=>some (PyData.list xs) | none=>none)=some k;cases e1:Bx (py [] n) ds with
   | none=>rw [e1] at e;cases e
   | some xs=>rw [e1] at e;rw [Qv (V1 mh n) e1];exact e
  | ref i=>cases e
  | _=>exact e
theorem dX:∀ (n:Nat) (d:D) (k:PyData),py [] n d=some k->kCl k=true->toD k=d
 | n,.int i,k,e,_=>by
  have e:some (PyData.int i)=some k:=by cases n <;> exact e
  cases e;rfl
 | n,.str x,k,e,_=>by
  have e:(if PyData.strOk x=true then some (PyData.str x) else none)=some k:=by cases n <;> exact e
  split at e
  ·cases e;rfl
  ·cases e
 | n,.non,k,e,c=>by
  have e:some PyData.none=some k:=by cases n <;> exact e
  cases e;simp [kCl] at c
 | n,.bl b,k,e,c=>by
  have e:some (PyData.bool b)=some k:=by cases n <;> exact e
  cases e;simp [kCl] at c
 | n+1,.tup ds,k,e,c=>by
  have e:(match Bx (py [] n) ds with | some xs=>some (PyData.tuple xs) | none=>none)=some k:=e;have all:∀ {l:List D} {ks:List PyData},Bx (py [] n) l=some ks->Cp ks=true->Np ks=l:=fun {l}=>by
   induction l with
   | nil=>intro ks e _;cases e;rfl
   | cons d r ih =>
    intro ks e c;simp only [Bx] at e;cases e1:py [] n d with
    | none=>rw [e1] at e;cases e
    | some b =>
     rw [e1] at e;cases e2:Bx (py [] n) r with
     | none=>rw [e2] at e;cases e
     | some bs =>
      rw [e2] at e;cases e;have c:(kCl b&&Cp bs)=true:=by simpa [Cp] using c
      rw [Bool.and_eq_true] at c;rw [Np,dX n d b e1 c.1,ih e2 c.2]
  cases e1:Bx (py [] n) ds with
  | none=>rw [e1] at e;cases e
  | some xs =>
   rw [e1] at e;cases e;rw [toD,all e1 (by simpa [kCl] using c)]
 | n+1,.rol ds,k,e,c=>by
  have e:(match Bx (py [] n) ds with | some xs=>some (PyData.list xs) | none=>none)=some k:=e;split at e
  ·cases e;simp [kCl] at c
  ·cases e
 | 0,.tup _,_,e,_=>by cases e
 | 0,.rol _,_,e,_=>by cases e
 | 0,.ref _,_,e,_=>by cases e
 | _+1,.ref _,_,e,_=>by cases e
 | 0,.obj ..,_,e,_=>by cases e
 | _+1,.obj ..,_,e,_=>by cases e
 | 0,.fn _,_,e,_=>by cases e
 | _+1,.fn _,_,e,_=>by cases e
 | 0,.lam,_,e,_=>by cases e
 | _+1,.lam,_,e,_=>by cases e
 | 0,.clo ..,_,e,_=>by cases e
 | _+1,.clo ..,_,e,_=>by cases e
mutual
theorem dY (mh:MH):∀ (k:PyData) (n:Nat),kCl k=true->k.canLay0=true->k.depth<=n->py mh n (toD k)=some k
 | .int _,n,_,_,_=>by cases n <;> rfl
 | .str x,n,_,l,_=>by
  have l:PyData.strOk x=true:=l;cases n <;> (show (if PyData.strOk x=true then some (PyData.str x) else none)=_;rw [if_pos l])
 | .tuple xs,0,_,_,h=>by simp [PyData.depth] at h
 | .tuple xs,n+1,c,l,h=>by
  have:=Xw mh xs n (by simpa [kCl] using c) (by simpa [PyData.canLay0] using l) (by simpa [PyData.depth] using h);show (match Bx (py mh n) (Np xs) with | some xs=>some (PyData.tuple xs) | none=>none)=_;rw [this]
 | .none,_,c,_,_ | .bool _,_,c,_,_ | .list _,_,c,_,_ | .dict _,_,c,_,_=>by simp [kCl] at c
theorem Xw (mh:MH):∀ (ks:List PyData) (n:Nat),Cp ks=true->PyData.canLayAll0 ks=true->PyData.depthAll ks<=n->Bx (py mh n) (Np ks)=some ks
 | [],_,_,_,_=>rfl
 | x::r,n,c,l,h=>by
  have c:(kCl x&&Cp r)=true:=by simpa [Cp] using c
  have l:(x.canLay0&&PyData.canLayAll0 r)=true:=by simpa [PyData.canLayAll0] using l
  rw [Bool.and_eq_true] at c l;simp only [PyData.depthAll] at h;simp only [Np,Bx,dY mh x n c.1 l.1 (by omega),Xw mh r n c.2 l.2 (by omega)]
end
section
variable {X:Cx}{pins:List (Addr×Obj)}{σ:St}{s:Shared}{mh:MH}
theorem Gf {k:PyData}{b:Addr}{H:Hp}{ρ:List Addr}(I:Inv X pins σ H s) (rs:RS X.K H ρ mh) (o:kOk k) (r:RD X.K H ρ (toD k) (.ref b)):IsK s.heap k b:=by
 obtain ⟨⟨as,q⟩,l,d⟩:=Bm I rs 8 _ _ (.ref b) k (dY mh k 8 o.1 o.2.1 o.2.2) r rfl;exact ⟨o.1,l,d,as,q⟩
theorem J5 {d:D}{v:V}{u:Value}{k:PyData}{H:Hp}{ρ:List Addr}(I:Inv X pins σ H s) (rs:RS X.K H ρ mh) (e:kD d=some k) (r:RD X.K H ρ d v) (rv:RelV v u):∃ b,v=.ref b/\u=.ref b/\kOk k/\RD X.K H ρ (toD k) (.ref b):=by
 unfold kD at e;split at e
 ·rename_i ks e1;split at e
  ·rename_i c;cases e;obtain ⟨⟨as,q⟩,l,dp⟩:=Bm I rs 8 _ _ u _ (V1 mh 8 d _ e1) r rv;have ed:=dX 8 d _ e1 c;rw [toD] at ed;subst ed;cases r with
   | @tup _ a xs s1 r1 =>
    cases (show u=Value.ref a from rv);exact ⟨a,rfl,rfl,⟨c,l,dp⟩,.tup s1 r1⟩
  ·cases e
 ·cases e
noncomputable abbrev PN:List (PyData×Addr×V)->List (PyData×Addr×Value)->Prop:=Paired fun p q=>p.1=q.1/\p.2.1=q.2.1/\RelV p.2.2 q.2.2
theorem O6 {n:Nat}{kvs:List (PyData×D)}{v:V}{H:Hp}{ρ:List Addr}(I:Inv X pins σ H s) (rs:RS X.K H ρ mh) (e:mh[n]?=some (.dtk kvs)) (r:RD X.K H ρ (.ref n) v):∃ a xs ys,v=.ref a/\ρ[n]?=some a/\H a=some (.dN xs)/\KN X.K H ρ kvs xs/\xs.length<=sizeLine/\(a==sysModules)=false/\PN xs ys/\s.heap.DictOfH (Fj X.prog X.w) a ys:=by
 cases r with
 | @ref _ a ha =>
  obtain ⟨a',ha',ro⟩:=rs.at e;rw [ha] at ha';cases ha';obtain ⟨xs,q,kn⟩:=ro;obtain ⟨z,y,ys,p,o,es,ep,h1,h2,h3,h4,h5⟩:=(show Cg X.prog X.w H s.heap a (.dN xs) from I.hok a _ q);refine ⟨a,xs,ys,rfl,ha,q,kn,z,y,p,o,es,ep,h1,h2,h3,h4,?_,h5⟩
  clear h4 h5 q z e
  induction kn generalizing ys with
  | nil=>cases p;intro x hx;exact nomatch hx
  | cons ok rk rd _ ih =>
   cases p with
   | cons h t =>
    intro x hx;rcases List.mem_cons.mp hx with rfl|hx
    ·rw [← h.1,← h.2.1];exact Gf I rs ok rk
    ·exact ih _ t x hx
end
section
variable {K:PySem.W.Frag}{H:Hp}{ρ:List Addr}
theorem Zz {p:PyData×D}{r:List (PyData×D)}{k:PyData}:Iw (p::r) k=if p.1=k then some p.2 else Iw r k:=by
 unfold Iw;rw [List.find?_cons]
 by_cases e:p.1=k
 ·rw [decide_eq_true e,if_pos e];rfl
 ·rw [decide_eq_false e,if_neg e]
theorem V2 {p:PyData×Addr×Value}{r:List (PyData×Addr×Value)}{k:PyData}:atKey (p::r) k=if p.1=k then some p.2 else atKey r k:=by
 unfold atKey;rw [List.find?_cons]
 by_cases e:p.1=k
 ·rw [decide_eq_true e,if_pos e];rfl
 ·rw [decide_eq_false e,if_neg e]
theorem KN.val (k:PyData) {kvs:List (PyData×D)}{xs:List (PyData×Addr×V)}(h:KN K H ρ kvs xs):∀ {ys:List (PyData×Addr×Value)},PN xs ys->(∃ d v b u,Iw kvs k=some d/\atKey ys k=some (b,u)/\RD K H ρ d v/\RelV v u)\/(Iw kvs k=none/\atKey ys k=none):=by
 induction h with
 | nil=>intro ys p;cases p;exact .inr ⟨rfl,rfl⟩
 | @cons k' d b v kvs xs ok rk rd _ ih =>
  intro ys p;cases p with
  | @cons _ q _ qs h t =>
   rw [Zz,V2]
   by_cases e:k'=k
   ·rw [if_pos e,if_pos (h.1.symm.trans e)];exact .inl ⟨d,v,q.2.1,q.2.2,rfl,rfl,rd,h.2.2⟩
   ·rw [if_neg e,if_neg fun z=>e (h.1.trans z)];exact ih t
noncomputable def dZ (xs:List (PyData×Addr×V)) (k:PyData) (b:Addr) (v:V):Bool->List (PyData×Addr×V)
 | true=>xs.map fun x=>if x.1=k then (x.1,x.2.1,v) else x
 | false=>xs++[(k,b,v)]
theorem KN.put {k:PyData}{d:D}{b:Addr}{v:V}(ok:kOk k) (rk:RD K H ρ (toD k) (.ref b)) (rd:RD K H ρ d v) {kvs:List (PyData×D)}{xs:List (PyData×Addr×V)}(h:KN K H ρ kvs xs):KN K H ρ (mQ kvs k d) (dZ xs k b v (Iw kvs k).isSome):=by
 unfold mQ;cases (Iw kvs k).isSome with
 | false =>
  rw [if_neg (by decide)];show KN K H ρ (kvs++[(k,d)]) (xs++[(k,b,v)])
  induction h with
  | nil=>exact .cons ok rk rd .nil
  | cons a b c _ ih=>exact .cons a b c ih
 | true =>
  rw [if_pos rfl];show KN K H ρ (kvs.map fun e=>if e.1=k then (e.1,d) else e) (xs.map fun x=>if x.1=k then (x.1,x.2.1,v) else x)
  induction h with
  | nil=>exact .nil
  | @cons k' d' b' v' _ _ a b c _ ih =>
   rw [List.map_cons,List.map_cons]
   by_cases e:k'=k
   ·rw [if_pos e,if_pos e];exact .cons a b rd ih
   ·rw [if_neg e,if_neg e];exact .cons a b c ih
theorem PN.put {k:PyData}{b:Addr}{v:V}{u:Value}(rv:RelV v u) {t:Bool}{xs:List (PyData×Addr×V)}{ys:List (PyData×Addr×Value)}(h:PN xs ys) (e:t=(atKey ys k).isSome):PN (dZ xs k b v t) (storedH ys k b u):=by
 unfold storedH;rw [← e];cases t with
 | false=>rw [if_neg (by decide)];exact Paired.snoc h ⟨rfl,rfl,rv⟩
 | true =>
  rw [if_pos rfl];show PN (xs.map fun x=>if x.1=k then (x.1,x.2.1,v) else x) (ys.map (putAt k u))
  clear e
  induction h with
  | nil=>exact .nil
  | @cons p q ps qs h t ih =>
   rw [List.map_cons,List.map_cons];refine .cons ?_ ih;unfold putAt
   by_cases e:p.1=k
   ·rw [if_pos e,if_pos (h.1.symm.trans e)];exact ⟨h.1,h.2.1,rv⟩
   ·rw [if_neg e,if_neg fun z=>e (h.1.trans z)];exact h
theorem eE {xs:List (PyData×Addr×V)}{k:PyData}{b:Addr}{v:V}(t:Bool):(dZ xs k b v t).length<=xs.length+1:=by
 cases t with
 | true=>show (xs.map _).length<=_;rw [List.length_map];omega
 | false=>show (xs++[_]).length<=_;rw [List.length_append];exact Nat.le_refl _
theorem KN.length {kvs:List (PyData×D)}{xs:List (PyData×Addr×V)}(h:KN K H ρ kvs xs):xs.length=kvs.length:=by
 induction h with
 | nil=>rfl
 | cons _ _ _ _ ih=>rw [List.length_cons,List.length_cons,ih]
theorem Ev.dn {p:Addr}{o z:HO}(hp:H p=some o) (h:(∃ ys,o=.dN ys)\/∃ ys,o=.dK ys):Ev K H ρ (upd H p z) ρ:=by
 have ne:∀ {a:Addr} {u:HO},H a=some u->(∀ ys,u≠.dN ys)->(∀ ys,u≠.dK ys)->a≠p:=fun {a u} e n1 n2 q=>by
  rw [q,hp] at e;cases e;rcases h with ⟨ys,h⟩|⟨ys,h⟩
  ·exact n1 ys h
  ·exact n2 ys h
 refine ⟨fun a xs h=>?_,List.prefix_refl _,fun a xs h=>?_,fun a C dx fs h=>?_,fun a o' u' h=>?_⟩
 ·rcases h with (h|⟨ob,h⟩)|h
  ·exact .inl (.inl (by rw [Ab (ne h (fun _ z=>nomatch z) fun _ z=>nomatch z)];exact h))
  ·exact .inl (.inr ⟨ob,by rw [Ab (ne h (fun _ z=>nomatch z) fun _ z=>nomatch z)];exact h⟩)
  ·exact .inr h
 ·rcases h with ⟨ob,h⟩|h
  ·exact .inl ⟨ob,by rw [Ab (ne h (fun _ z=>nomatch z) fun _ z=>nomatch z)];exact h⟩
  ·exact .inr h
 ·rw [Ab (ne h (fun _ z=>nomatch z) fun _ z=>nomatch z)];exact h
 ·rw [Ab (ne h (fun _ z=>nomatch z) fun _ z=>nomatch z)];exact h
theorem RS.setN {mh:MH}{n:Nat}{p:Addr}{o:HO}{xs:List (PyData×Addr×V)}{kvs:List (PyData×D)}(h:RS K H ρ mh) (hn:ρ[n]?=some p) (hp:H p=some o) (ho:(∃ ys,o=.dN ys)\/∃ ys,o=.dK ys) (r:KN K H ρ kvs xs):RS K (upd H p (.dN xs)) ρ (mh.set n (.dtk kvs)):=by
 have ev:Ev K H ρ (upd H p (.dN xs)) ρ:=Ev.dn hp ho;refine ⟨by rw [List.length_set];exact h.len,h.nd,fun m a ob e1 e2=>?_⟩
 by_cases e:m=n
 ·subst e;rw [hn] at e1;cases e1;rw [List.getElem?_set_self (by rw [← h.len];exact (List.getElem?_eq_some_iff.mp hn).1)] at e2;cases e2;exact ⟨xs,Ak,r.mono ev⟩
 ·rw [List.getElem?_set_ne (Ne.symm e)] at e2;refine (h.obj m a ob e1 e2).mono ev (Ab fun z=>e ?_);subst z;exact (List.getElem?_inj (List.getElem?_eq_some_iff.mp e1).1 h.nd).mp (e1.trans hn.symm)
end
noncomputable def Tz (kvs:List (Key×D)) (y:D):Option (Option D):=match Qu y with
 | some k=>some (Ci kvs k)
 | none=>if kvs.isEmpty then (match kD y with | some _=>some none | none=>none) else none
theorem Jo {kvs:List (Key×D)}{y:D}{o:Option D}(h:Tz kvs y=some o):(∃ k,Qu y=some k/\o=Ci kvs k)\/(kvs=[]/\∃ k,kD y=some k/\o=none):=by
 unfold Tz at h;split at h
 ·rename_i k e;cases h;exact .inl ⟨k,e,rfl⟩
 ·split at h
  ·rename_i e;split at h
   ·rename_i k ek;cases h;exact .inr ⟨List.isEmpty_iff.mp e,k,ek,rfl⟩
   ·cases h
  ·cases h
theorem Qw {P:Program}{w:World}{h:Heap}{a:Addr}(dd:h.DictOf (Be P w) a []):h.DictOfH (Fj P w) a []:=by
 obtain ⟨o,es,ep,h1,h2,h3,_,h5,_⟩:=dd;have e:es.toList=[]:=by
  cases q:es.toList with
  | nil=>rfl
  | cons x r=>rw [q] at h5;cases h5
 refine ⟨o,es,ep,h1,h2,h3,by rw [e];rfl,?_,List.nodup_nil⟩;intro x hx;cases hx
noncomputable def Iz (x:D) (mh:MH):Option (D->Option (Option D)):=match x with
 | .ref n=>(match mh[n]? with | some (.dct kvs)=>some (Tz kvs) | some (.dtk kvs)=>some (fun y=>(kD y).map (Iw kvs)) | _=>none)
 | _=>none
theorem Hz {x:D}{mh:MH}{f:D->Option (Option D)}(h:Iz x mh=some f):∃ n,x=.ref n/\((∃ kvs,mh[n]?=some (.dct kvs)/\f=Tz kvs)\/∃ kvs,mh[n]?=some (.dtk kvs)/\f=fun y=>(kD y).map (Iw kvs)):=by
 cases x with
 | ref n =>
  have h:(match mh[n]? with | some (.dct kvs)=>some (Tz kvs) | some (.dtk kvs)=>some (fun y=>(kD y).map (Iw kvs)) | _=>none)=some f:=h;split at h
  ·rename_i e;cases h;exact ⟨n,rfl,.inl ⟨_,e,rfl⟩⟩
  ·rename_i e;cases h;exact ⟨n,rfl,.inr ⟨_,e,rfl⟩⟩
  ·cases h
 | _=>cases h
theorem O7 {n:Nat}{mh:MH}{ds:List D}(h:mh[n]?=some (.lst ds)):Iz (.ref n) mh=none:=by
 unfold Iz;simp only [h]
theorem O8 {n:Nat}{mh:MH}{kvs:List (Key×D)}(h:mh[n]?=some (.dct kvs)):Iz (.ref n) mh=some (Tz kvs):=by
 unfold Iz;simp only [h]
theorem Cz {K:PySem.W.Frag}{H:Hp}{ρ:List Addr}{mh:MH}{n:Nat}{v:V}{kvs:List (Key×D)}(rs:RS K H ρ mh) (r:RD K H ρ (.ref n) v) (e:mh[n]?=some (.dct kvs)):∃ a xs,v=.ref a/\H a=some (.dK xs)/\RK K H ρ kvs xs:=by
 cases r with
 | @ref _ a ha =>
  obtain ⟨a',ha',ro⟩:=rs.at e;rw [ha] at ha';cases ha';obtain ⟨xs,q,k,r⟩:=ro;exact ⟨a,xs,rfl,q,k,r⟩
theorem Ja {K:PySem.W.Frag}{H:Hp}{ρ:List Addr}{x:D}{v:V}{k:Key}(r:RD K H ρ x v) (h:Qu x=some k):v=kV k:=by
 cases r with
 | int i=>cases h;rfl
 | str x=>cases h;rfl
 | _=>cases h
noncomputable def inD (neg:Bool) (x c:D) (mh:MH):Option (D×MH):=match Iz c mh with
 | none=>cB neg x c mh
 | some f=>match f x with
  | some o=>some (.bl (if neg then !o.isSome else o.isSome),mh)
  | none=>none
noncomputable def ixD (x y:D) (mh:MH):Option (D×MH):=match Iz x mh with
 | none=>Zh x y mh
 | some f=>match f y with
  | some (some d)=>some (d,mh)
  | _=>none
section
variable {X:Cx}
theorem Ma (hu:X.A.units+64 < cLine):X.A.units+1 < cLine:=by omega
theorem H9 (hu:X.A.units+64 < cLine):(Fj X.prog X.w).room X.A.in1:=by
 show X.A.in1.units+8 < cLine;rw [Around.in1_units];omega
theorem KN.some_eq {K:PySem.W.Frag}{H:Hp}{ρ:List Addr}(k:PyData) {kvs:List (PyData×D)}{xs:List (PyData×Addr×V)}(h:KN K H ρ kvs xs) {ys:List (PyData×Addr×Value)}(p:PN xs ys):(Iw kvs k).isSome=(atKey ys k).isSome:=by
 rcases h.val k p with ⟨d,v,b,u,e1,e2,_⟩ | ⟨e1,e2⟩ <;> rw [e1,e2] <;> rfl
theorem uW (hu:X.A.units+64 < cLine):OpR X (compareOp .In) (rD X.K (inD false)):=by
 rintro pins s σ H x y v u Q I rx ry ⟨ρ,mh,dx,dy,d,mh',q,rs,r1,r2,co⟩;unfold inD at q;split at q
 ·exact lG hu pins s σ H x y v u Q I rx ry ⟨ρ,mh,dx,dy,d,mh',q,rs,r1,r2,co⟩
 ·rename_i f ek;obtain ⟨n,rfl,⟨kvs,en,rfl⟩ | ⟨kvs,en,rfl⟩⟩:=Hz ek
  ·obtain ⟨a,xs,rfl,hd,rk⟩:=Cz rs r2 en;split at q
   ·rename_i o e;cases q;rcases Jo e with ⟨k,e',rfl⟩|⟨rfl,k,e',rfl⟩
    rotate_left
    ·obtain ⟨b,rfl,rfl,ok,rk'⟩:=J5 I rs e' r1 rx;cases ry;cases rk.inv0;obtain ⟨z,lo,vs,rel,dd⟩:=J0 I.hok hd;cases rel;exact wpAny_in_heap (H9 hu) (Gf I rs ok rk') lo (Qw dd) ⟨.bl _,H,I.tok _,rfl,co H ρ _ Ev.refl rs (.bl _)⟩
    cases Ja r1 e';cases ry;exact Abr (Ma hu) I (Ze.k hd) rx fun s' I'=>⟨.bl _,H,I',rfl,by rw [rk.some_eq];exact co H ρ _ Ev.refl rs (.bl _)⟩
   ·cases q
  ·obtain ⟨a,xs,ys,rfl,hn,hd,kn,z,lo,pn,dd⟩:=O6 I rs en r2;split at q
   ·rename_i o e;cases q;obtain ⟨k,e',rfl⟩:=Option.map_eq_some_iff.mp e;obtain ⟨b,rfl,rfl,ok,rk⟩:=J5 I rs e' r1 rx;cases ry;exact wpAny_in_heap (H9 hu) (Gf I rs ok rk) lo dd ⟨.bl _,H,I.tok _,rfl,by rw [← kn.some_eq k pn];exact co H ρ _ Ev.refl rs (.bl _)⟩
   ·cases q
theorem Z4 (hu:X.A.units+64 < cLine):OpR X (compareOp .NotIn) (rD X.K (inD true)):=by
 rintro pins s σ H x y v u Q I rx ry ⟨ρ,mh,dx,dy,d,mh',q,rs,r1,r2,co⟩;unfold inD at q;split at q
 ·exact Vm hu pins s σ H x y v u Q I rx ry ⟨ρ,mh,dx,dy,d,mh',q,rs,r1,r2,co⟩
 ·rename_i f ek;obtain ⟨n,rfl,⟨kvs,en,rfl⟩ | ⟨kvs,en,rfl⟩⟩:=Hz ek
  ·obtain ⟨a,xs,rfl,hd,rk⟩:=Cz rs r2 en;split at q
   ·rename_i o e;cases q;rcases Jo e with ⟨k,e',rfl⟩|⟨rfl,k,e',rfl⟩
    rotate_left
    ·obtain ⟨b,rfl,rfl,ok,rk'⟩:=J5 I rs e' r1 rx;cases ry;cases rk.inv0;obtain ⟨z,lo,vs,rel,dd⟩:=J0 I.hok hd;cases rel;exact wpAny_notIn_heap (H9 hu) (Gf I rs ok rk') lo (Qw dd) ⟨.bl _,H,I.tok _,rfl,co H ρ _ Ev.refl rs (.bl _)⟩
    cases Ja r1 e';cases ry;exact kE (Ma hu) I (Ze.k hd) rx fun s' I'=>⟨.bl _,H,I',rfl,by rw [rk.some_eq];exact co H ρ _ Ev.refl rs (.bl _)⟩
   ·cases q
  ·obtain ⟨a,xs,ys,rfl,hn,hd,kn,z,lo,pn,dd⟩:=O6 I rs en r2;split at q
   ·rename_i o e;cases q;obtain ⟨k,e',rfl⟩:=Option.map_eq_some_iff.mp e;obtain ⟨b,rfl,rfl,ok,rk⟩:=J5 I rs e' r1 rx;cases ry;exact wpAny_notIn_heap (H9 hu) (Gf I rs ok rk) lo dd ⟨.bl _,H,I.tok _,rfl,by rw [← kn.some_eq k pn];exact co H ρ _ Ev.refl rs (.bl _)⟩
   ·cases q
theorem Aby (hu:X.A.units+64 < cLine):IxR X (rD X.K ixD):=by
 rintro value slice pins s σ H x y v u Q I rx ry ⟨ρ,mh,dx,dy,d,mh',q,rs,r1,r2,co⟩ hs;unfold ixD at q;split at q
 ·exact zO value slice pins s σ H x y v u Q I rx ry ⟨ρ,mh,dx,dy,d,mh',q,rs,r1,r2,co⟩ hs
 ·rename_i f ek;obtain ⟨n,rfl,⟨kvs,en,rfl⟩ | ⟨kvs,en,rfl⟩⟩:=Hz ek
  ·obtain ⟨a,xs,rfl,hd,rk⟩:=Cz rs r1 en;split at q
   ·rename_i d' e;cases q;rcases Jo e with ⟨k,e,e2⟩|⟨_,k,_,e2⟩
    rotate_left
    ·cases e2
    have e2:=e2.symm;cases Ja r2 e;cases rx;rcases rk.val k with ⟨d2,v2,g1,g2,g3⟩|⟨g1,g2⟩
    ·rw [e2] at g1;cases g1;obtain ⟨z,hn,vs,rel,dd⟩:=J0 I.hok hd;obtain ⟨w',hw,rw'⟩:=Hq.some_of (v:=v2) (o:=valueAt vs k) (by rw [← g2];exact rel.val k);exact subscriptTail_builtinR (x:=w') dd.typeIs PySem.F.slot_dict_getitem.lookup (wpAny_getItem_of (Og ry) dd.mapOf hw ⟨rfl,⟨v2,H,I.tok _,rw',co H ρ _ Ev.refl rs g3⟩⟩) hs
    ·rw [e2] at g1;cases g1
   ·cases q
  ·obtain ⟨a,xs,ys,rfl,hn,hd,kn,z,lo,pn,dd⟩:=O6 I rs en r1;split at q
   ·rename_i d' e;cases q;obtain ⟨k,e,e2⟩:=Option.map_eq_some_iff.mp e;obtain ⟨b,rfl,rfl,ok,rk⟩:=J5 I rs e r2 ry;cases rx;rcases kn.val k pn with ⟨d2,v2,b2,u2,g1,g2,g3,g4⟩|⟨g1,g2⟩
    ·rw [e2] at g1;cases g1;exact subscriptTail_builtinR (x:=u2) dd.typeIs PySem.F.slot_dict_getitem.lookup (wpAny_getItem_heap (H9 hu) (Gf I rs ok rk) dd g2 ⟨rfl,⟨v2,H,I.tok _,g4,co H ρ _ Ev.refl rs g3⟩⟩) hs
    ·rw [e2] at g1;cases g1
   ·cases q
noncomputable def Abz:Const->Option Str
 | .str x=>some x
 | _=>none
noncomputable def Ab0:Expr->Option Str
 | .Constant c _ _=>Abz c
 | _=>none
noncomputable def Ab1:Option Expr->Option Str
 | some e=>Ab0 e
 | none=>none
noncomputable def pP:List (Option Expr)->List Expr->Bool
 | [],[]=>true
 | k::ks,_::vs=>(Ab1 k).isSome&&pP ks vs
 | _,_=>false
end
section
variable {X:Cx}{a:Addr}{kvs:List (Str×D)}
variable {e:Expr}{es:List Expr}{x:Str}{p apos cpos:Pos}
end
section
variable {X:Cx}{pos pos':Pos}
noncomputable def newD:DM D:=fun _ mh=>some (.ref mh.length,mh++[.dct []])
theorem mU:DE X (.Dict [] [] pos) newD:=fun loc mh=>by
 refine Ar Sq ?_;rintro σ H Q ⟨ρ,d,mh',q,rl,rs,co⟩;cases q;exact fun p hp=>co _ (ρ++[p]) _ (Ev.newL hp) (rs.newD hp RK.nil) (.ref (rs.last p))
noncomputable def J6 (o i v:D) (h:MH):Option MH:=match o with
 | .ref n=>(match h[n]? with
  | some (.dct kvs)=>(match Qu i with
   | some k=>if kvs.length < 1000000 then some (h.set n (.dct (putD kvs k v))) else none
   | none=>(match kvs with
    | []=>(match kD i with | some k=>some (h.set n (.dtk [(k,v)])) | none=>none)
    | _=>none))
  | some (.dtk kvs)=>(match kD i with | some k=>if kvs.length < 1000000 then some (h.set n (.dtk (mQ kvs k v))) else none | none=>none)
  | _=>none)
 | _=>none
theorem Mf {o i v:D}{h h':MH}(q:J6 o i v h=some h'):∃ n,o=.ref n/\((∃ kvs k,h[n]?=some (.dct kvs)/\Qu i=some k/\kvs.length < 1000000/\h'=h.set n (.dct (putD kvs k v)))\/(∃ k,h[n]?=some (.dct [])/\kD i=some k/\h'=h.set n (.dtk [(k,v)]))\/∃ kvs k,h[n]?=some (.dtk kvs)/\kD i=some k/\kvs.length < 1000000/\h'=h.set n (.dtk (mQ kvs k v))):=by
 unfold J6 at q;split at q
 ·rename_i n;refine ⟨n,rfl,?_⟩;split at q
  ·rename_i kvs en;split at q
   ·rename_i k ek;split at q
    ·rename_i hz;cases q;exact .inl ⟨kvs,k,en,ek,hz,rfl⟩
    ·cases q
   ·split at q
    ·split at q
     ·rename_i k ek;cases q;exact .inr (.inl ⟨k,en,ek,rfl⟩)
     ·cases q
    ·cases q
  ·rename_i kvs en;split at q
   ·rename_i k ek;split at q
    ·rename_i hz;cases q;exact .inr (.inr ⟨kvs,k,en,ek,hz,rfl⟩)
    ·cases q
   ·cases q
  ·cases q
 ·cases q
noncomputable def eF (mv mo mi:DM D):SM:=fun loc mh=>match mv loc mh with
 | none=>none
 | some (v,h1)=>match mo loc h1 with
  | none=>none
  | some (o,h2)=>match mi loc h2 with
   | none=>none
   | some (i,h3)=>match J6 o i v h3 with
    | some h4=>some (.nx,loc,h4)
    | none=>none
theorem uX {o i value:Expr}{mv mo mi:DM D}(hu:X.A.units+64 < cLine) (ho:DE X o mo) (hi:DE X i mi) (hv:DE X value mv) (hs:swapsWith value (some (.Subscript o i pos')) pos.line X.env=pure false):DS X (.Assign [.Subscript o i pos'] value pos) (eF mv mo mi):=by
 rintro pins s σ H N I ⟨loc,mh,ρ,f,loc',mh',q,rl,rs,co⟩;unfold eF at q;split at q
 ·cases q
 rename_i v h1 ev;split at q
 ·cases q
 rename_i ov h2 eo;split at q
 ·cases q
 rename_i iv h3 ei;split at q
 ·rename_i h4 ep;cases q;refine wpAny_Assign_Subscript (thn (hv.x pins s σ H (fun v1 H1=>∃ ρ1,Ev X.K H ρ H1 ρ1/\RS X.K H1 ρ1 h1/\RD X.K H1 ρ1 v v1) I ⟨loc,mh,ρ,v,h1,ev,rl,rs,fun H1 ρ1 v1 e1 rs1 r1=>⟨ρ1,e1,rs1,r1⟩⟩) ?_) hs;rintro r s1 ⟨v1,H1,I1,rv,ρ1,e1,rs1,r1⟩;refine thn (ho.x pins s1 σ H1 (fun v2 H2=>∃ ρ2,Ev X.K H1 ρ1 H2 ρ2/\RS X.K H2 ρ2 h2/\RD X.K H2 ρ2 ov v2) I1 ⟨loc,h1,ρ1,ov,h2,eo,rl.mono e1,rs1,fun H2 ρ2 v2 e2 rs2 r2=>⟨ρ2,e2,rs2,r2⟩⟩) ?_;rintro u s2 ⟨v2,H2,I2,ru,ρ2,e2,rs2,r2⟩;refine thn (hi.x pins s2 σ H2 (fun v3 H3=>∃ ρ3,Ev X.K H2 ρ2 H3 ρ3/\RS X.K H3 ρ3 h3/\RD X.K H3 ρ3 iv v3) I2 ⟨loc,h2,ρ2,iv,h3,ei,(rl.mono e1).mono e2,rs2,fun H3 ρ3 v3 e3 rs3 r3=>⟨ρ3,e3,rs3,r3⟩⟩) ?_;rintro ui s3 ⟨v3,H3,I3,ri,ρ3,e3,rs3,r3⟩;have r2:=r2.mono e3;have rv3:=(r1.mono e2).mono e3;have rl3:=((rl.mono e1).mono e2).mono e3;have e13:=e1.trans (e2.trans e3);obtain ⟨n,rfl,⟨kvs,k,en,ek,hz,rfl⟩ | ⟨k,en,ek,rfl⟩ | ⟨kvs,k,en,ek,hz,rfl⟩⟩:=Mf ep
  ·obtain ⟨a,xs,rfl,hd,rk⟩:=Cz rs3 r2 en;cases Ja r3 ek;have hn:ρ3[n]?=some a:=by cases r2 with | ref h=>exact h
   cases (show u=Value.ref a from ru);exact Zf (Ma hu) I3 (jZ.k hd (by rw [rk.length];exact Nat.lt_of_lt_of_le hz (by decide))) ri rv fun s4 I4=>⟨σ,_,I4,co _ ρ3 σ (e13.trans (Ev.dk hd)) (rs3.setD hn hd (rk.put k rv3)) (rl3.mono (Ev.dk hd))⟩
  ·obtain ⟨a,xs,rfl,hd,rk⟩:=Cz rs3 r2 en;have hn:ρ3[n]?=some a:=by cases r2 with | ref h=>exact h
   cases (show u=Value.ref a from ru);cases rk.inv0;obtain ⟨b,rfl,rfl,ok,rkk⟩:=J5 I3 rs3 ek r3 ri;obtain ⟨z,lo,vs,rel,dd⟩:=J0 I3.hok hd;cases rel;have pn:PN [(k,b,v1)] (storedH [] k b r):=.cons ⟨rfl,rfl,rv⟩ .nil;refine wpAny_setItem_heap (hsz:=by decide) (H9 hu) (Gf I3 rs3 ok rkk) (Qw dd) fun h' dd' hs'=>?_
   obtain ⟨q,es,ep',hq,g2,g3,g4,_,g5⟩:=dd';have ho:(∃ ys,HO.dK []=.dN ys)\/∃ ys,HO.dK []=.dK ys:=.inr ⟨_,rfl⟩;exact ⟨σ,_,Gx I3 (by rw [hd];exact True.intro) hs' ⟨q,hq⟩ (ob:=.dN [(k,b,v1)]) ⟨(by decide:1<=sizeLine),lo,_,pn,q,es,ep',hq,g2,g3,g4,g5⟩,co _ ρ3 σ (e13.trans (Ev.dn hd ho)) (rs3.setN hn hd ho (.cons ok rkk rv3 .nil)) (rl3.mono (Ev.dn hd ho))⟩
  ·obtain ⟨a,xs,ys,rfl,hn,hd,kn,z,lo,pn,dd⟩:=O6 I3 rs3 en r2;cases (show u=Value.ref a from ru);obtain ⟨b,rfl,rfl,ok,rkk⟩:=J5 I3 rs3 ek r3 ri;have hz':xs.length < 1000000:=by rw [kn.length];exact hz
   have hl:(dZ xs k b v1 (Iw kvs k).isSome).length<=sizeLine:=Nat.le_trans (eE _) (Nat.le_trans hz' (by decide));refine wpAny_setItem_heap (hsz:=by rw [← Paired.length pn];exact z) (H9 hu) (Gf I3 rs3 ok rkk) dd fun h' dd' hs'=>?_
   obtain ⟨q,es,ep',hq,g2,g3,g4,_,g5⟩:=dd';have ho:(∃ zs,HO.dN xs=.dN zs)\/∃ zs,HO.dN xs=.dK zs:=.inl ⟨_,rfl⟩;exact ⟨σ,_,Gx I3 (by rw [hd];exact True.intro) hs' ⟨q,hq⟩ (ob:=.dN (dZ xs k b v1 (Iw kvs k).isSome)) ⟨hl,lo,_,PN.put rv pn (kn.some_eq k pn),q,es,ep',hq,g2,g3,g4,g5⟩,co _ ρ3 σ (e13.trans (Ev.dn hd ho)) (rs3.setN hn hd ho (kn.put ok rkk rv3)) (rl3.mono (Ev.dn hd ho))⟩
 ·cases q
noncomputable def orS (m1 m2:SM):SM:=fun loc mh=>match m1 loc mh with
 | some r=>some r
 | none=>m2 loc mh
theorem zW {st:Stmt}{m1 m2:SM}(h1:DS X st m1) (h2:DS X st m2):DS X st (orS m1 m2):=by
 rintro pins s σ H N I ⟨loc,mh,ρ,f,loc',mh',q,rest⟩;unfold orS at q;split at q
 ·rename_i e;cases q;exact h1 pins s σ H N I ⟨loc,mh,ρ,f,loc',mh',e,rest⟩
 ·exact h2 pins s σ H N I ⟨loc,mh,ρ,f,loc',mh',q,rest⟩
noncomputable def Qx (o i v:D) (h:MH):Option MH:=match Im o i v h with
 | some h'=>some h'
 | none=>J6 o i v h
noncomputable def Dc (mo mi:DM D):GM:=fun v loc mh=>match mo loc mh with
 | some (o,m1)=>match mi loc m1 with
  | some (i,m2)=>match Qx o i v m2 with
   | some m3=>some (loc,m3)
   | none=>none
  | none=>none
 | none=>none
theorem eN {mv mo mi:DM D}{loc:DL.Loc}{mh:MH}{r:Fl×DL.Loc×MH}(q:Ay mv (Dc mo mi) loc mh=some r):orS (Ay mv (S8 mo mi)) (eF mv mo mi) loc mh=some r:=by
 unfold Ay Dc Qx at q;unfold orS Ay S8 eF;cases ev:mv loc mh with
 | none=>rw [ev] at q;cases q
 | some a =>
  obtain ⟨v,h1⟩:=a;rw [ev] at q;dsimp only at q ⊢;cases eo:mo loc h1 with
  | none=>rw [eo] at q;cases q
  | some b =>
   obtain ⟨o,h2⟩:=b;rw [eo] at q;dsimp only at q ⊢;cases ei:mi loc h2 with
   | none=>rw [ei] at q;cases q
   | some c =>
    obtain ⟨i,h3⟩:=c;rw [ei] at q;dsimp only at q ⊢;cases es:Im o i v h3 with
    | some h4=>rw [es] at q;exact q
    | none =>
     rw [es] at q;dsimp only at q ⊢;cases ep:J6 o i v h3 with
     | some h4=>rw [ep] at q;exact q
     | none=>rw [ep] at q;cases q
theorem mV {st:Stmt}{mv mo mi:DM D}(h1:DS X st (Ay mv (S8 mo mi))) (h2:DS X st (eF mv mo mi)):DS X st (Ay mv (Dc mo mi)):=by
 rintro pins s σ H N I ⟨loc,mh,ρ,f,loc',mh',q,rest⟩;exact zW h1 h2 pins s σ H N I ⟨loc,mh,ρ,f,loc',mh',eN q,rest⟩
end
section
variable {X:Cx}
end
noncomputable abbrev zX:=CloI->List D->List D->MH->Option (D×MH)
noncomputable def spC (K:PySem.W.Frag) (a:Addr) (I:CloI) (fd:FuncData) (cl:List (Str×Addr)) (g:List D->List D->MH->Option (D×MH)):Sp:=fun vs H Q _=>vs.length=I.ps.length/\(∃ o u,H a=some (.frz o u)/\o.data=.func fd)/\Sv H fd.code fd.qualname/\cl.map (·.1)=I.fr/\(cl.map (·.2)).Nodup /\
 ∃ xs,Ga H (cl.map (·.2)) xs/\∃ ρ mh fs ds d mh',g fs ds mh=some (d,mh')/\RS K H ρ mh/\RDs K H ρ fs xs/\RDs K H ρ ds vs/\∀ H' ρ' v,Ev K H ρ H' ρ'->RS K H' ρ' mh'->RD K H' ρ' d v->Q v H'
noncomputable def pR (P:Program) (w:World) (K:PySem.W.Frag) (mg:Str->Option Value) (base:Heap) (k:Nat) (clo:zX):Prop:=(∀ I a fd cl,CloSc I->pL I fd cl->FnOk P w K mg base CX0 k a fd I.ps (spC K a I fd cl (clo I)))/\∀ I fs ds mh r,clo I fs ds mh=some r->ds.length=I.ps.length
theorem T3 {P:Program}{w:World}{K:PySem.W.Frag}{mg:Str->Option Value}{base:Heap}{k:Nat}:pR P w K mg base k (fun _ _ _ _=>none) :=
 ⟨fun I a fd cl _ _=>⟨fun vs H Q E h=>h.1,fun A outer s H args us vs Q E _ _ _ _ h=>by
  obtain ⟨_,_,_,_,_,_,_,_,_,_,_,_,_,q,_⟩:=h
  cases q⟩,fun I fs ds mh r h=>by cases h⟩
section
variable {X:Cx}
end
section
variable {X:Cx}
end
theorem V3 {prog:Program}{w:World}{d:Addr}(hd:(d==sysModules)=false) :
  MeetsIn prog w (Builtin.«dict.__len__» ⟨[.ref d],[]⟩) (fun _ R s=>∃ o es ep,s.heap.get? d=some o/\o.data=.dict es ep/\R (.ok (.ret (.int es.size s.toks))) { s with toks:=s.toks+1 }) :=
 .of_wp fun A R s ⟨o,es,ep,ho,hdat,h⟩=>by
  show wpAny _ _ (dictSize d >>= _) _ _ s;unfold dictSize;refine wpAny_bind (wpAny_bind (wpAny_dictEntries ho hdat (wpAny_pure ?_)));show wpAny _ _ (Builtin.Dict.pendingCount d >>= _) _ _ s;refine wpAny_bind (wpAny_pendingCount_other hd ?_);refine wpAny_ret_mkInt ?_;rw [Nat.add_zero];exact h
theorem Z5 {prog:Program}{w:World}{A:Around}{E:Value->Shared->Prop}{s:Shared}{d:Addr}{o:Obj}{es ep}{Q:Value->Shared->Prop}(hd:(d==sysModules)=false) (ho:s.heap.get? d=some o) (hc:o.cls=.type "dict") (hdat:o.data=.dict es ep) (hfit:(es.size:Int) < 2 ^ 63)
  (h:Q (.int es.size (s.toks+1)) { s with toks:=s.toks+1+1 }):wpAny (model prog w) A (call (.builtin "len") [.ref d]) Q E s:=by
 refine Calls.call_function_entry kind_len plain_len entry_len (args_len1 _) ?_
 have hT:s.TypeIs (.ref d) "dict":=⟨o,ho,hc⟩
 unfold Builtin.«len»
 refine wpAny_bind (m:=oneArg "len" _) (wpAny_pure ?_)
 refine wpAny_bind (m:=callSpecial? (.ref d) (Str.ofString "__len__")) (wpAny_callSpecial?_slot (name:=Str.ofString "__len__") hT F.slot_dict_len
  (call_meetsIn F.slot_dict_len hT F.entry_dict_len (F.args_dict_len_1 _) (V3 hd) ⟨o,es,ep,ho,hdat,?_⟩))
 show wpAny _ _ _ _ _ { s with toks:=s.toks+1 };refine wpAny_bind (wpAny_holding (wpAny_pure ?_));refine wpAny_bind (wpAny_letGo ?_);show wpAny _ _ (if ((es.size:Nat):Int) < 0 then _ else _) _ _ _;rw [if_neg (by omega)];show wpAny _ _ (if ((es.size:Nat):Int) ≥ 2 ^ 63 then _ else _) _ _ _;rw [if_neg (by omega)];exact wpAny_bind (wpAny_mkInt (wpAny_pure ⟨_,rfl,h⟩))
noncomputable def Ft (ds:List D) (mh:MH):Option (D×MH):=match ds with
 | [.ref n]=>(match mh[n]? with
  | some (.dct kvs)=>some (.int kvs.length,mh)
  | some (.dtk kvs)=>some (.int kvs.length,mh)
  | _=>Oo [.ref n] mh)
 | _=>Oo ds mh
section
variable {X:Cx}
theorem Z6:Ax X (.builtin "len") (rDs X.K Ft):=by
 rintro pins s σ H xs us Q I rv ⟨ρ,mh,ds,d,mh',q,rs,r,co⟩;unfold Ft at q;split at q
 ·rename_i n;obtain ⟨v,rfl,rx⟩:=Li r;obtain ⟨u,rfl,ru⟩:∃ u,us=[u]/\RelV v u:=by cases rv with | cons h t=>cases t;exact ⟨_,rfl,h⟩
  split at q
  ·rename_i kvs en;cases q;obtain ⟨a,xs,rfl,hd,rk⟩:=Cz rs rx en;cases (show u=Value.ref a from ru);exact zB I (.of hd) fun t s' I'=>⟨.int _,H,I',⟨_,rfl⟩,by rw [rk.length];exact co H ρ _ Ev.refl rs (.int _)⟩
  ·rename_i kvs en;cases q;obtain ⟨a,xs,ys,rfl,hn,hd,kn,z,lo,pn,o,es,ep,h1,h2,h3,h4,_⟩:=O6 I rs en rx;cases (show u=Value.ref a from ru);have hl:es.size=kvs.length:=by rw [← kn.length,Paired.length pn,← List.length_map (f:=entryOfKey (Fj X.prog X.w)),← h4];simp
   have hf:(es.size:Int) < 2 ^ 63:=by
    rw [hl,← kn.length];rw [sizeLine_eq] at z;omega
   exact Z5 lo h1 h2.1 h3 hf ⟨.int _,H,(I.tok _),⟨_,rfl⟩,by rw [hl];exact co H ρ _ Ev.refl rs (.int _)⟩
  ·exact Lj pins s σ H _ _ Q I rv ⟨ρ,mh,_,d,mh',q,rs,r,co⟩
 ·exact Lj pins s σ H _ _ Q I rv ⟨ρ,mh,_,d,mh',q,rs,r,co⟩
end
noncomputable def O9:List (Key×D)->Option (List Int)
 | []=>some []
 | (.inl n,_)::r=>(match O9 r with | some ns=>some (n::ns) | none=>none)
 | (.inr _,_)::_=>none
theorem Mg:∀ {kvs:List (Key×D)}{ns:List Int},O9 kvs=some ns->kvs.map (·.1)=ns.map Sum.inl
 | [],_,h=>by cases h;rfl
 | (.inl n,_)::r,ns,h=>by
  simp only [O9] at h;split at h
  ·rename_i ms e;cases h;rw [List.map_cons,List.map_cons,Mg e]
  ·cases h
 | (.inr _,_)::_,_,h=>by cases h
noncomputable def Gg (ds:List D) (mh:MH):Option (D×MH):=match ds with
 | [.ref n]=>(match mh[n]? with
  | some (.dct kvs)=>(match O9 kvs with
   | some ns=>if ns.length < 64 then some (.ref mh.length,mh++[.lst ((sortI ns).map D.int)]) else none
   | none=>none)
  | _=>G3 [.ref n] mh)
 | _=>G3 ds mh
section
open PySem.W
variable {prog:Program}{w:World}{A:Around}{E:Value->Shared->Prop}{s:Shared}{T:String}{a d:Addr}{n:Nat}{P:Nat->Value->Prop}{OK:Heap->Prop}
theorem J7 {R:List Value->Shared->Prop}(K:KdlSrc prog w T a d n P OK) (hh:A.handled=none) (hok:OK s.heap) (hn:n<=sizeLine)
  (hQ:∀ (h':Heap) (tk:Nat) (acc:Array Value),(∀ b ob,s.heap.get? b=some ob->h'.get? b=some ob)->s.heap.objs.size<=h'.objs.size->ItemsOf P acc n->R acc.toList { s with heap:=h',toks:=tk }) :
  wpAny (model prog w) A (collect (.ref a)) R E s:=by
 have la:=K.there _ hok;unfold collect;refine wpAny_bind (wpAny_runValue (codeAny_builtin F.entry_proto_collect ?_));rw [Around.under_plainId F.plain_proto_collect _];refine wpAny_bind (m:=newList []) (wpAny_newObj_type (wpAny_pure ⟨plainId_quiet F.plain_list_iadd _,codeAny_builtin F.entry_list_iadd ?_⟩));rw [Around.under_plainId F.plain_list_iadd _];show wpAny _ A.in1 (Builtin.List.listExtendWith (.ref s.heap.objs.size) (.ref a) (.ref s.heap.objs.size)) _ _ _
 refine wpAny_mono (kdl_extend (A:=A) (s:={ s with heap:=s.heap.push { cls:=.type "list",data:=.seq ([]:List Value).toArray } })
  (R:=fun (q:Result) (s':Shared)=>q=.ok (.ret (.ref s.heap.objs.size))/\∃ (h':Heap) (tk:Nat) (acc:Array Value) (c:Nat),s'={ s with heap:=h',toks:=tk } /\
   (∀ b ob,s.heap.get? b=some ob->h'.get? b=some ob)/\h'.get? s.heap.objs.size=some { cls:=.type "list",dict:=none,data:=.seq acc c,slots:=#[] }/\ItemsOf P acc n)
  K hh (K.keep _ _ hok fun b _ o e=>Heap.get?_push_of_some _ e) s.heap.objs.size (Nat.ne_of_gt la.1) (Nat.ne_of_gt la.2) (.ref s.heap.objs.size) 0 (Heap.get?_push_size _ rfl)
  (fun h' tk acc c k e i=>⟨rfl,h',tk,acc,c,rfl,fun b o q=>k b o (Nat.ne_of_lt (Heap.lt_size q)) (Heap.get?_push_of_some _ q),e,i⟩) hn) (fun fin s' x=>?_) (fun e s' x=>nomatch x.1)
 cases fin with
 | done f =>
  obtain ⟨e,h',tk,acc,c,rfl,k,e',i⟩:=x;cases e;exact wpAny_bind (wpAny_load e' (wpAny_pure (hQ h' tk acc k (Nat.le_of_lt (Heap.lt_size e')) i)))
 | again c₁ =>
  refine ⟨x.1,codeAny_mono x.2 ?_⟩;rintro q s₂ ⟨rfl,h',tk,acc,c,rfl,k,e',i⟩;exact wpAny_bind (wpAny_load e' (wpAny_pure (hQ h' tk acc k (Nat.le_of_lt (Heap.lt_size e')) i)))
end
theorem Mh {P:Program}{w:World}{m:Int}{u:Value}(h:(Be P w).is (.inl m) u=true):∃ t,u=Value.int m t:=by
 rw [U0] at h;rcases Bc h with ⟨i,t,e,rfl⟩|⟨x,t,e,rfl⟩
 ·cases e;exact ⟨t,rfl⟩
 ·cases e
section
variable {X:Cx}
theorem Jb (hc:X.calm=true):Ax X (.builtin "sorted") (rDs X.K Gg):=by
 rintro pins s σ H xs us Q I rv ⟨ρ,mh,ds,d,mh',q,rs,r,co⟩;unfold Gg at q;split at q
 ·rename_i n;obtain ⟨v,rfl,rx⟩:=Li r;obtain ⟨u,rfl,ru⟩:∃ u,us=[u]/\RelV v u:=by cases rv with | cons h t=>cases t;exact ⟨_,rfl,h⟩
  split at q
  ·rename_i kvs en;split at q
   ·rename_i ns ek;split at q
    ·rename_i h64;cases q;obtain ⟨a,xs,rfl,hd,rk⟩:=Cz rs rx en;cases (show u=Value.ref a from ru);obtain ⟨z,lo,vs,rel,dd⟩:=J0 I.hok hd;have ekv:vs.map (·.1)=ns.map Sum.inl:=by rw [← rel.keys,rk.1,Mg ek]
     have lv:vs.length=ns.length:=by have:=congrArg List.length ekv;simpa using this
     obtain ⟨ep,hat⟩:=dd.dictAt;refine Calls.call_function_entry kind_sorted plain_sorted entry_sorted (args_sorted1 _) ?_;unfold Builtin.«sorted»
     refine wpAny_bind (m:=checkCount "sorted" 1 1 _) (wpAny_pure (wpAny_bind (J7 (PySem.W.kdl_dict (knd:=Be X.prog X.w) (kvs:=vs) (ep:=ep) lo) (by simp [I.ok.hd hc]) hat (by rw [← rel.length];exact z) fun h' tk acc hk len hacc=>?_)));obtain ⟨ha,hv⟩:=hacc;have ia:IntsAre acc.toList ns:=by
      have:Vals (ns.map V.int) acc.toList:=by
       have key:∀ (l:List Value) (ms:List Int),l.length=ms.length->(∀ (j:Nat) (w:Value),l[j]?=some w->∃ m t,ms[j]?=some m/\w=Value.int m t)->Vals (ms.map V.int) l:=by
        intro l
        induction l with
        | nil=>intro ms hl _;cases ms with
         | nil=>exact .nil
         | cons _ _=>cases hl
        | cons w l ih =>
         intro ms hl h;cases ms with
         | nil=>cases hl
         | cons m ms =>
          obtain ⟨m',t,e1,e2⟩:=h 0 w rfl;cases e1;exact .cons ⟨t,e2⟩ (ih ms (by simpa using hl) fun j w' e=>h (j+1) w' e)
       refine key _ _ (by rw [Array.length_toList,ha,lv]) fun j w e=>?_
       obtain ⟨k,x,e1,e2⟩:=hv j w (by rw [← Array.getElem?_toList];exact e);have e3:(vs.map (·.1))[j]?=some k:=by rw [List.getElem?_map,e1];rfl
       rw [ekv,List.getElem?_map] at e3;obtain ⟨m,e4,rfl⟩:=Option.map_eq_some_iff.mp e3;obtain ⟨t,e5⟩:∃ t,w=Value.int m t:=Mh e2;exact ⟨m,t,e4,e5⟩
      exact Eg this
     have hl:acc.toList.length=ns.length:=by rw [Array.length_toList,ha,lv]
     refine wpAny_bind (wpAny_newList ?_);refine wpAny_bind (wpAny_holding (wpAny_call_entry slot_list_sort ⟨_,Heap.get?_push_size _ rfl,rfl⟩ entry_list_sort (list_sort_tree (vs:=acc.toList) (ns:=ns) (n:=0) (Heap.get?_push_size _ rfl) ia (by rw [hl];exact h64) fun out ns' a1 a2 a3=>⟨_,rfl,?_⟩) (args_list_sort _)));have es':ns'=sortI ns:=Ir a2 a3;subst es'
     obtain ⟨c,at'⟩:=sortedHeap_at (h:=h'.push (seqObj "list" acc.toList.toArray 0)) (a:=h'.objs.size) (vs:=acc.toList) (n:=0) (out:=out) (Heap.get?_push_size _ rfl);refine wpAny_pure ⟨_,rfl,.ref h'.objs.size,_,I.laid (t':=tk) (a:=h'.objs.size) (o:=.lst ((sortI ns).map V.int)) (fun b ob q=>?_) len ⟨?_,out.toList,c,Dg a1,?_⟩,rfl,Co.newL rs (Et (sortI ns)) co _ (I.hok.fresh len)⟩
     ·have lb:b < h'.objs.size:=Heap.lt_size (hk b ob q);rw [sortedHeap_old (Nat.ne_of_lt lb) (by rw [size_push'];exact Nat.lt_succ_of_lt lb)];exact Heap.get?_push_of_some _ (hk b ob q)
     ·rw [List.length_map,(sortI_perm ns).length_eq,sizeLine_eq];omega
     ·rw [at']
    ·cases q
   ·cases q
  ·exact Iv pins s σ H _ _ Q I rv ⟨ρ,mh,_,d,mh',q,rs,r,co⟩
 ·exact Iv pins s σ H _ _ Q I rv ⟨ρ,mh,_,d,mh',q,rs,r,co⟩
end
end DL
namespace DL
open PySem PySem.Spec PyProof.Rows L2 PySem.W
noncomputable def Kl (h:Heap) (d:Addr) (es:Array DictEntry) (ep:Nat):Prop:=∃ o,h.get? d=some o/\o.ExactDict/\o.data=.dict es ep
theorem Kl.keep {h h':Heap}{d:Addr}{es:Array DictEntry}{ep:Nat}(x:Kl h d es ep) (k:∀ o,h.get? d=some o->h'.get? d=some o):Kl h' d es ep:=let ⟨o,e,r⟩:=x;⟨o,k o e,r⟩
theorem Kl.lt {h:Heap}{d:Addr}{es:Array DictEntry}{ep:Nat}(x:Kl h d es ep):d < h.objs.size:=let ⟨_,e,_⟩:=x;Heap.lt_size e
theorem Kl.typeIs {s:Shared}{d:Addr}{es:Array DictEntry}{ep:Nat}(x:Kl s.heap d es ep):s.TypeIs (.ref d) "dict":=let ⟨o,e,c,_⟩:=x;⟨o,e,c.1⟩
section
variable {prog:Program}{w:World}{A:Around}{E:Value->Shared->Prop}{s:Shared}{d it:Addr}{es:Array DictEntry}{ep i:Nat}
theorem eO {Q:Value->Shared->Prop}(lo:(d==sysModules)=false) (hm:Kl s.heap d es ep)
  (hQ:Q (.ref s.heap.objs.size) { s with heap:=s.heap.push { cls:=.type "dict_keyiterator",data:=.fields #[.ref d,.int 0 0,.int es.size 0,.int ep 0] } }) :
  wpAny (model prog w) A (pyIter (.ref d)) Q E s:=by
 obtain ⟨o,ho,hc,hdat⟩:=id hm;have hT:=hm.typeIs;refine wpAny_pyIter_slot hT F.slot_dict_iter (wpAny_call_entry F.slot_dict_iter hT F.entry_dict_iter ?_ (F.args_dict_iter_1 _));unfold Builtin.«dict.__iter__» Builtin.Dict.dictSlotNone;refine wpAny_bind (wpAny_bind (wpAny_notOrdered_dict hT ?_));refine (wpAny_pure ?_:wpAny _ _ (pure (Value.ref d)) _ _ s);show wpAny _ _ (Builtin.Dict.showsAll d >>= _) _ _ s;unfold Builtin.Dict.showsAll;rw [if_neg (by rw [lo];exact Bool.false_ne_true)]
 exact wpAny_bind (wpAny_pure (wpAny_bind (wpAny_dictEntries ho hdat (wpAny_bind (wpAny_dictEpoch ho hdat (wpAny_bind (wpAny_newObj_type (wpAny_pure ⟨_,rfl, "dict_keyiterator",_,⟨_,Heap.get?_push_size _ rfl,rfl⟩,F.slot_dict_keyiterator_next.lookup,hQ⟩))))))))
theorem eU {Q:Option Value->Shared->Prop}(hit:s.heap.IsKeyIter it d i es.size ep) (hm:Kl s.heap d es ep) (hx:i < es.size)
  (hQ:∀ h',h'.IsKeyIter it d (i+1) es.size ep->Heap.SameBut it s.heap h'->Q (some es[i].key) { s with heap:=h' }):wpAny (model prog w) A (pyNext (.ref it)) Q E s:=by
 obtain ⟨o,ho,hc,hd⟩:=id hit;obtain ⟨od,hod,hcd,hdd⟩:=id hm;have ht:=hit.typeIs;unfold pyNext
 refine wpAny_bind (wpAny_attempt (wpAny_callSpecial?_slot (name:=Str.ofString "__next__") ht F.slot_dict_keyiterator_next (wpAny_call_entry F.slot_dict_keyiterator_next ht F.entry_dict_keyiterator_next ?_ (F.args_dict_keyiterator_next_1 _))));refine wpAny_bind (wpAny_pure (wpAny_bind (wpAny_bind ?_)));refine wpAny_bind (wpAny_typeNameOfWhole_keyiter ht (wpAny_pure (wpAny_bind (wpAny_fieldsOf ho hd ?_))))
 simp only [show Builtin.Dict_items.ownsTuple "dict_keyiterator"=false by decide,Bool.false_eq_true,if_false];show wpAny _ _ (if (Value.ref d==Value.none)=true then _ else _) _ _ s;rw [if_neg (show ¬ ((Value.ref d==Value.none)=true) from Bool.false_ne_true)];refine wpAny_bind (wpAny_pure (wpAny_bind (wpAny_dictEntries hod hdd ?_)));rw [if_neg (by simp)];refine wpAny_bind (wpAny_pure (wpAny_bind (wpAny_dictEpoch hod hdd ?_)));rw [if_neg (by simp)];refine wpAny_pure ?_;simp only [show ¬ ((i:Int) < 0) from by omega,if_false,Int.toNat_natCast,Array.getElem?_eq_getElem hx];refine wpAny_bind (wpAny_bind (wpAny_typeNameOfWhole_keyiter ht (wpAny_pure (wpAny_bind (wpAny_isOneOf_keyiter ht ?_)))));show wpAny _ _ (setField (.ref it) 1 (rawInt ((i:Int)+1)) >>= _) _ _ s;refine wpAny_bind (wpAny_setField ho hd (by simp) ?_);have hit':(s.heap.update it (Obj.mapFields (·.setIfInBounds 1 (rawInt ((i:Int)+1))))).IsKeyIter it d (i+1) es.size ep :=
  ⟨_,Heap.get?_update_self _ ho (Obj.isFreed_of_fields (Obj.data_mapFields hd _)),(Obj.cls_mapFields ..).trans hc,by rw [Obj.data_mapFields hd];simp [rawInt]⟩
 refine wpAny_bind (wpAny_holding (wpAny_bind (wpAny_isOneOf_keyiter (s:={ s with heap:=s.heap.update it (Obj.mapFields (·.setIfInBounds 1 (rawInt ((i:Int)+1)))) }) hit'.typeIs ?_)));show wpAny _ _ (pure es[i].key) _ _ _;exact wpAny_pure (wpAny_pure ⟨_,rfl,wpAny_pure (hQ _ hit' (Heap.SameBut.update ..))⟩)
theorem mW {Q:Option Value->Shared->Prop}(hh:A.handled=none) (hit:s.heap.IsKeyIter it d es.size es.size ep) (hm:Kl s.heap d es ep)
  (hQ:∀ h',Heap.ExtBut it s.heap h'->Q none { s with heap:=h' }):wpAny (model prog w) A (pyNext (.ref it)) Q E s:=by
 obtain ⟨o,ho,hc,hd⟩:=id hit;obtain ⟨od,hod,hcd,hdd⟩:=id hm;have ht:=hit.typeIs;unfold pyNext
 refine wpAny_bind (wpAny_attempt (wpAny_callSpecial?_slot (name:=Str.ofString "__next__") ht F.slot_dict_keyiterator_next (wpAny_call_entry F.slot_dict_keyiterator_next ht F.entry_dict_keyiterator_next ?_ (F.args_dict_keyiterator_next_1 _))));refine wpAny_bind (wpAny_pure (wpAny_bind (wpAny_bind ?_)));refine wpAny_bind (wpAny_typeNameOfWhole_keyiter ht (wpAny_pure (wpAny_bind (wpAny_fieldsOf ho hd ?_))))
 simp only [show Builtin.Dict_items.ownsTuple "dict_keyiterator"=false by decide,Bool.false_eq_true,if_false];show wpAny _ _ (if (Value.ref d==Value.none)=true then _ else _) _ _ s;rw [if_neg (show ¬ ((Value.ref d==Value.none)=true) from Bool.false_ne_true)];refine wpAny_bind (wpAny_pure (wpAny_bind (wpAny_dictEntries hod hdd ?_)));rw [if_neg (by simp)];refine wpAny_bind (wpAny_pure (wpAny_bind (wpAny_dictEpoch hod hdd ?_)));rw [if_neg (by simp)];refine wpAny_pure ?_;simp only [show ¬ ((es.size:Int) < 0) from by omega,if_false,Int.toNat_natCast,Array.getElem?_eq_none (Nat.le_refl es.size)];refine wpAny_bind (wpAny_bind (wpAny_typeNameOfWhole_keyiter ht (wpAny_pure ?_)));show wpAny _ _ (setField (.ref it) 0 .none >>= _) _ _ s;refine wpAny_bind (wpAny_setField ho hd (by simp) ?_)
 show wpAny _ _ (newExc (.type "StopIteration") [] >>= _) _ _ _;simp only [newExc,newTuple];refine wpAny_bind (wpAny_bind (wpAny_newObj_type ?_ (by size_fits)));refine wpAny_bind (m:=firstArgMember _ _) (wpAny_of_eq (a:=Value.none) (by first | rfl | (simp only [firstArgMember];rfl)) ?_);refine wpAny_newObj_type ?_ (by size_fits);simp only [raiseNew];refine wpAny_bind (wpAny_handled ?_);rw [show A.in1.handled=none from hh];refine wpAny_bind (wpAny_pure (wpAny_throw ?_))
 refine wpAny_bind (wpAny_isInstance (T := "StopIteration") (b:=true) ⟨_,Heap.get?_push_size _ rfl,rfl⟩ isSubtype_stop ?_);exact wpAny_pure (hQ _ (((Heap.SameBut.update ..).extBut.push _).push _))
theorem mX (lo:(d==sysModules)=false):KdlSrc prog w "dict" d d es.size (fun i v=>∃ e,es[i]?=some e/\v=e.key) (fun h=>Kl h d es ep) where
 type:=fun _ hm=>hm.typeIs
 there:=fun _ hm=>⟨hm.lt,hm.lt⟩
 keep:=fun _ _ hm hk=>hm.keep fun o e=>hk d (.inl rfl) o e
 notList:=by decide
 notTuple:=by decide
 hint:=fun _ _ _ _ hm hq=>kdl_hint_dict hm.typeIs hq
 iter:=fun A s hh hm=>⟨_,fun i h=>h.IsKeyIter s.heap.objs.size d i es.size ep/\Kl h d es ep,(fun _ _ hq=>eO lo hm hq),{
  sub:=fun b hb=>by simp at hb;simp [hb]
  frame:=fun _ _ _ st hk=>⟨st.1.at fun o e=>hk _ (by simp) o e,st.2.keep fun o e=>hk d (by simp) o e⟩
  item:=fun i s' Q E hi st hQ=>eU st.1 st.2 hi fun h' h1 h2=>hQ _ h' s'.toks ⟨_,Array.getElem?_eq_getElem hi,rfl⟩ ⟨h1,st.2.keep fun o e=>h2.extBut _ o (Nat.ne_of_lt hm.lt) e⟩ fun b o hb e=>h2.extBut b o (fun z=>hb (by simp [z])) e
  done:=fun s' Q E st hQ=>mW hh st.1 st.2 fun h' he=>hQ h' s'.toks fun b o hb e=>he b o (fun z=>hb (by simp [z])) e
  self:=fun _ _ _ _ st hQ=>wpAny_pyIter_keyiter st.1 hQ },⟨⟨_,Heap.get?_push_size _ rfl,rfl,rfl⟩,hm.keep fun o e=>Heap.get?_push_of_some _ e⟩⟩
end
noncomputable def J8 (ks:List (List Int)):List (List Int):=(Lq (ks.map fun l=>(("":Str),l))).map (·.2)
theorem Ab2 (a b:List Int):Eu (("":Str),a) (("":Str),b)=Ep a b:=if_pos rfl
theorem V4 (ks:List (List Int)):(J8 ks).Perm ks:=by
 have:=(Hy (ks.map fun l=>(("":Str),l))).map (·.2)
 rwa [List.map_map,show ((fun x:TX=>x.2) ∘ fun l=>(("":Str),l))=id from rfl,List.map_id] at this
theorem T4 {ks l:List (List Int)}(nd:ks.Nodup) (p:l.Perm ks) (h:l.Pairwise fun a b=>Ep a b=true):l=J8 ks:=by
 have nd':(ks.map fun l=>(("":Str),l)).Nodup:=List.Pairwise.map _ (fun a b (h:a≠b) e=>h (congrArg Prod.snd e)) nd;have:=dB nd' (p.map _) (List.pairwise_map.mpr (h.imp fun {a b} q=>(Ab2 a b).trans q));unfold J8
 rw [← this,List.map_map,show ((fun x:TX=>x.2) ∘ fun l=>(("":Str),l))=id from rfl,List.map_id]
theorem Xx {h h':Heap}(kp:∀ b o,o.cls=.type "tuple"->h.get? b=some o->h'.get? b=some o) {v:Value}{k:List Int}(q:TI h v k):TI h' v k :=
 let ⟨a,o,its,n,e1,e2,e3,e4⟩:=q;⟨a,o,its,n,e1,kp a o e3 e2,e3,e4⟩
section
variable {prog:Program}{w:World}{A:Around}{E:Value->Shared->Prop}{s:Shared}
theorem Mi {h:Heap}:∀ {vs:List Value}{ks:List (List Int)},vs.length=ks.length->(∀ k∈ks,k≠[])->(∀ (i:Nat) (v:Value) (k:List Int),vs[i]?=some v->ks[i]?=some k->TI h v k)->∃ fs,KatTups h vs fs/\fs.length=vs.length/\∀ v∈fs,∃ x t,v=Value.int x t
 | [],[],_,_,_=>⟨[],KatTups.nil,rfl,fun v hv=>by cases hv⟩
 | [],_::_,e,_,_=>by cases e
 | _::_,[],e,_,_=>by cases e
 | v::vs,k::ks,e,hn,hv=>by
  obtain ⟨fs,a1,a2,a3⟩:=Mi (vs:=vs) (ks:=ks) (by simpa using e) (fun k q=>hn k (List.mem_cons_of_mem _ q)) (fun i v' k' p q=>hv (i+1) v' k' (by simpa using p) (by simpa using q));obtain ⟨a,o,its,n,rfl,e2,e3,e4,e5⟩:=hv 0 v k rfl rfl;cases e5 with
  | nil=>exact absurd rfl (hn [] (List.mem_cons_self ..))
  | cons _ =>
   exact ⟨_::fs,KatTups.cons e2 e3 e4 rfl a1,by simp [a2],fun v hv=>by
    rcases List.mem_cons.mp hv with rfl|hv
    ·exact ⟨_,_,rfl⟩
    ·exact a3 v hv⟩
theorem Qy {a:Addr}{vs:List Value}{ks:List (List Int)}{n:Nat}{P:PySem.Fin->Shared->Prop}(ho:s.heap.get? a=some (seqObj "list" vs.toArray n)) (h3:vs.length < 64) (hl:vs.length=ks.length) (nd:ks.Nodup) (ne0:∀ k∈ks,k≠[])
  (hv:∀ (i:Nat) (v:Value) (k:List Int),vs[i]?=some v->ks[i]?=some k->TI s.heap v k)
  (h:∀ out:List Value,out.length=vs.length->(∀ (i:Nat) (v:Value),out[i]?=some v->∃ (j:Nat) (k:List Int),vs[j]?=some v/\ks[j]?=some k/\(J8 ks)[i]?=some k)->P (.done (.ret .none)) { s with heap:=sortedHeap s.heap a vs out.toArray }) :
  wpAny (model prog w) A (Builtin.«list.sort» ⟨[.ref a],[]⟩) P E s:=by
 rw [list_sort_plain];have ha:a < s.heap.objs.size:=Heap.lt_size ho;have hz:vs.length<=sizeLine:=by rw [sizeLine_eq];omega
 refine wpAny_bind (listItems_at ho rfl ?_);refine wpAny_bind (listUpdate_at ho rfl ?_ (by rw [List.size_toArray];exact hz) (Nat.zero_le _))
 obtain ⟨e1,ho1⟩:∃ e1,(s.heap.update a (Obj.mapSeq fun _=>#[])).get? a=some (seqObj "list" #[] e1):=⟨_,get?_update_seq ho (fun _=>#[])⟩;refine wpAny_bind (seqEpoch_at ho1 rfl ?_);refine wpAny_bind (wpAny_newTuple ?_ (by show vs.length<=_;exact hz));refine wpAny_bind (wpAny_newList ?_ (Nat.zero_le _));refine wpAny_holding ?_
 have ho6:(((s.heap.update a (Obj.mapSeq fun _=>#[])).push (seqObj "tuple" vs.toArray 0)).push (seqObj "list" #[] 0)).get? a=some (seqObj "list" #[] e1):=by
  rw [Heap.get?_push_ne _ _ _ (by rw [size_push',Heap.size_update];exact Nat.ne_of_lt (Nat.lt_succ_of_lt ha)),Heap.get?_push_ne _ _ _ (by rw [Heap.size_update];exact Nat.ne_of_lt ha)];exact ho1
 have kp:∀ b o,o.cls=.type "tuple"->s.heap.get? b=some o->(((s.heap.update a (Obj.mapSeq fun _=>(#[]:Array Value))).push (seqObj "tuple" vs.toArray 0)).push (seqObj "list" #[] 0)).get? b=some o:=fun b o hc q=>by
  have ne:b≠a:=fun z=>by
   subst z;rw [ho] at q;cases q
   exact absurd hc (show ¬ (Value.type "list"=Value.type "tuple") by decide +kernel)
  refine Heap.get?_push_of_some _ (Heap.get?_push_of_some _ ?_);rw [Heap.get?_update_ne _ _ _ _ ne];exact q
 show wpAny (model prog w) A _ P E { s with heap:=((s.heap.update a (Obj.mapSeq fun _=>#[])).push (seqObj "tuple" vs.toArray 0)).push (seqObj "list" #[] 0) };dsimp only;have hsz:vs.toArray.size=vs.length:=by simp
 by_cases hn2:vs.toArray.size < 2
 ·have e:J8 ks=ks:=by
   refine (T4 nd (.refl _) ?_).symm
   match ks,hl with
   | [],_=>exact .nil
   | [_],_=>exact List.pairwise_singleton _ _
   | _::_::_,hl=>simp at hl hn2;omega
  have hout:(pairsOf vs).map (·.2)=vs.toArray:=by
   apply Array.toList_inj.mp;rw [Array.toList_map,pairsOf_toList];simp only [List.map_snd_zip (Nat.le_refl _)]
  rw [if_pos hn2,if_pos hn2];refine wpAny_bind (wpAny_pure ?_);rw [StateT.run_pure];refine wpAny_bind (wpAny_pure ?_);dsimp only;refine wpAny_bind (seqEpoch_at ho6 rfl ?_);refine wpAny_bind (listUpdate_at ho6 rfl ?_ (Nat.zero_le _) (hsz2:=by rw [Array.size_map];show (pairsOf vs).size<=_;rw [pairsOf_size];omega));simp only [bne_self_eq_false,Bool.false_eq_true,if_false];refine wpAny_pure ?_;show P (.done (.ret .none)) { s with heap:=sortedHeap s.heap a vs ((pairsOf vs).map (·.2)) };rw [hout];refine h vs rfl fun i v hi=>?_
  rw [e];obtain ⟨hh,_⟩:=List.getElem?_eq_some_iff.mp hi;exact ⟨i,ks[i],hi,List.getElem?_eq_getElem (by omega),List.getElem?_eq_getElem (by omega)⟩
 have h2:2<=vs.length:=by rw [List.size_toArray] at hn2;omega
 rw [if_neg hn2,if_neg hn2]
 have hv2:∀ (i:Nat) (v:Value) (k:List Int),vs[i]?=some v->ks[i]?=some k->TI (((s.heap.update a (Obj.mapSeq fun _=>(#[]:Array Value))).push (seqObj "tuple" vs.toArray 0)).push (seqObj "list" #[] 0)) v k:=fun i v k p q=>Xx kp (hv i v k p q)
 obtain ⟨fs,kt,lf,hf⟩:=Mi hl ne0 hv2
 refine wpAny_bind (kat_kind (T:=.type "int") kt (by omega) (fun v hv=>?_) (by decide +kernel) ?_)
 ·obtain ⟨n,tk,rfl⟩:=hf v hv;exact Looks.now
 rw [show (Value.type "int" != Value.type "tuple")=true by decide +kernel];have at1:∀ i,i < vs.length->∃ v k,vs[i]?=some v/\ks[i]?=some k:=fun i hi=>⟨_,_,List.getElem?_eq_getElem hi,List.getElem?_eq_getElem (by omega)⟩
 obtain ⟨p,e0,p1,p2,p3,p4⟩:=dH (n:=vs.length) (lt:=fun i j=>Ep (ks.getD i default) (ks.getD j default)) h2 ⟨fun i j hi hj ne=>(by
   obtain ⟨_,k1,_,q1⟩:=at1 i hi;obtain ⟨_,k2,_,q2⟩:=at1 j hj;rw [getD_some q1,getD_some q2];refine Lp fun z=>ne ?_
   subst z
   exact (List.getElem?_inj (show i < ks.length by omega) nd).mp (q1.trans q2.symm)) ,fun i j k _ _ _ a b=>Hx a b⟩
 have run:=kat_run (E:=E) (s:={ s with heap:=((s.heap.update a (Obj.mapSeq fun _=>(#[]:Array Value))).push (seqObj "tuple" vs.toArray 0)).push (seqObj "list" #[] 0) }) (κ:=tuples' true) (prog:=prog) (w:=w) (A:=A) (ks:=vs) (vs:=vs)
  (Q:=fun st' s'=>s'={ s with heap:=((s.heap.update a (Obj.mapSeq fun _=>(#[]:Array Value))).push (seqObj "tuple" vs.toArray 0)).push (seqObj "list" #[] 0) }/\arrOf st'=p.map (kas_item (vs.toArray.zip vs.toArray))/\failedOf st'=none)
  (G:=fun p' s'=>p'=p/\s'={ s with heap:=((s.heap.update a (Obj.mapSeq fun _=>(#[]:Array Value))).push (seqObj "tuple" vs.toArray 0)).push (seqObj "list" #[] 0) })
  rfl h2 (by omega) (fun p' st' s' _ a2 a3 a4=>by
   obtain ⟨rfl,rfl⟩:=a4
   exact ⟨rfl,a2,a3⟩) (Tj (n:=vs.length) (lt:=fun i j=>Ep (ks.getD i default) (ks.getD j default)) (fun i j C hi hj ne hC=>by
    obtain ⟨v1,k1,r1,q1⟩:=at1 i hi;obtain ⟨v2,k2,r2,q2⟩:=at1 j hj;unfold kas_ask;rw [getD_some r1,getD_some r2];rw [getD_some q1,getD_some q2] at hC
    exact zU (hv2 i _ _ r1 q1) (hv2 j _ _ r2 q2) hC) ⟨rfl,rfl⟩ _ e0)
 refine wpAny_bind (wpAny_mono run ?_ fun _ _ e=>e);rintro ⟨⟨⟩,st'⟩ s' ⟨rfl,har,hf⟩;dsimp only;rw [kat_snds rfl har];have hso:(List.toArray (p.toList.map fun i=>vs.getD i Value.none)).size=vs.length:=by rw [List.size_toArray,List.length_map,p1]
 refine wpAny_bind (seqEpoch_at ho6 rfl ?_);refine wpAny_bind (listUpdate_at ho6 rfl ?_ (Nat.zero_le _) (hsz2:=by rw [hso];exact Nat.le_succ_of_le hz));rw [hf];simp only [bne_self_eq_false,Bool.false_eq_true,if_false];refine wpAny_pure (h (p.toList.map fun i=>vs.getD i Value.none) (by rw [List.length_map,p1]) fun i v hi=>?_);have pr:p.toList.Perm (List.range ks.length):=cZ p3 (fun x hx=>List.mem_range.mpr (by rw [← hl];exact p2 x hx)) (by rw [List.length_range,p1,hl];exact Nat.le_refl _);have so:p.toList.map (fun i=>ks.getD i default)=J8 ks:=by
  refine T4 nd ?_ ?_
  ·have:=pr.map (fun i=>ks.getD i default);rw [range_getD] at this;exact this
  ·rw [List.pairwise_map];exact p4
 rw [← so];rw [List.getElem?_map] at hi ⊢;cases hj:p.toList[i]? with
 | none=>rw [hj] at hi;cases hi
 | some j =>
  rw [hj] at hi;have lj:=p2 j (List.mem_of_getElem? hj);obtain ⟨v1,k1,r1,q1⟩:=at1 j lj;have hi:some (vs.getD j Value.none)=some v:=hi;rw [getD_some r1] at hi;cases hi;exact ⟨j,k1,r1,q1,by rw [Option.map_some,getD_some q1]⟩
end
noncomputable def Xy:List PyData->Option (List Int)
 | []=>some []
 | .int n::r=>(match Xy r with | some ns=>some (n::ns) | none=>none)
 | _::_=>none
theorem Mj:∀ {ps:List PyData}{ns:List Int},Xy ps=some ns->ps=ns.map PyData.int
 | [],_,h=>by cases h;rfl
 | .int n::r,ns,h=>by
  simp only [Xy] at h;split at h
  ·rename_i ms e;cases h;rw [Mj e];rfl
  ·cases h
 | .str _::_,_,h=>by cases h
 | .tuple _::_,_,h=>by cases h
 | .none::_,_,h=>by cases h
 | .bool _::_,_,h=>by cases h
 | .list _::_,_,h=>by cases h
 | .dict _::_,_,h=>by cases h
noncomputable def uY:PyData->Option (List Int)
 | .tuple (p::ps)=>Xy (p::ps)
 | _=>none
theorem Z7 {k:PyData}{ns:List Int}(h:uY k=some ns):ns≠[]/\k=.tuple (ns.map PyData.int):=by
 unfold uY at h;split at h
 ·have e:=Mj h;refine ⟨fun z=>?_,by rw [e]⟩;rw [z] at e;cases e
 ·cases h
noncomputable def Xz:List (PyData×D)->Option (List (List Int))
 | []=>some []
 | (k,_)::r=>(match uY k with
  | some n=>(match Xz r with | some ns=>some (n::ns) | none=>none)
  | none=>none)
noncomputable def tnD (ns:List Int):D:=.tup (ns.map D.int)
theorem Pa:∀ ns:List Int,Np (ns.map PyData.int)=ns.map D.int
 | []=>by rw [List.map_nil,List.map_nil,Np]
 | n::r=>by rw [List.map_cons,List.map_cons,Np,toD,Pa r]
theorem Ml {K:PySem.W.Frag}{H:Hp}{ρ:List Addr}:∀ {kvs:List (PyData×D)}{ks:List (List Int)}{xs:List (PyData×Addr×V)},Xz kvs=some ks->KN K H ρ kvs xs->(∀ k∈ks,k≠[])/\xs.map (·.1)=ks.map (fun l=>PyData.tuple (l.map PyData.int))/\RDs K H ρ (ks.map tnD) ((xs.map (·.2.1)).map V.ref)
 | [],_,_,h,.nil=>by cases h;exact ⟨fun k q=>(by cases q),rfl,.nil⟩
 | (k,_)::r,ks,_,h,.cons o rk rd t=>by
  simp only [Xz] at h;split at h
  ·rename_i n en;split at h
   ·rename_i ns e;cases h;obtain ⟨n1,rfl⟩:=Z7 en;obtain ⟨a1,a2,a3⟩:=Ml e t;rw [toD,Pa] at rk;refine ⟨fun k q=>?_,?_,.cons rk a3⟩
    ·rcases List.mem_cons.mp q with rfl|q
     ·exact n1
     ·exact a1 k q
    ·rw [List.map_cons,List.map_cons,a2]
   ·cases h
  ·cases h
section
variable {K:PySem.W.Frag}{H:Hp}{ρ:List Addr}
theorem X3:∀ {ks:List (List Int)}{vs:List V},RDs K H ρ (ks.map tnD) vs->∃ cs:List Addr,vs=cs.map V.ref/\cs.length=ks.length/\∀ (i:Nat) (c:Addr),cs[i]?=some c->SqT K H c ((ks.getD i []).map V.int)
 | [],_,.nil=>⟨[],rfl,rfl,fun i c h=>by simp at h⟩
 | k::ks,_,.cons a t=>by
  obtain ⟨cs,e1,e2,e3⟩:=X3 t;cases a with
  | @tup _ c xs sq r =>
   cases Gu r;refine ⟨c::cs,by rw [e1];rfl,by simp [e2],fun i c' q=>?_⟩;cases i with
   | zero=>cases q;exact sq
   | succ j=>exact e3 j c' q
theorem X7:∀ {ks:List (List Int)}{cs:List Addr},cs.length=ks.length->(∀ (i:Nat) (c:Addr) (k:List Int),cs[i]?=some c->ks[i]?=some k->SqT K H c (k.map V.int))->RDs K H ρ (ks.map tnD) (cs.map V.ref)
 | [],[],_,_=>.nil
 | [],_::_,e,_=>by cases e
 | _::_,[],e,_=>by cases e
 | k::ks,c::cs,e,h=>.cons (.tup (h 0 c k rfl rfl) (RDs.ints _)) (X7 (by simpa using e) fun i c' k' a b=>h (i+1) c' k' (by simpa using a) (by simpa using b))
end
theorem Yb:∀ {xs:List (PyData×Addr×V)}{ys:List (PyData×Addr×Value)},PN xs ys->ys.map (·.1)=xs.map (·.1)/\ys.map (·.2.1)=xs.map (·.2.1)
 | [],[],_=>⟨rfl,rfl⟩
 | _::_,_::_,.cons ⟨e1,e2,_⟩ t=>by
  obtain ⟨a,b⟩:=Yb t;exact ⟨by rw [List.map_cons,List.map_cons,a,e1],by rw [List.map_cons,List.map_cons,b,e2]⟩
noncomputable def Ez (ds:List D) (mh:MH):Option (D×MH):=match ds with
 | [.ref n]=>(match mh[n]? with
  | some (.dtk kvs)=>(match Xz kvs with
   | some ks=>if ks.length < 64 then some (.ref mh.length,mh++[.lst ((J8 ks).map tnD)]) else none
   | none=>none)
  | _=>Gg [.ref n] mh)
 | _=>Gg ds mh
section
variable {X:Cx}
theorem Ef (hc:X.calm=true):Ax X (.builtin "sorted") (rDs X.K Ez):=by
 rintro pins s σ H xs us Q I rv ⟨ρ,mh,ds,d,mh',q,rs,r,co⟩;unfold Ez at q;split at q
 ·rename_i n;obtain ⟨v,rfl,rx⟩:=Li r;obtain ⟨u,rfl,ru⟩:∃ u,us=[u]/\RelV v u:=by cases rv with | cons h t=>cases t;exact ⟨_,rfl,h⟩
  split at q
  ·rename_i kvs en;split at q
   ·rename_i ks ek;split at q
    ·rename_i h64;cases q;obtain ⟨a,xs,ys,rfl,hn,hd,kn,z,lo,pn,o,es,ep,g1,g2,g3,g4,g5,g6⟩:=O6 I rs en rx;cases (show u=Value.ref a from ru);obtain ⟨ne0,k1,r1⟩:=Ml ek kn;obtain ⟨p1,p2⟩:=Yb pn;rw [p1,k1] at g6;have nd:ks.Nodup:=List.Pairwise.of_map (fun l:List Int=>PyData.tuple (l.map PyData.int)) (fun a b (h:_≠_) e=>h (congrArg (fun l:List Int=>PyData.tuple (l.map PyData.int)) e)) g6;obtain ⟨cs,e1,e2,e3⟩:=X3 r1;have ecs:xs.map (·.2.1)=cs:=by
      have:Function.Injective V.ref:=fun a b e=>by cases e;rfl
      exact (List.map_inj_right fun a b e=>by cases e;rfl).mp e1
     have hsz:es.size=ks.length:=by rw [← Array.length_toList,g4,List.length_map,← List.length_map (f:=(·.1)) (as:=ys),p1,k1,List.length_map]
     have ekey:∀ (i:Nat) (c:Addr),cs[i]?=some c->∃ e,es[i]?=some e/\e.key=Value.ref c:=fun i c q=>by
      rw [← ecs,← p2,List.getElem?_map] at q;obtain ⟨y,q1,rfl⟩:=Option.map_eq_some_iff.mp q;exact ⟨_,by rw [← Array.getElem?_toList,g4,List.getElem?_map,q1];rfl,rfl⟩
     refine Calls.call_function_entry kind_sorted plain_sorted entry_sorted (args_sorted1 _) ?_;unfold Builtin.«sorted»
     refine wpAny_bind (m:=checkCount "sorted" 1 1 _) (wpAny_pure (wpAny_bind (J7 (mX (es:=es) (ep:=ep) lo) (by simp [I.ok.hd hc]) ⟨o,g1,g2,g3⟩ (by rw [hsz,sizeLine_eq];omega) fun h' tk acc hk len hacc=>?_)));obtain ⟨ha,hv⟩:=hacc;have ea:acc.toList=cs.map Value.ref:=List.ext_getElem? fun i=>by
      rw [List.getElem?_map]
      by_cases hi:i < acc.size
      ·have hic:i < cs.length:=by rw [e2,← hsz,← ha];exact hi
       obtain ⟨e,q1,q2⟩:=ekey i _ (List.getElem?_eq_getElem hic);obtain ⟨e',q3,q4⟩:=hv i _ (Array.getElem?_eq_getElem hi);rw [q1] at q3;cases q3;rw [Array.getElem?_toList,Array.getElem?_eq_getElem hi,List.getElem?_eq_getElem hic,Option.map_some,q4,q2]
      ·rw [Array.getElem?_toList,Array.getElem?_eq_none (by omega),List.getElem?_eq_none (by rw [e2,← hsz,← ha];omega)];rfl
     rw [ea];have I':Inv X pins σ H { s with heap:=h',toks:=tk }:=I.kept (t':=tk) hk;have tx0:∀ (i:Nat) (c:Addr),cs[i]?=some c->TI h' (.ref c) (ks.getD i []):=fun i c z=>by
      obtain ⟨its,r1,⟨o,e1,e2,n,e3⟩,_⟩:=I'.tuple (e3 i c z);exact ⟨c,o,_,n,rfl,e1,e2,e3,Eg r1⟩
     have lv:(cs.map Value.ref).length=ks.length:=by rw [List.length_map,e2]
     refine wpAny_bind (wpAny_newList ?_ (by rw [lv,sizeLine_eq];omega));refine wpAny_bind (wpAny_holding (wpAny_call_entry slot_list_sort ⟨_,Heap.get?_push_size _ rfl,rfl⟩ entry_list_sort (Qy (vs:=cs.map Value.ref) (ks:=ks) (n:=0) (Heap.get?_push_size _ rfl) (by omega) lv nd ne0 (fun i v k a1 a2=>?_) fun out lo ho=>⟨_,rfl,?_⟩) (args_list_sort _)))
     ·rw [List.getElem?_map] at a1;obtain ⟨c,ec,rfl⟩:=Option.map_eq_some_iff.mp a1;have:=tx0 i c ec;rw [getD_some a2] at this;exact Xx (fun b ob _ q=>Heap.get?_push_of_some _ q) this
     obtain ⟨outs,lo2,ho2⟩:=O4 (l:=out) (R:=fun v c=>v=Value.ref c) (fun v hv=>by
      obtain ⟨i,hi,ei⟩:=List.getElem_of_mem hv;obtain ⟨j,k,z1,z2,_⟩:=ho i v (by rw [List.getElem?_eq_getElem hi,ei]);rw [List.getElem?_map] at z1;obtain ⟨c,_,rfl⟩:=Option.map_eq_some_iff.mp z1
      exact ⟨c,rfl⟩)
     have eout:out=outs.map Value.ref:=List.ext_getElem? fun i=>by
      rw [List.getElem?_map]
      by_cases hi:i < out.length
      ·rw [List.getElem?_eq_getElem hi,List.getElem?_eq_getElem (show i < outs.length by omega)];exact congrArg some (ho2 i _ _ (List.getElem?_eq_getElem hi) (List.getElem?_eq_getElem (show i < outs.length by omega)))
      ·rw [List.getElem?_eq_none (by omega),List.getElem?_eq_none (by omega)];rfl
     have rvo:∀ l:List Addr,Vals (l.map V.ref) (l.map Value.ref):=fun l=>by
      induction l with
      | nil=>exact .nil
      | cons a r ih=>exact .cons rfl ih
     obtain ⟨c,at'⟩:=sortedHeap_at (h:=h'.push (seqObj "list" (cs.map Value.ref).toArray 0)) (a:=h'.objs.size) (vs:=cs.map Value.ref) (n:=0) (out:=out.toArray) (Heap.get?_push_size _ rfl);have rso:RDs X.K H ρ ((J8 ks).map tnD) (outs.map V.ref):=X7 (by rw [← lo2,lo,(V4 _).length_eq,lv]) fun i cc k a1 a2=>by
      have hio:out[i]?=some (.ref cc):=by rw [eout,List.getElem?_map,a1];rfl
      obtain ⟨j,k',z1,z2,z3⟩:=ho i _ hio;rw [a2] at z3;cases z3;rw [List.getElem?_map] at z1;obtain ⟨c2,ec,z4⟩:=Option.map_eq_some_iff.mp z1;cases z4;have:=e3 j cc ec;rw [getD_some z2] at this;exact this
     refine wpAny_pure ⟨_,rfl,.ref h'.objs.size,_,I.laid (t':=tk) (a:=h'.objs.size) (o:=.lst (outs.map V.ref)) (fun b ob q=>?_) len ⟨?_,out,c,?_,?_⟩,rfl,Co.newL rs rso co _ (I.hok.fresh len)⟩
     ·have lb:b < h'.objs.size:=Heap.lt_size (hk b ob q);rw [sortedHeap_old (Nat.ne_of_lt lb) (by rw [size_push'];exact Nat.lt_succ_of_lt lb)];exact Heap.get?_push_of_some _ (hk b ob q)
     ·rw [List.length_map,← lo2,lo,lv,sizeLine_eq];omega
     ·rw [eout];exact rvo outs
     ·rw [at']
    ·cases q
   ·cases q
  ·exact Jb hc pins s σ H _ _ Q I rv ⟨ρ,mh,_,d,mh',q,rs,r,co⟩
 ·exact Jb hc pins s σ H _ _ Q I rv ⟨ρ,mh,_,d,mh',q,rs,r,co⟩
end
section
variable {X:Cx}
end
section
variable {prog:Program}{w:World}{A:Around}{E:Value->Shared->Prop}{s:Shared}
end
section
variable {X:Cx}{pins:List (Addr×Obj)}{σ:L2.St}{H:Hp}{s:Shared}{ρ:List Addr}{mh:MH}
theorem uZ {X:Cx}(hu:X.A.units+64 < cLine):OpR X (compareOp .Eq) (rD X.K eqD):=by
 rintro pins s σ H x y v u Q I rx ry ⟨ρ,mh,dx,dy,d,mh',q,rs,r1,r2,co⟩;unfold eqD at q;split at q
 ·rename_i k ek;cases q;obtain ⟨a,b,ea,eb,rfl⟩:=S6 ek;obtain ⟨⟨as,h1⟩,h2,h3⟩:=Bm I rs 60 dx x v a ea r1 rx;obtain ⟨⟨bs,g1⟩,g2,g3⟩:=Bm I rs 60 dy y u b eb r2 ry;exact SeqAt.compareEq_reads h1 g1 h2 g2 (cA hu h3) ⟨.bl _,H,I,rfl,co H ρ _ Ev.refl rs (.bl _)⟩
 ·cases q
end
section
variable {prog:Program}{w:World}{A:Around}{E:Value->Shared->Prop}{s:Shared}{d it v:Addr}{es:Array DictEntry}{ep i:Nat}{ok ov:Value}
end
section
variable {K:PySem.W.Frag}{H H':Hp}{ρ ρ':List Addr}
end
section
variable {X:Cx}{pins:List (Addr×Obj)}{σ:L2.St}{H:Hp}{s:Shared}
end
section
variable {X:Cx}{pos apos:Pos}
noncomputable def Jp (mk mv:DM D):DM D:=fun loc mh=>match mk loc (mh++[.dct []]) with
 | none=>none
 | some (k,m1)=>match mv loc m1 with
  | none=>none
  | some (v,m2)=>match m2[mh.length]? with
   | some (.dct [])=>(match J6 (.ref mh.length) k v m2 with
    | some m3=>some (.ref mh.length,m3)
    | none=>none)
   | _=>none
theorem eV {k v:Expr}{mk mv:DM D}(hu:X.A.units+64 < cLine) (hk:DE X k mk) (hv:DE X v mv):DE X (.Dict [some k] [v] pos) (Jp mk mv):=fun loc mh=>by
 rintro pins s σ H Q I ⟨ρ,d,mh',q,rl,rs,co⟩;unfold Jp at q;split at q
 ·cases q
 rename_i kd m1 ek;split at q
 ·cases q
 rename_i vd m2 ev;split at q
 rotate_left
 ·cases q
 rename_i e0;split at q
 ·rename_i m3 ep;cases q;have hn:=I.hok.fresh (Nat.le_refl s.heap.objs.size)
  have I1:=I.laid (a:=s.heap.objs.size) (o:=.dK []) (h':=s.heap.push { cls:=.type "dict",data:=.dict #[] }) (t':=s.toks) (fun _ _ q=>Heap.get?_push_of_some _ q) (Nat.le_refl _) (Sh s.heap I.big);have rs1:=rs.newD (p:=s.heap.objs.size) hn (RK.nil (K:=X.K) (H:=H) (ρ:=ρ));refine wpAny_Dict_any rfl rfl (by simp) (by simp) (pairTrees_cons_walk (thn (hk loc _ pins _ σ _ (fun k1 H1=>∃ ρ1,Ev X.K (upd H s.heap.objs.size (.dK [])) (ρ++[s.heap.objs.size]) H1 ρ1/\RS X.K H1 ρ1 m1/\RD X.K H1 ρ1 kd k1) I1 ⟨_,kd,m1,ek,rl.mono (Ev.newL hn),rs1,fun H1 ρ1 v e1 rs1 r1=>⟨ρ1,e1,rs1,r1⟩⟩) ?_));rintro uk s2 ⟨k1,H1,I2,rk1,ρ1,e1,rs2,r1⟩;refine thn (hv loc m1 pins s2 σ H1 (fun v1 H2=>∃ ρ2,Ev X.K H1 ρ1 H2 ρ2/\RS X.K H2 ρ2 m2/\RD X.K H2 ρ2 vd v1) I2 ⟨ρ1,vd,m2,ev,(rl.mono (Ev.newL hn)).mono e1,rs2,fun H2 ρ2 v e2 rs2 r2=>⟨ρ2,e2,rs2,r2⟩⟩) ?_;rintro uv s3 ⟨v1,H2,I3,rv,ρ2,e2,rs3,r2⟩;refine pairTrees_nil_walk ?_;have e12:=(Ev.newL (K:=X.K) (ρ:=ρ) (o:=.dK []) hn).trans (e1.trans e2);have at':ρ2[mh.length]?=some s.heap.objs.size:=(e1.trans e2).at (rs.last _);have r1:=r1.mono e2;have rr:RD X.K H2 ρ2 (.ref mh.length) (.ref s.heap.objs.size):=.ref at';show wpAny _ _ (storeAll s.heap.objs.size [(uk,uv)]) _ _ _;unfold storeAll;rw [List.forIn_cons];refine wpAny_bind (wpAny_bind ?_);have fin:∀ {s4:Shared} {H4:Hp},Inv X pins σ H4 s4->Ev X.K H2 ρ2 H4 ρ2->RS X.K H4 ρ2 mh'->wpAny (model X.prog X.w) X.A (pure (ForInStep.yield PUnit.unit):Sem (ForInStep PUnit)) (fun r s5=>wpAny (model X.prog X.w) X.A (match r with | .done b=>pure b | .yield b=>forIn ([]:List (Value×Value)) b fun (x:Value×Value) (_:PUnit)=>(do dictSet s.heap.objs.size x.1 x.2;pure (ForInStep.yield PUnit.unit):Sem (ForInStep PUnit))) (fun _ s6=>EP X pins σ Q (.ref s.heap.objs.size) s6) X.xe s5) X.xe s4:=fun {s4 H4} I4 e4 rs4 =>
   wpAny_pure (wpAny_pure ⟨.ref s.heap.objs.size,H4,I4,rfl,co H4 ρ2 _ (e12.trans e4) rs4 (.ref at')⟩)
  obtain ⟨n,en,⟨kvs,k,em,ekk,hz,rfl⟩ | ⟨k,em,ekk,rfl⟩ | ⟨kvs,k,em,ekk,hz,rfl⟩⟩:=Mf ep
  ·cases en;obtain ⟨a,xs,ea,hd,rk⟩:=Cz rs3 rr em;cases ea;cases Ja r1 ekk;obtain ⟨z,lo,vs,rel,dd⟩:=J0 I3.hok hd;refine wpAny_dictSet_pairs (hsz:=by rw [← rel.length];exact z) (Og rk1) dd fun h' dd' hs=>fin (Gx I3 (by rw [hd];exact True.intro) hs (let ⟨q,_,_,hq,_⟩:=dd';⟨q,hq⟩) (bO ?_ lo (rel.put k rv) dd')) (Ev.dk hd) (rs3.setD at' hd (rk.put k r2))
   have:=Gq xs k v1;rw [rk.length] at this;rw [sizeLine_eq];omega
  ·cases en;obtain ⟨a,xs,ea,hd,rk⟩:=Cz rs3 rr em;cases ea;cases rk.inv0;obtain ⟨b,rfl,rfl,ok,rkk⟩:=J5 I3 rs3 ekk r1 rk1;obtain ⟨z,lo,vs,rel,dd⟩:=J0 I3.hok hd;cases rel;have pn:PN [(k,b,v1)] (storedH [] k b uv):=.cons ⟨rfl,rfl,rv⟩ .nil;refine wpAny_dictSet_heap (hsz:=by decide) (knd:=Fj X.prog X.w) (by show X.A.units+8 < cLine;omega) (Gf I3 rs3 ok rkk) (Qw dd) fun h' dd' hs'=>?_
   obtain ⟨q,es,ep',hq,g2,g3,g4,_,g5⟩:=dd';have ho:(∃ ys,HO.dK []=.dN ys)\/∃ ys,HO.dK []=.dK ys:=.inr ⟨_,rfl⟩;exact fin (Gx I3 (by rw [hd];exact True.intro) hs' ⟨q,hq⟩ (ob:=.dN [(k,b,v1)]) ⟨(by decide:1<=sizeLine),lo,_,pn,q,es,ep',hq,g2,g3,g4,g5⟩) (Ev.dn hd ho) (rs3.setN at' hd ho (.cons ok rkk r2 .nil))
  ·cases en;rw [e0] at em;cases em
 ·cases q
end
end DL
namespace DL
open PySem PySem.Spec PyProof.Rows L2
inductive InF where
 | par | nd | nl
noncomputable def Mp:List (Str×InF)->D->MH->List D×MH
 | [],_,mh=>([],mh)
 | (_,.par)::r,d,mh=>(d::(Mp r d mh).1,(Mp r d mh).2)
 | (_,.nd)::r,d,mh=>(.ref mh.length::(Mp r d (mh++[.dct []])).1,(Mp r d (mh++[.dct []])).2)
 | (_,.nl)::r,d,mh=>(.ref mh.length::(Mp r d (mh++[.lst []])).1,(Mp r d (mh++[.lst []])).2)
noncomputable def Yc (c:Str) (fs:List (Str×InF)) (ma:DM D):DM D:=ma.bnd fun d=>fun _ mh=>some (.obj c (fs.map (·.1)) (Mp fs d mh).1,(Mp fs d mh).2)
noncomputable def V5 (C x dx:Addr) (v:V):List (Str×InF)->List (Str×V)->Hp->(Hp->Prop)->Prop
 | [],_,H,Q=>Q H
 | (f,.par)::r,done,H,Q=>V5 C x dx v r (done++[(f,v)]) (upd H x (.ins C dx (done++[(f,v)]))) Q
 | (f,.nd)::r,done,H,Q=>∀ p,H p=none->V5 C x dx v r (done++[(f,.ref p)]) (upd (upd H p (.dK [])) x (.ins C dx (done++[(f,.ref p)]))) Q
 | (f,.nl)::r,done,H,Q=>∀ p,H p=none->V5 C x dx v r (done++[(f,.ref p)]) (upd (upd H p (.lst [])) x (.ins C dx (done++[(f,.ref p)]))) Q
noncomputable def spN (C:Addr) (fs:List (Str×InF)):Sp:=fun vs H Q _=>∃ x dx v,vs=[.ref x,v]/\H x=some (.ins C dx [])/\V5 C x dx v fs [] H (Q .non)
inductive IniB (s q:Str):List Stmt->List (Str×InF)->Prop
 | nil:IniB s q [] []
 | par {f:Str} {p1 p2 p3 p4:Pos} {r:List Stmt} {fs:List (Str×InF)}:IniB s q r fs->IniB s q (.Assign [.Attribute (.Name s p1) f p2] (.Name q p3) p4::r) ((f,.par)::fs)
 | nd {f:Str} {p1 p2 p3 p4:Pos} {r:List Stmt} {fs:List (Str×InF)}:IniB s q r fs->IniB s q (.Assign [.Attribute (.Name s p1) f p2] (.Dict [] [] p3) p4::r) ((f,.nd)::fs)
 | nl {f:Str} {p1 p2 p3 p4:Pos} {r:List Stmt} {fs:List (Str×InF)}:IniB s q r fs->IniB s q (.Assign [.Attribute (.Name s p1) f p2] (.List [] p3) p4::r) ((f,.nl)::fs)
theorem Jc {f:Str}{v:V}:∀ {fs:List (Str×V)},f ∉ fs.map (·.1)->Gm f v fs=fs++[(f,v)]
 | [],_=>rfl
 | (g,x)::r,h=>by
  rw [List.map_cons,List.mem_cons,not_or] at h;show (if g=f then (g,v)::r else (g,x)::Gm f v r)=_;rw [if_neg (Ne.symm h.1),Jc h.2];rfl
section
variable {X:Cx}{s q:Str}{C:Addr}
theorem mY (hs:∀ p,PE X (.Name s p) (qP 0)) (hq:∀ p,PE X (.Name q p) (qP 1)) (hc:Cls X.K C) {body:List Stmt}{fs:List (Str×InF)}(B:IniB s q body fs):(∀ f∈fs,Cq X.K C f.1)->(fs.map (·.1)).Nodup ->
  ∃ t,PSs X body t/\∀ (N:Ends) (x dx:Addr) (v:V) (done:List (Str×V)) (σ:L2.St) (H:Hp),σ[0]?=some (some (.ref x))->σ[1]?=some (some v)->H x=some (.ins C dx done)->(∀ f∈fs,f.1 ∉ done.map (·.1))->done.length+fs.length < 1000->V5 C x dx v fs done H (fun H'=>N.nx σ H')->t N σ H:=by
 induction B with
 | nil=>exact fun _ _=>⟨_,W7,fun N x dx v done σ H _ _ _ _ _ h=>h⟩
 | @par f p1 p2 p3 p4 r fs _ ih =>
  intro ha hn;rw [List.map_cons,List.nodup_cons] at hn;obtain ⟨t,h1,h2⟩:=ih (fun g hg=>ha g (List.mem_cons_of_mem _ hg)) hn.2;refine ⟨_,Ig (Vb (hs p1) (hq p3) rfl) h1,fun N x dx v done σ H e0 e1 hx hd hl h=>?_⟩;have e2:=Jc (v:=v) (hd _ List.mem_cons_self);refine ⟨v,e1,.ref x,e0,x,C,dx,done,rfl,hx,hc,ha _ List.mem_cons_self,by rw [List.length_cons] at hl;omega,?_⟩;rw [e2];refine h2 N x dx v _ σ _ e0 e1 Ak (fun g hg z=>?_) (by rw [List.length_append,List.length_singleton];rw [List.length_cons] at hl;omega) h;rw [List.map_append,List.mem_append] at z;rcases z with z|z
  ·exact hd g (List.mem_cons_of_mem _ hg) z
  ·have z:g.1=f:=List.mem_singleton.mp z;exact hn.1 (List.mem_map.mpr ⟨g,hg,z⟩)
 | @nd f p1 p2 p3 p4 r fs _ ih =>
  intro ha hn;rw [List.map_cons,List.nodup_cons] at hn;obtain ⟨t,h1,h2⟩:=ih (fun g hg=>ha g (List.mem_cons_of_mem _ hg)) hn.2;refine ⟨_,Ig (Vb (hs p1) Sq rfl) h1,fun N x dx v done σ H e0 e1 hx hd hl h=>fun p hp=>?_⟩;have nx:x≠p:=Aj hx hp;have e2:=Jc (v:=.ref p) (hd _ List.mem_cons_self);refine ⟨.ref x,e0,x,C,dx,done,rfl,by rw [Ab nx];exact hx,hc,ha _ List.mem_cons_self,by rw [List.length_cons] at hl;omega,?_⟩;rw [e2];refine h2 N x dx v _ σ _ e0 e1 Ak (fun g hg z=>?_) (by rw [List.length_append,List.length_singleton];rw [List.length_cons] at hl;omega) (h p hp);rw [List.map_append,List.mem_append] at z;rcases z with z|z
  ·exact hd g (List.mem_cons_of_mem _ hg) z
  ·have z:g.1=f:=List.mem_singleton.mp z;exact hn.1 (List.mem_map.mpr ⟨g,hg,z⟩)
 | @nl f p1 p2 p3 p4 r fs _ ih =>
  intro ha hn;rw [List.map_cons,List.nodup_cons] at hn;obtain ⟨t,h1,h2⟩:=ih (fun g hg=>ha g (List.mem_cons_of_mem _ hg)) hn.2;refine ⟨_,Ig (Vb (hs p1) (bF Fz) rfl) h1,fun N x dx v done σ H e0 e1 hx hd hl h=>⟨by decide,fun p hp=>?_⟩⟩;have nx:x≠p:=Aj hx hp;have e2:=Jc (v:=.ref p) (hd _ List.mem_cons_self);refine ⟨.ref x,e0,x,C,dx,done,rfl,by rw [Ab nx];exact hx,hc,ha _ List.mem_cons_self,by rw [List.length_cons] at hl;omega,?_⟩;rw [e2];refine h2 N x dx v _ σ _ e0 e1 Ak (fun g hg z=>?_) (by rw [List.length_append,List.length_singleton];rw [List.length_cons] at hl;omega) (h p hp);rw [List.map_append,List.mem_append] at z;rcases z with z|z
  ·exact hd g (List.mem_cons_of_mem _ hg) z
  ·have z:g.1=f:=List.mem_singleton.mp z;exact hn.1 (List.mem_map.mpr ⟨g,hg,z⟩)
end
theorem G4 {K:PySem.W.Frag}{C:Addr}{f:Str×InF}{fs:List (Str×InF)}(h:Cq K C f.1) (t:∀ g∈fs,Cq K C g.1):∀ g∈f::fs,Cq K C g.1:=fun g hg=>by
 rcases List.mem_cons.mp hg with rfl|hg
 ·exact h
 ·exact t g hg
theorem eX {P:Program}{w:World}{K:PySem.W.Frag}{mg:Str->Option Value}{base:Heap}{qual:Str}{st:Stmt}{fa C:Addr}{fd:FuncData}{s q:Str}{fs:List (Str×InF)}(F:Fun K "__init__" qual st fa fd) (S:FnScope [s,q] [s,q] (Ag st)) (hb:IniB s q (Bb st) fs)
  (hs1:Vis (Ag st) s) (hq1:Vis (Ag st) q) (hc:Cls K C) (ha:∀ f∈fs,Cq K C f.1) (nd:(fs.map (·.1)).Nodup) (hl:fs.length < 1000) (d1:(s==("__debug__":Str))=false/\(s==("__classdict__":Str))=false) (d2:(q==("__debug__":Str))=false/\(q==("__classdict__":Str))=false):FnOk P w K mg base CX0 1 fa fd [s,q] (spN C fs):=by
 refine F.ok S (fun vs H Q E h=>?_) fun cdv A outer sh H vs Q E hr h=>?_
 ·obtain ⟨x,dx,v,rfl,_⟩:=h;rfl
 ·obtain ⟨x,dx,v,rfl,hx,hQ⟩:=h;obtain ⟨t,h1,h2⟩:=mY (X:=(Ve CX0 P w K mg base [s,q] qual (Ag st) fa cdv A outer sh H E).nox) (s:=s) (q:=q) (C:=C) (fun p=>U3 (i:=0) rfl hs1 d1.1 d1.2) (fun p=>U3 (i:=1) rfl hq1 d2.1 d2.2) hc hb ha nd;exact ⟨t,h1,h2 _ x dx v [] _ H rfl rfl hx (fun f _ z=>by cases z) (by rw [List.length_nil,Nat.zero_add];exact hl) hQ⟩
section
variable {X:Cx}{C:Addr}{c:Str}
theorem T5 {H:Hp}{x p:Addr}{i o j:HO}(h:p≠x):upd (upd (upd H x i) p o) x j=upd (upd H p o) x j:=by
 funext b
 by_cases e:b=x
 ·subst e;rw [Ak,Ak]
 ·rw [Ab e,Ab e]
  by_cases e2:b=p
  ·subst e2;rw [Ak,Ak]
  ·rw [Ab e2,Ab e2,Ab e]
theorem Qz {H1:Hp}{ρ1:List Addr}{z dx:Addr}{v:V}{d:D}{Q:Hp->Prop}(hn:PySem.W.nsIn X.K mainGlobals c=some (some (.ref C))):∀ (fs:List (Str×InF)) (ks:List Str) (xs:List V) (ds:List D) (Hc:Hp) (ρc:List Addr) (m:MH),Hc z=none->Ev X.K H1 ρ1 Hc ρc->RS X.K Hc ρc m->ks.length=xs.length->RDs X.K Hc ρc ds xs->RD X.K Hc ρc d v ->
  (∀ H' ρ',Ev X.K H1 ρ1 H' ρ'->RS X.K H' ρ' (Mp fs d m).2->RD X.K H' ρ' (.obj c (ks++fs.map (·.1)) (ds++(Mp fs d m).1)) (.ref z)->Q H')->V5 C z dx v fs (ks.zip xs) (upd Hc z (.ins C dx (ks.zip xs))) Q
 | [],ks,xs,ds,Hc,ρc,m,hz,e,rs,kl,rx,rd,h=>by
  refine h _ ρc (e.trans (Ev.new hz)) (rs.new hz) ?_;show RD X.K _ ρc (.obj c (ks++[]) (ds++[])) _;rw [List.append_nil,List.append_nil];exact .obj (xs:=xs) hn Ak kl (rx.mono (Ev.new hz))
 | (f,.par)::r,ks,xs,ds,Hc,ρc,m,hz,e,rs,kl,rx,rd,h=>by
  have ez:ks.zip xs++[(f,v)]=(ks++[f]).zip (xs++[v]):=by rw [List.zip_append kl];rfl
  show V5 C z dx v r (ks.zip xs++[(f,v)]) (upd (upd Hc z _) z (.ins C dx (ks.zip xs++[(f,v)]))) Q;rw [iW,ez];refine Qz hn r (ks++[f]) (xs++[v]) (ds++[d]) Hc ρc m hz e rs (by rw [List.length_append,List.length_append,kl];rfl) (rx.append (.cons rd .nil)) rd fun H' ρ' e' rs' r'=>h H' ρ' e' rs' ?_
  rw [List.append_assoc,List.append_assoc] at r';exact r'
 | (f,.nd)::r,ks,xs,ds,Hc,ρc,m,hz,e,rs,kl,rx,rd,h=>by
  intro p hp;have ne:p≠z:=fun q=>by rw [q,Ak] at hp;cases hp
  rw [Ab ne] at hp;have ez:ks.zip xs++[(f,V.ref p)]=(ks++[f]).zip (xs++[V.ref p]):=by rw [List.zip_append kl];rfl
  rw [T5 ne,ez];have e2:=Ev.newL (K:=X.K) (ρ:=ρc) (o:=.dK []) hp;refine Qz hn r (ks++[f]) (xs++[.ref p]) (ds++[.ref m.length]) _ (ρc++[p]) (m++[MO.dct []]) (by rw [Ab (Ne.symm ne)];exact hz) (e.trans e2) (rs.newD hp RK.nil) (by rw [List.length_append,List.length_append,kl];rfl) ((rx.mono e2).append (.cons (.ref (rs.last p)) .nil)) (rd.mono e2) fun H' ρ' e' rs' r'=>h H' ρ' e' rs' ?_
  rw [List.append_assoc,List.append_assoc] at r';exact r'
 | (f,.nl)::r,ks,xs,ds,Hc,ρc,m,hz,e,rs,kl,rx,rd,h=>by
  intro p hp;have ne:p≠z:=fun q=>by rw [q,Ak] at hp;cases hp
  rw [Ab ne] at hp;have ez:ks.zip xs++[(f,V.ref p)]=(ks++[f]).zip (xs++[V.ref p]):=by rw [List.zip_append kl];rfl
  rw [T5 ne,ez];have e2:=Ev.newL (K:=X.K) (ρ:=ρc) (o:=.lst []) hp;refine Qz hn r (ks++[f]) (xs++[.ref p]) (ds++[.ref m.length]) _ (ρc++[p]) (m++[MO.lst []]) (by rw [Ab (Ne.symm ne)];exact hz) (e.trans e2) (rs.newL hp .nil) (by rw [List.length_append,List.length_append,kl];rfl) ((rx.mono e2).append (.cons (.ref (rs.last p)) .nil)) (rd.mono e2) fun H' ρ' e' rs' r'=>h H' ρ' e' rs' ?_
  rw [List.append_assoc,List.append_assoc] at r';exact r'
variable {CX:CXT}{k:Nat}{fa:Addr}{fd:FuncData}{ps:List Str}{E:XK}{pos:Pos}
theorem eY {x:Str}{p:Pos}{ma:DM D}{a:Expr}{fs:List (Str×InF)}(hn:PySem.W.nsIn X.K mainGlobals x=some (some (.ref C))) (M:Mk X.K C fa) (F:FnOk X.prog X.w X.K X.mg X.base CX k fa fd ps (spN C fs)) (hr:Room (k+1) X.A) (hg:Gl X x) (hm:X.mg x=some (.ref C)) (hb:Binds X.K fd ps []) (hx:Cr CX X E)
  (ha:DE X a ma) (hdb:(x==("__debug__":Str))=false) (hs:starEach [a] X.env=(false,eval a X.env)::starEach [] X.env):DE X (.Call (.Name x p) [a] [] pos) (Yc x fs ma):=fun loc mh =>
 Ar (jP M F hr hg hm hb .nil hx (Ed (ha loc mh) Fz hs) hdb hs) fun σ H Q ⟨ρ,d,mh',q,rl,rs,co⟩=>by
  obtain ⟨y,m1,ea,q⟩:=Ah q;cases q;refine ⟨ρ,y,_,ea,rl,rs,fun H1 ρ1 v e1 rs1 r1=>fun z dx hz hdx hne=>?_⟩;have hz':upd H1 dx (HO.own z) z=none:=by rw [Ab (Ne.symm hne)];exact hz
  refine ⟨z,dx,v,rfl,Ak,?_⟩;exact Qz (H1:=H1) (ρ1:=ρ1) (c:=x) hn fs [] [] [] (upd H1 dx (.own z)) ρ1 m1 hz' (Ev.new hdx) (rs1.new hdx) rfl .nil (r1.mono (Ev.new hdx)) fun H' ρ' e' rs' r'=>⟨rfl,co H' ρ' _ (e1.trans e') rs' r'⟩
end
end DL
namespace DL
open PySem PySem.Spec PyProof.Rows L2 PySem.W
section
variable {prog:Program}{w:World}{A:Around}{E:Value->Shared->Prop}{κ:SortKind}{it:Array Keyed}{s:Shared}
theorem Pb {p:Array Nat}{G:Array Nat×Nat×Nat->Shared->Prop}{N:Nat}(hc:∀ k,1<=k->k < N->∀ C:Bool->Shared->Prop,C true s->kas_cmp prog w A κ it (p.getD k 0) (p.getD (k - 1) 0) C s) (hG:G (p,N,0) s):∀ (f k:Nat),1<=k->k+f=N ->
  (kas_desc f p k 0).kasWp (kas_cmp prog w A κ it) G s
 | 0,k,_,e=>by
  have:k=N:=e;subst this;exact hG
 | f+1,k,h1,e=>by
  refine hc k h1 (by omega) _ ?_;show (if true=true then (if 0 > 0 then kas_desc f (kas_rev p (k - (0+1)) k) (k+1) 0 else kas_desc f p (k+1) 0) else _:KasT _).kasWp (kas_cmp prog w A κ it) G s;rw [if_pos rfl,if_neg (by omega)];exact Pb hc hG f (k+1) (by omega) (by omega)
theorem Z8 {n:Nat}{Q:Unit->SortSt->Shared->Prop}(h2:2<=n)
  (hG:∀ st',arrOf st'=(kas_rev (List.toArray (List.range n)) 0 n).map (kas_item it)->failedOf st'=none->Q () st' s) (hc:∀ k,1<=k->k < n->∀ C:Bool->Shared->Prop,C true s->kas_cmp prog w A κ it k (k - 1) C s) :
  kasC (model prog w) A E sortRuns' Q (kas_st κ it (List.toArray (List.range n))) s:=by
 obtain ⟨r,rfl⟩:∃ r,n=r+2:=⟨n - 2,by omega⟩;have hrs:(List.toArray (List.range (r+2))).size=r+2:=by simp
 rw [sortRuns'_eq];refine kasC_bind (kasC_get ?_);dsimp only;have hsz:(arrOf (kas_st κ it (List.toArray (List.range (r+2))))).size=r+2:=by
  show ((List.toArray (List.range (r+2))).map (kas_item it)).size=_;rw [Array.size_map,hrs]
 have hmr:minRun' (r+2) (r+2) 0<=r+2:=O3 _ _ _;simp only [hsz];generalize minRun' (r+2) (r+2) 0=mr at hmr;refine kasC_bind (kasC_range ?_);show kasC _ _ _ (forIn (0::1::List.range' 2 r) _ _) _ _ _;refine kasC_cons ?_;dsimp only;rw [if_neg (by omega)];simp only [Nat.sub_zero,Nat.zero_add];have gd:∀ k,k < r+2->(List.toArray (List.range (r+2))).getD k 0=k:=fun k hk=>by simp [Array.getD,hk]
 refine kasC_bind (kas_count_ (G:=fun m s'=>m=(r+2,kas_rev (List.toArray (List.range (r+2))) 0 (r+2))/\s'=s) (by omega) (by rw [hrs];exact Nat.le_refl _) (fun m p' s' hm1 hm2 hp hg=>?_) ?_)
 ·obtain ⟨e1,rfl⟩:=hg;obtain ⟨rfl,rfl⟩:=Prod.mk.inj e1;dsimp only;rw [if_neg (by omega)];refine kasC_bind (kasC_get ?_);rw [show (pendingOf (kas_st κ it (kas_rev (List.toArray (List.range (r+2))) 0 (r+2)))).back?=none from rfl];dsimp only;refine kasC_bind (kasC_modify (kasC_pure ?_));show kasC _ _ _ (forIn (1::List.range' 2 r) _ _) _ _ _;refine kasC_cons ?_;dsimp only;rw [if_pos (Nat.le_refl _)];refine kasC_pure ?_;dsimp only;refine kasC_bind (kasC_range ?_);show kasC _ _ _ (forIn (0::1::List.range' 2 r) _ _) _ _ _;refine kasC_cons ?_;refine kasC_bind (kasC_get ?_);rw [if_pos (show (pendingOf (setPending (kas_st κ it (kas_rev (List.toArray (List.range (r+2))) 0 (r+2))) ((pendingOf (kas_st κ it (kas_rev (List.toArray (List.range (r+2))) 0 (r+2)))).push (0,r+2,0)))).size<=1 from Nat.le_refl 1)];refine kasC_pure ?_;dsimp only;exact kasC_pure (hG _ rfl rfl)
 ·have hc':∀ k,1<=k->k < r+2->∀ C:Bool->Shared->Prop,C true s->kas_cmp prog w A κ it ((List.toArray (List.range (r+2))).getD k 0) ((List.toArray (List.range (r+2))).getD (k - 1) 0) C s:=fun k h1 hk C hC=>by
   rw [gd k hk,gd (k - 1) (by omega)];exact hc k h1 hk C hC
  unfold kas_count;rw [KasT.kasWp_bind];show (kas_asc _ (r+1) 1).kasWp _ _ _;refine hc' 1 (by omega) (by omega) _ ?_;show (if true=true then KasT.ret 1 else _:KasT Nat).kasWp (kas_cmp prog w A κ it) _ s;rw [if_pos rfl];show (if (1==r+2)=true then _ else if 1 > 1 then _ else kas_descPart 1 (r+2) (List.toArray (List.range (r+2))):KasT _).kasWp (kas_cmp prog w A κ it) _ s;rw [if_neg (by simp),if_neg (by omega)];unfold kas_descPart;rw [KasT.kasWp_bind];refine Pb hc' ?_ _ _ (by omega) (show 1+1+(r+2 - (1+1))=r+2 by omega);show (if 0 > 0 then _ else kas_tail3 (r+2) (r+2) (List.toArray (List.range (r+2))):KasT _).kasWp (kas_cmp prog w A κ it) _ s;rw [if_neg (by omega)];unfold kas_tail3;rw [KasT.kasWp_bind,Nat.sub_self];exact ⟨rfl,rfl⟩
theorem eZ (vs:List Value):((kas_rev (List.toArray (List.range vs.length)) 0 vs.length).map (kas_item (pairsOf vs))).map (·.2)=vs.reverse.toArray:=by
 have e:=kas_range (pairsOf vs);rw [pairsOf_size] at e;have hout:(pairsOf vs).map (·.2)=vs.toArray:=by
  apply Array.toList_inj.mp;rw [Array.toList_map,pairsOf_toList];simp only [List.map_snd_zip (Nat.le_refl _)]
 apply Array.ext_getElem?;intro k;have m:=getElem?_mirror_all (xs:=List.toArray (List.range vs.length)) (i:=0) (j:=vs.length) (by simp) k;have e2:∀ j,((List.toArray (List.range vs.length))[j]?.map (kas_item (pairsOf vs))).map (·.2)=vs[j]?:=fun j=>by
  rw [← Array.getElem?_map,← Array.getElem?_map,e,hout,List.getElem?_toArray]
 rw [Array.getElem?_map,Array.getElem?_map,show kas_rev (List.toArray (List.range vs.length)) 0 vs.length=mirror (List.toArray (List.range vs.length)) 0 vs.length ((vs.length - 0) / 2) from rfl,m]
 by_cases h:0<=k/\k < vs.length
 ·rw [if_pos h,e2];rw [List.getElem?_toArray,List.getElem?_reverse h.2,Nat.zero_add]
 ·rw [if_neg h,e2];have:vs.length<=k:=by omega
  rw [List.getElem?_toArray,List.getElem?_eq_none this,List.getElem?_eq_none (by rw [List.length_reverse];exact this)]
theorem Mq {a:Addr}{vs:List Value}{ns:List Int}{n:Nat}{P:PySem.Fin->Shared->Prop}(ho:s.heap.get? a=some (seqObj "list" vs.toArray n)) (hz:vs.length<=sizeLine) (h2:2<=vs.length) (hI:IntsAre vs ns) (hf:∀ k x y,1<=k->ns[k]?=some x->ns[k - 1]?=some y->x < y)
  (h:P (.done (.ret .none)) { s with heap:=sortedHeap s.heap a vs vs.reverse.toArray }) :
  wpAny (model prog w) A (Builtin.«list.sort» ⟨[.ref a],[]⟩) P E s:=by
 rw [list_sort_plain];have ha:a < s.heap.objs.size:=Heap.lt_size ho;refine wpAny_bind (listItems_at ho rfl ?_);refine wpAny_bind (listUpdate_at ho rfl ?_ (by rw [List.size_toArray];exact hz) (Nat.zero_le _))
 obtain ⟨e1,ho1⟩:∃ e1,(s.heap.update a (Obj.mapSeq fun _=>#[])).get? a=some (seqObj "list" #[] e1):=⟨_,get?_update_seq ho (fun _=>#[])⟩;refine wpAny_bind (seqEpoch_at ho1 rfl ?_);refine wpAny_bind (wpAny_newTuple ?_ (by show vs.length<=_;exact hz));refine wpAny_bind (wpAny_newList ?_ (Nat.zero_le _));refine wpAny_holding ?_
 have ho6:(((s.heap.update a (Obj.mapSeq fun _=>#[])).push (seqObj "tuple" vs.toArray 0)).push (seqObj "list" #[] 0)).get? a=some (seqObj "list" #[] e1):=by
  rw [Heap.get?_push_ne _ _ _ (by rw [size_push',Heap.size_update];exact Nat.ne_of_lt (Nat.lt_succ_of_lt ha)),Heap.get?_push_ne _ _ _ (by rw [Heap.size_update];exact Nat.ne_of_lt ha)];exact ho1
 show wpAny (model prog w) A _ P E { s with heap:=((s.heap.update a (Obj.mapSeq fun _=>#[])).push (seqObj "tuple" vs.toArray 0)).push (seqObj "list" #[] 0) };dsimp only;have hsz:vs.toArray.size=vs.length:=by simp
 have n2:¬ vs.toArray.size < 2:=by omega
 rw [if_neg n2,if_neg n2];have hkk:keyKind' vs.toArray=pure oneType':=by
  match vs,h2,hI with
  | v1::v2::r,_,hI=>exact keyKind_ints hI
 rw [hkk];refine wpAny_bind (wpAny_pure ?_);have est:SortSt.mk' oneType' (vs.toArray.zip vs.toArray) #[] 7 none=kas_st oneType' (pairsOf vs) (List.toArray (List.range vs.length)):=by
  have e:=kas_range (pairsOf vs);rw [pairsOf_size] at e;show SortSt.mk' oneType' (pairsOf vs) #[] 7 none=SortSt.mk' oneType' ((List.toArray (List.range vs.length)).map (kas_item (pairsOf vs))) #[] 7 none;rw [e]
 have at':∀ (vs:List Value) (ns:List Int),IntsAre vs ns->∀ k,k < vs.length->∃ m t,ns[k]?=some m/\vs.getD k Value.none=.int m t:=fun vs ns hI=>by
  induction hI with
  | nil=>intro k hk;simp at hk
  | cons m t _ ih =>
   intro k hk;cases k with
   | zero=>exact ⟨m,t,rfl,rfl⟩
   | succ k =>
    obtain ⟨m',t',e1,e2⟩:=ih k (by simpa using hk);exact ⟨m',t',by simpa using e1,by simpa using e2⟩
 have run:=Z8 (E:=E) (s:={ s with heap:=((s.heap.update a (Obj.mapSeq fun _=>(#[]:Array Value))).push (seqObj "tuple" vs.toArray 0)).push (seqObj "list" #[] 0) }) (κ:=oneType') (it:=pairsOf vs) (prog:=prog) (w:=w) (A:=A) (n:=vs.length)
  (Q:=fun _ st' s'=>s'={ s with heap:=((s.heap.update a (Obj.mapSeq fun _=>(#[]:Array Value))).push (seqObj "tuple" vs.toArray 0)).push (seqObj "list" #[] 0) }/\(arrOf st').map (·.2)=vs.reverse.toArray/\failedOf st'=none)
  h2 (fun st' a1 a2=>⟨rfl,by rw [a1];exact eZ vs,a2⟩) (fun k h1 hk C hC=>by
   rw [← kas_ask_eq];show wpAny _ _ (keyLt' oneType' (vs.getD k Value.none) (vs.getD (k - 1) Value.none)) _ _ _;obtain ⟨x,t,e1,e2⟩:=at' vs ns hI k hk;obtain ⟨y,u,e3,e4⟩:=at' vs ns hI (k - 1) (by omega);rw [e2,e4];have:=hf k x y h1 e1 e3
   exact oneLt_int (by rw [decide_eq_true this];exact hC))
 rw [← est] at run;refine wpAny_bind (wpAny_mono run ?_ fun _ _ e=>e);rintro ⟨⟨⟩,st'⟩ s' ⟨rfl,har,hf'⟩;dsimp only;rw [har];refine wpAny_bind (seqEpoch_at ho6 rfl ?_);refine wpAny_bind (listUpdate_at ho6 rfl ?_ (Nat.zero_le _) (hsz2:=by rw [List.size_toArray,List.length_reverse];omega));rw [hf'];simp only [bne_self_eq_false,Bool.false_eq_true,if_false];exact wpAny_pure h
theorem T6 {l:Addr}{vs:List Value}{ns:List Int}{Q:Value->Shared->Prop}(hl:s.heap.IsList l vs.toArray) (hz:vs.length<=sizeLine) (h2:2<=vs.length) (hI:IntsAre vs ns) (hf:∀ k x y,1<=k->ns[k]?=some x->ns[k - 1]?=some y->x < y)
  (h:∀ h' c,(∀ b o,s.heap.get? b=some o->h'.get? b=some o)->h'.get? (s.heap.objs.size+1)=some (seqObj "list" vs.reverse.toArray c)->Q (.ref (s.heap.objs.size+1)) { s with heap:=h' }) :
  wpAny (model prog w) A (call (.builtin "sorted") [.ref l]) Q E s:=by
 refine Calls.call_function_entry kind_sorted plain_sorted entry_sorted (args_sorted1 _) ?_;unfold Builtin.«sorted»
 refine wpAny_bind (m:=checkCount "sorted" 1 1 _) (wpAny_pure ?_);refine wpAny_bind (collect_list hl ?_ hz);refine wpAny_bind (wpAny_newList ?_ hz)
 have hsz:((s.heap.push (seqObj "list" #[] 0)).update s.heap.objs.size (Obj.mapSeq (·++vs.toArray))).objs.size=s.heap.objs.size+1:=by
  rw [Heap.size_update,size_push']
 have hoL:(((s.heap.push (seqObj "list" #[] 0)).update s.heap.objs.size (Obj.mapSeq (·++vs.toArray))).push (seqObj "list" vs.toArray 0)).get? (s.heap.objs.size+1)=some (seqObj "list" vs.toArray 0):=by
  rw [← hsz];exact Heap.get?_push_size _ rfl
 have keep:∀ b o,s.heap.get? b=some o->(((s.heap.push (seqObj "list" #[] 0)).update s.heap.objs.size (Obj.mapSeq (·++vs.toArray))).push (seqObj "list" vs.toArray 0)).get? b=some o:=fun b o q=>by
  have hlt:b < s.heap.objs.size:=Heap.lt_size q;rw [Heap.get?_push_ne _ _ _ (by rw [hsz];exact Nat.ne_of_lt (Nat.lt_succ_of_lt hlt)),Heap.get?_update_ne _ _ _ _ (Nat.ne_of_lt hlt),Heap.get?_push_ne _ _ _ (Nat.ne_of_lt hlt)];exact q
 show wpAny _ _ _ _ _ { s with heap:=((s.heap.push (seqObj "list" #[] 0)).update s.heap.objs.size (Obj.mapSeq (·++vs.toArray))).push (seqObj "list" vs.toArray 0) };rw [hsz]
 generalize hh2:((s.heap.push (seqObj "list" #[] 0)).update s.heap.objs.size (Obj.mapSeq (·++vs.toArray))).push (seqObj "list" vs.toArray 0)=h2' at hoL keep;refine wpAny_bind (wpAny_holding (wpAny_call_entry slot_list_sort ⟨_,hoL,rfl⟩ entry_list_sort (Mq (s:={ s with heap:=h2' }) hoL hz h2 hI hf ?_) (args_list_sort _)));refine ⟨_,rfl,wpAny_pure ⟨_,rfl,?_⟩⟩;obtain ⟨c,at'⟩:=sortedHeap_at (h:=h2') (a:=s.heap.objs.size+1) (vs:=vs) (n:=0) (out:=vs.reverse.toArray) hoL;refine h _ c (fun b o q=>?_) at';have hlt:b < s.heap.objs.size:=Heap.lt_size q;rw [sortedHeap_old (Nat.ne_of_lt (Nat.lt_succ_of_lt hlt)) (Heap.lt_size (keep b o q))];exact keep b o q
end
noncomputable def Jd:List Int->Bool
 | a::b::r=>decide (b < a)&&Jd (b::r)
 | _=>true
theorem T7:∀ {ns:List Int}{k:Nat}{x y:Int},Jd ns=true->1<=k->ns[k]?=some x->ns[k - 1]?=some y->x < y
 | [],_,_,_,_,_,e,_=>by simp at e
 | [_],k,_,_,_,h1,e,_=>by
  obtain ⟨j,rfl⟩:∃ j,k=j+1:=⟨k - 1,by omega⟩;simp at e
 | a::b::r,k,x,y,h,h1,e1,e2=>by
  have h:(decide (b < a)&&Jd (b::r))=true:=h;rw [Bool.and_eq_true,decide_eq_true_iff] at h;obtain ⟨j,rfl⟩:∃ j,k=j+1:=⟨k - 1,by omega⟩;cases j with
  | zero =>
   simp at e1 e2;omega
  | succ j=>exact T7 (k:=j+1) h.2 (by omega) (by simpa using e1) (by simpa using e2)
noncomputable def Bv (ds:List D) (mh:MH):Option (D×MH):=match ds with
 | [.ref n]=>(match mh[n]? with
  | some (.lst es)=>(match intsOf es with
   | some ns=>if 64<=ns.length/\Jd ns=true then some (.ref mh.length,mh++[.lst (ns.reverse.map .int)]) else Ez [.ref n] mh
   | none=>Ez [.ref n] mh)
  | _=>Ez [.ref n] mh)
 | _=>Ez ds mh
section
variable {X:Cx}
theorem T8:∀ {xs:List V}{us:List Value},Vals xs us->Vals xs.reverse us.reverse
 | [],[],.nil=>.nil
 | x::xs,u::us,.cons h t=>by
  rw [List.reverse_cons,List.reverse_cons];have:=T8 t;have app:∀ {a b:List V} {c d:List Value},Vals a c->Vals b d->Vals (a++b) (c++d):=by
   intro a b c d h1 h2
   induction h1 with
   | nil=>exact h2
   | cons r _ ih=>exact .cons r ih
  exact app this (.cons h .nil)
theorem Q0 (hc:X.calm=true):Ax X (.builtin "sorted") (rDs X.K Bv):=by
 rintro pins s σ H xs us Q I r ⟨ρ,mh,ds,d,mh',q,rs,rd,co⟩;unfold Bv at q;split at q
 ·rename_i n;split at q
  ·rename_i es en;split at q
   ·rename_i ns ei;split at q
    ·rename_i hh;cases q;obtain ⟨v,rfl,rx⟩:=Li rd;obtain ⟨u,rfl,ru⟩:=vals1 r;obtain ⟨p,ys,rfl,hq,ry⟩:∃ p ys,v=.ref p/\SqL X.K H p ys/\RDs X.K H ρ es ys:=by
      cases rx with
      | ref h =>
       obtain ⟨a',ha,ro⟩:=rs.at en;rw [h] at ha;cases ha;obtain ⟨xs,q,r⟩:=ro.read;exact ⟨_,xs,rfl,q,r⟩
     cases ru;obtain ⟨its,rv,pl,hz⟩:=I.list hq;rw [Dw ei] at ry;rw [Gu ry] at hq rv hz;have hlen:=rv.length;rw [List.length_map] at hlen hz;refine T6 pl.isList (by omega) (by omega) (Eg rv) (fun k x y h1 e1 e2=>T7 hh.2 h1 e1 e2) fun h' c kp at'=>?_
     have rr:Vals (ns.reverse.map V.int) its.reverse:=by
      have:=T8 rv;rw [← List.map_reverse] at this;exact this
     exact ⟨.ref (s.heap.objs.size+1),_,I.laid (t':=s.toks) (a:=s.heap.objs.size+1) (o:=.lst (ns.reverse.map V.int)) kp (Nat.le_succ _) ⟨by rw [List.length_map,List.length_reverse];exact hz,its.reverse,c,rr,at'⟩,rfl,Co.newL rs (Et ns.reverse) co _ (I.hok.fresh (Nat.le_succ _))⟩
    ·exact Ef hc pins s σ H _ _ Q I r ⟨ρ,mh,_,d,mh',q,rs,rd,co⟩
   ·exact Ef hc pins s σ H _ _ Q I r ⟨ρ,mh,_,d,mh',q,rs,rd,co⟩
  ·exact Ef hc pins s σ H _ _ Q I r ⟨ρ,mh,_,d,mh',q,rs,rd,co⟩
 ·exact Ef hc pins s σ H _ _ Q I r ⟨ρ,mh,_,d,mh',q,rs,rd,co⟩
theorem V6 {i j:Int}(h1:-(2 ^ 62)<=i) (h2:i < 2 ^ 62) (h3:-(2 ^ 62)<=j) (h4:j < 2 ^ 62):Builtin.Range.small i j 1=true/\Builtin.Range.rangeSize i j 1=((j - i).toNat:Int):=by
 refine ⟨small_one h1 h2 h3 h4,?_⟩;rw [rangeSize_one];split <;> omega
theorem V7:Ax X (.type "range") (fun xs H Q=>∃ i j:Int,xs=[.int i,.int j]/\∀ p,H p=none->Q (.ref p) (upd H p (.rng i j))):=by
 rintro pins s σ H xs us Q I r ⟨i,j,e,q⟩;subst e;cases r with
 | cons r rr =>
  cases rr with
  | cons r' rr =>
   cases rr;obtain ⟨t,rfl⟩:=r;obtain ⟨t',rfl⟩:=r';exact call_range_2 ⟨.ref s.heap.objs.size,_,I.laid (o:=.rng i j) (fun b o e=>Heap.get?_push_of_some _ e) (Nat.le_refl _) ⟨_,_,_,Heap.get?_push_size _ rfl⟩,rfl,q _ (I.hok.fresh (Nat.le_refl _))⟩
theorem Nx (hc:X.calm=true):Ax X (.type "list") (fun xs H Q=>∃ a i j,xs=[.ref a]/\H a=some (.rng i j)/\((-(2 ^ 62)<=i/\i < 2 ^ 62)/\(-(2 ^ 62)<=j/\j < 2 ^ 62))/\(j - i).toNat<=1000000/\∀ p,H p=none->Q (.ref p) (upd H p (.lst ((List.range (j - i).toNat).map fun (k:Nat)=>V.int (i+(k:Int)))))):=by
 rintro pins s σ H xs us Q I r ⟨a,i,j,e,hH,h1,h2,q⟩;subst e;obtain ⟨u,rfl,ru⟩:=vals1 r;cases ru;obtain ⟨t,u,v,hr⟩:=I.hok a _ hH;obtain ⟨f1,f2⟩:=V6 h1.1.1 h1.1.2 h1.2.1 h1.2.2;refine call_list_range (I.ok.hd hc) hr f1 f2 (by omega) fun h' tk acc c hk hS hacc=>?_
 exact ⟨.ref s.heap.objs.size,_,I.laid (t':=tk) (o:=.lst ((List.range (j - i).toNat).map fun (k:Nat)=>V.int (i+(k:Int)))) hk (Nat.le_refl _) ⟨by simp [sizeLine_eq];omega,acc.toList,c,Hw hacc,by simpa using hS⟩,rfl,q _ (I.hok.fresh (Nat.le_refl _))⟩
noncomputable def Dk (ds:List D) (mh:MH):Option (D×MH):=match ds with
 | [.int i,.int j]=>if ((-(2 ^ 62)<=i/\i < 2 ^ 62)/\(-(2 ^ 62)<=j/\j < 2 ^ 62))/\(j - i).toNat<=1000000 then some (.ref mh.length,mh++[.lst (Br i (j - i).toNat)]) else none
 | _=>none
theorem V8 {K:PySem.W.Frag}{H:Hp}{ρ:List Addr}(i:Int) (n:Nat):RDs K H ρ (Br i n) ((List.range n).map fun (k:Nat)=>V.int (i+(k:Int))):=by
 unfold Br;generalize List.range n=l
 induction l with
 | nil=>exact .nil
 | cons i r ih=>exact .cons (.int _) ih
theorem T9 {a b:Expr}{mr:DM (List D)}{p p2 pos pos2:Pos}(hc:X.calm=true) (hg:Gl X "list") (hm:X.mg "list"=none) (hg2:Gl X "range") (hm2:X.mg "range"=none) (ha:DA X [a,b] mr) (hs:starEach [a,b] X.env=(false,eval a X.env)::starEach [b] X.env) (hp:(backTo pos2 (starEach [b] X.env)).any (·.1)=false) :
  DE X (.Call (.Name "list" p) [.Call (.Name "range" p2) [a,b] [] pos2] [] pos) (mr.bnd fun ds=>Zl (Dk ds)):=fun loc mh =>
 Ar (Df (Nx hc) hg hm (by decide +kernel) (Ed (Df V7 hg2 hm2 boot_range (ha loc mh) (by decide) (by decide) hs hp) Fz)) fun σ H Q ⟨ρ,d,mh',q,rl,rs,co⟩=>by
  obtain ⟨ds,m1,ea,q⟩:=Ah q;refine ⟨ρ,ds,m1,ea,rl,rs,fun H1 ρ1 vs e1 rs1 r1=>?_⟩;have q2:Dk ds m1=some (d,mh'):=q
  clear q
  have q:=q2
  clear q2
  unfold Dk at q;split at q
  ·rename_i i j;split at q
   ·rename_i hl;cases q;obtain ⟨v,u,rfl,rv,ru⟩:=uH r1;cases rv;cases ru;exact ⟨i,j,rfl,fun b hb=>⟨b,i,j,rfl,Ak,hl.1,hl.2,Co.newL (rs1.new hb) (V8 _ _) (co.ev (e1.trans (Ev.new hb)))⟩⟩
   ·cases q
  ·cases q
end
end DL
namespace DL
open PySem PySem.Spec PyProof.Rows L2
theorem fB {X:Cx}:OpR X (binaryOp .FloorDiv) (rI (fun _ j=>j≠0/\j.natAbs < 10889035741470030830827987437816582766592) fun i j=>.int (i.fdiv j)):=opI fun _ j _ _ _ _ _ hc q=>floordiv_int hc.1 q (.inl (PyProof.noPylong_of_log2 (by
 have h:j.natAbs < 2 ^ 133:=hc.2
 by_cases h0:j.natAbs=0
 ·rw [h0];decide +kernel
 ·have h60:j.natAbs.log2 < 133:=(Nat.log2_lt h0).mpr h
  omega)))
structure SC where
 N:List Str
 scope:Scope
 own:Str->Bool
structure Gb where
 cal:Str->Option (List Str×Fn)
 con:Str->Option D
 dic:Str->Option (List (Str×D))
 fld:Str->Str->Bool
 met:Str->Str->Option (List Str×Fn)
 mkr:Str->Option (List (Str×InF))
 clo:zX:=fun _ _ _ _=>none
noncomputable def slot (N:List Str) (x:Str):Option Nat:=N.findIdx? (fun y=>y==x)
noncomputable def fD (sc:Scope) (x:Str):Bool:=match sc.names.lookup x with
 | some .local=>true
 | some .cell=>true
 | some .free=>true
 | _=>false
noncomputable def Z9 (sc:Scope) (x:Str):Bool:=match sc.names.lookup x with
 | some .local=>true
 | some .cell=>true
 | _=>false
noncomputable def glB (sc:Scope) (x:Str):Bool:=match sc.names.lookup x with
 | some .globalImplicit=>true
 | _=>false
noncomputable def Ua (i j:Int):Bool:=decide (-(2 ^ 64) < i/\i < 2 ^ 64) || decide (-(2 ^ 64) < j/\j < 2 ^ 64)
theorem pU {X:Cx}{f:Value->Value->Sem Value}:OpR X f (rD X.K fun _ _ _=>none):=by
 rintro _ _ _ _ _ _ _ _ _ _ _ _ ⟨_,_,_,_,_,_,e,_⟩;cases e
noncomputable def zY:Operator->Option (D->D->MH->Option (D×MH))
 | .Add=>some Hg
 | .Sub=>some (iop (fun _ _=>true) fun i j=>i - j)
 | .Mult=>some (iop Ua fun i j=>i * j)
 | .FloorDiv=>some (iop (fun _ j=>decide (j≠0)&&decide (j.natAbs < 10889035741470030830827987437816582766592)) fun i j=>i.fdiv j)
 | .Mod=>some (iop (fun _ j=>decide (j≠0)) fun i j=>i.fmod j)
 | .Pow=>some (iop (fun i j=>decide (0<=j)&&(decide (j<=1000000)&&decide (i.natAbs < 2 ^ 64))) fun i j=>i ^ j.toNat)
 | _=>none
noncomputable def Mr:CmpOp->(D->D->MH->Option (D×MH))
 | .Eq=>eqD
 | .NotEq=>neD
 | .Lt=>S5 fun i j=>decide (i < j)
 | .LtE=>S5 fun i j=>decide (i<=j)
 | .Gt=>S5 fun i j=>decide (j < i)
 | .GtE=>S5 fun i j=>decide (j<=i)
 | .Is=>fun _ _ _=>none
 | .IsNot=>fun _ _ _=>none
 | .In=>inD false
 | .NotIn=>inD true
theorem mZ {X:Cx}{op:Operator}{f:D->D->MH->Option (D×MH)}(h:zY op=some f):OpR X (binaryOp op) (rD X.K f):=by
 cases op <;> (try cases h)
 ·exact lH
 ·exact lF rT
 ·refine Lh rW fun i j h=>?_
  unfold Ua at h;rw [Bool.or_eq_true,decide_eq_true_iff,decide_eq_true_iff] at h;exact h
 ·exact Lh jH fun i j h=>of_decide_eq_true h
 ·refine Lh rY fun i j h=>?_
  rw [Bool.and_eq_true,Bool.and_eq_true,decide_eq_true_iff,decide_eq_true_iff,decide_eq_true_iff] at h;exact ⟨h.1,h.2.1,h.2.2⟩
 ·refine Lh fB fun i j h=>?_
  rw [Bool.and_eq_true,decide_eq_true_iff,decide_eq_true_iff] at h;exact ⟨h.1,h.2⟩
theorem Fv {X:Cx}(hu:X.A.units+64 < cLine) (op:CmpOp):OpR X (compareOp op) (rD X.K (Mr op)):=by
 cases op
 ·exact uZ hu
 ·exact uE hu
 ·exact Kp yJ
 ·exact Kp yK
 ·exact Kp yL
 ·exact Kp yM
 ·exact pU
 ·exact pU
 ·exact uW hu
 ·exact Z4 hu
noncomputable def isStar:Expr->Bool
 | .Starred ..=>true
 | _=>false
noncomputable def isSet:Expr->Bool
 | .Set ..=>true
 | _=>false
noncomputable def G5:Expr->Bool
 | .ListComp ..=>true
 | .SetComp ..=>true
 | .DictComp ..=>true
 | _=>false
noncomputable def isSlice:Expr->Bool
 | .Slice ..=>true
 | _=>false
noncomputable def baseOk:Expr->Bool
 | .Call (.Name ..) [] [] _=>false
 | _=>true
noncomputable def tyOf (c:Str):Option String :=
 if c == "int" then some "int" else if c == "bool" then some "bool" else if c == "str" then some "str" else if c == "tuple" then some "tuple" else if c == "list" then some "list" else if c == "dict" then some "dict" else none
noncomputable def V9:Fn:=fun _ _=>none
noncomputable def Q5 (_:D) (_:List D) (_:MH):Option (D×MH):=none
theorem G6 {X:Cx}{f:Value}:Ax X f (rDs X.K V9):=by
 rintro _ _ _ _ _ _ _ _ _ ⟨_,_,_,_,_,e,_⟩;cases e
theorem Ka {X:Cx}{id:String}:MtR X id (rDM X.K Q5):=by
 rintro _ _ _ _ _ _ _ _ _ _ _ _ ⟨_,_,_,_,_,_,e,_⟩;cases e
noncomputable def fG (x:Str):Option Fn:=if x=="len" then some Ft else if x=="list" then some Oq else if x=="tuple" then some V9 else if x=="all" then some V9 else if x=="any" then some V9 else if x=="max" then some V9 else if x=="min" then some Xr else if x=="int" then some V9 else if x=="sorted" then some Bv else if x=="sum" then some V9 else none
noncomputable def Jq (m:Str) (n:Nat):Option (String×(D->List D->MH->Option (D×MH))) :=
 if m == "append"&&n==1 then some ("list",Bo) else if m == "bit_length"&&n==0 then some ("int",Q5) else if m == "pop"&&n==1 then some ("list",Q5) else if m == "pop"&&n==0 then some ("list",Qo) else if m == "extend"&&n==1 then some ("list",Q5) else if m == "index"&&n==1 then some ("tuple",Q5) else none
noncomputable def Dl:Expr->Bool
 | .Tuple ..=>true
 | _=>false
noncomputable def setArg (_:Expr) (_:List Expr):Option Expr:=none
noncomputable def Wa:Expr->List Expr->Option Expr
 | .Call (.Name g _) [b] [] _,[]=>if g == "range"&&!isStar b then some b else none
 | _,_=>none
noncomputable def vA:List (Option Expr)->List Expr->Option (Expr×Expr)
 | [some k],[v]=>some (k,v)
 | _,_=>none
theorem aA {ks:List (Option Expr)}{vs:List Expr}{k v:Expr}(h:vA ks vs=some (k,v)):ks=[some k]/\vs=[v]:=by
 unfold vA at h;split at h
 ·cases h;exact ⟨rfl,rfl⟩
 ·cases h
noncomputable def Q6:Expr->List Expr->Option (Expr×Expr)
 | .Call (.Name g _) [b,c] [] _,[]=>if g == "range"&&!isStar b&&!isStar c then some (b,c) else none
 | _,_=>none
noncomputable def vB (_:Expr) (_:List Expr):Option (Expr×Expr):=none
noncomputable def Yd (_:SC) (_:Expr) (_:CmpOp) (_:Expr):Option (Nat×Nat):=none
noncomputable def Cw (scope:Scope):List Str:=(scope.names.filter fun p=>(match p.2 with | .local=>true | .cell=>true | .free=>true | _=>false)).map (·.1)
noncomputable def Mt (N:List Str) (scope:Scope):List (Option Nat):=(Cw scope).map fun x=>match scope.names.lookup x with
 | some .free=>slot N x
 | _=>none
noncomputable def Je (scope outer:Scope):Scope:={ scope with names:=scope.names.map fun (n,k)=>if (k==.free&&outer.kind==.function&&outer.names.lookup n==some .cell) then (n,.cell) else (n,k) }
noncomputable def Q7 (scope:Scope) (sc:SC):SC:={ N:=Cw scope,scope:=Je scope sc.scope,own:=fun x=>Z9 scope x }
noncomputable def Ku (scope:Scope) (sc:SC):Bool :=
 (match scope.kind with | .function=>true | _=>false)&&(decide ((scope.names.map (·.1)).Nodup) &&
  scope.names.all fun p=>(match p.2 with | .free=>(match sc.scope.names.lookup p.1 with | some .cell=>true | some .free=>true | _=>false) | _=>true))
noncomputable def Ub (G:Gb) (sc:SC):Expr->Option (List (Str×D))
 | _=>none
noncomputable def fH (G:Gb) (sc:SC) (op:CmpOp) (b:Expr):Option (Bool×List (Str×D)):=match op with
 | .In=>(match Ub G sc b with | some kvs=>some (false,kvs) | none=>none)
 | .NotIn=>(match Ub G sc b with | some kvs=>some (true,kvs) | none=>none)
 | _=>none
noncomputable def pW (G:Gb) (f:Str):List Expr->Option (List (Str×InF))
 | []=>G.mkr f
 | _=>none
noncomputable def iGn (sc:SC) (x:Str):Option Nat:=if Z9 sc.scope x&&sc.own x then slot sc.N x else none
noncomputable def iGs (sc:SC):List Expr->Option (List Nat)
 | []=>some []
 | .Name x _::r=>match iGn sc x with
  | some i=>match iGs sc r with
   | some is=>some (i::is)
   | none=>none
  | none=>none
 | _=>none
noncomputable def iG (sc:SC):Expr->Option (List Nat×GM)
 | .Name x _=>match iGn sc x with | some i=>some ([i],Bj i) | none=>none
 | .Tuple es _ _=>match iGs sc es with | some is=>some (is,pN is) | none=>none
 | _=>none
noncomputable def vC:Option Str->Bool
 | some n=>n == "default"
 | none=>false
noncomputable def nA:Expr->Bool
 | .Constant .none _ _=>true
 | _=>false
noncomputable def Wb (k:Keyword):Bool:=vC k.arg&&nA k.value
theorem Uc {k:Keyword}(h:Wb k=true):∃ j cp kp,k=⟨some "default",.Constant .none j cp,kp⟩:=by
 obtain ⟨n,v,p⟩:=k;unfold Wb at h;rw [Bool.and_eq_true] at h;obtain ⟨h1,h2⟩:=h;cases n with
 | none=>cases h1
 | some n =>
  have e:n = "default":=eq_of_beq h1
  subst e;cases v with
  | Constant c j cp =>
   cases c with
   | none=>exact ⟨_,_,_,rfl⟩
   | _=>cases h2
  | _=>cases h2
noncomputable def iEb (E:SC->Expr->DM D) (T:SC->Expr->DM Bool) (A:SC->List Expr->DM (List D)) (F:SC->List Expr->DM Bool) (I:SC->Expr->Expr->DM Src) (G:Gb) (sc:SC) (e:Expr):DM D:=match e with
 | .Constant (.int i) _ _=>Zr (.int i)
 | .Constant (.bool b) _ _=>Zr (.bl b)
 | .Constant .none _ _=>Zr .non
 | .Constant (.str x) _ _=>Zr (.str x)
 | .Name x _=>if fD sc.scope x&&!(x == "__debug__")&&!(x == "__classdict__") then (match slot sc.N x with
   | some i=>fun loc mh=>match loc[i]? with | some (some d)=>some (d,mh) | _=>none
   | none=>Zb) else if glB sc.scope x&&!(x == "__debug__") then (match G.con x with | some d=>Zr d | none=>Zb) else Zb
 | .BinOp a op b _=>(match zY op with | some f=>dop f (E sc a) (E sc b) | none=>Zb)
 | .UnaryOp .USub a _=>(E sc a).bnd fun x=>Zl (uO x)
 | .UnaryOp .Not a _=>(Am (E sc a)).bnd fun c=>Zr (.bl (!c))
 | .BoolOp op [a] _=>E sc a
 | .BoolOp .And (a::b::r) p=>Lg (E sc a) (E sc (.BoolOp .And (b::r) p))
 | .BoolOp .Or (a::b::r) p=>bY (E sc a) (E sc (.BoolOp .Or (b::r) p))
 | .Compare a [op] [b] _=>(match Yd sc a op b with
  | some (i,j)=>cW (fun loc mh=>match loc[i]? with | some (some d)=>some (d,mh) | _=>none) (fun loc mh=>match loc[j]? with | some (some d)=>some (d,mh) | _=>none)
  | none=>match fH G sc op b with
   | some (neg,kvs)=>Zb
   | none=>if isSet b then Zb else dop (Mr op) (E sc a) (E sc b))
 | .Compare a [op,op'] [b,c] _=>if isSet c then Zb else Lk (Mr op) (Mr op') (E sc a) (E sc b) (E sc c)
 | .IfExp c a b _=>dIf (T sc c) (E sc a) (E sc b)
 | .Tuple es _ _=>(A sc es).bnd fun ds=>Zl (Oj ds)
 | .List es _=>(A sc es).bnd fun ds=>Zl (Ol ds)
 | .Dict ks vs _=>if ks.isEmpty&&vs.isEmpty then newD else if pP ks vs&&!ks.isEmpty&&decide (ks.length<=15) then Zb else (match vA ks vs with | some (k,v)=>Jp (E sc k) (E sc v) | none=>Zb)
 | .Subscript a (.Slice lo hi none _) _=>dSl (E sc a) (match lo with | some e=>some (E sc e) | none=>none) (match hi with | some e=>some (E sc e) | none=>none)
 | .Subscript a b _=>if isSlice b then Zb else (match Ub G sc a with | some kvs=>Zb | none=>dop ixD (E sc a) (E sc b))
 | .Attribute o f _=>if baseOk o then Bd G.fld f (E sc o) else Zb
 | .Call (.Name f _) [] [] _=>if glB sc.scope f&&!(f == "__debug__") then (match G.cal f with | some ([],g)=>Zl (g []) | _=>Zb) else Zb
 | .Call (.Name f _) (a::es) [] _=>if fD sc.scope f&&!(f == "__debug__")&&!(f == "__classdict__")&&!(isStar a)&&es.all (fun e=>!isStar e) then Zb else if glB sc.scope f&&!(f == "__debug__")&&!(f == "__name__")&&!(isStar a)&&es.all (fun e=>!isStar e) then
   (match G.cal f with
   | some (_,g)=>(A sc (a::es)).bnd fun ds=>Zl (g ds)
   | none=>match pW G f es with
    | some fl=>Yc f fl (E sc a)
    | none=>match setArg a es with
    | some b=>if glB sc.scope "set" then (if f == "len" then (E sc b).bnd (fun x=>Zl (mD x)) else if f == "sorted" then (E sc b).bnd (fun x=>Zl (Zt x)) else Zb) else Zb
    | none=>match vB a es with
    | some (b,c)=>if glB sc.scope "zip"&&f == "list" then (A sc [b,c]).bnd (fun ds=>Zl (dM ds)) else if glB sc.scope "zip"&&f == "sorted" then (A sc [b,c]).bnd (fun ds=>Zl (dO ds)) else Zb
    | none=>match Wa a es with
    | some b=>if glB sc.scope "range" then (if f == "list" then (E sc b).bnd (fun x=>Zl (Dy x)) else if f == "tuple" then (E sc b).bnd (fun x=>Zl (Kr x)) else Zb) else Zb
    | none=>match Q6 a es with
    | some (b,c)=>if glB sc.scope "range"&&f == "list" then (A sc [b,c]).bnd (fun ds=>Zl (Dk ds)) else Zb
    | none=>if f == "isinstance" then (match es with
    | [.Name c _]=>if glB sc.scope c&&!(c == "__debug__")&&!(c == "__name__") then (match tyOf c with | some ty=>(E sc a).bnd fun x=>Zl (Qn ty x) | none=>Zb) else Zb
    | _=>Zb) else match fG f with
     | some g=>(A sc (a::es)).bnd fun ds=>Zl (g ds)
     | none=>Zb) else Zb
 | .Call (.Name f _) [a] (kw::ks) _=>if glB sc.scope f&&!(isStar a)&&Wb kw&&ks.isEmpty then (if f == "max" then Zb else if f == "min" then Zb else Zb) else Zb
 | .Call (.Attribute o m ap) [] [] p=>if baseOk o&&(ap.endLine==p.line) then (match Jq m 0 with | some (ty,f)=>Bg ty f (E sc o) (Zr []) | none=>Ea G.met m (E sc o) (Zr [])) else Zb
 | .Call (.Attribute o m ap) (a::es) [] p=>if baseOk o&&(ap.endLine==p.line)&&!(isStar a)&&es.all (fun e=>!isStar e)&&decide ((a::es).length < 20) then (if m == "get" then (match Ub G sc o with | some kvs=>Zb | none=>Zb) else if m == "count"&&es.isEmpty then Xo "tuple" Q5 "list" Q5 (E sc o) (A sc (a::es)) else if m == "index"&&es.isEmpty then Xo "tuple" Q5 "list" Q5 (E sc o) (A sc (a::es)) else (match Jq m (a::es).length with | some (ty,f)=>Bg ty f (E sc o) (A sc (a::es)) | none=>Ea G.met m (E sc o) (A sc (a::es)))) else Zb
 | .ListComp elt [⟨tg,iter,ifs,k⟩] scope _=>if k==0&&Ku scope sc&&!(isSet iter) then (match iG (Q7 scope sc) tg with
   | some (ws,g)=>if ws.all (fun i=>match (Mt sc.N scope)[i]? with | some (some _)=>false | _=>true) then Ec (I sc tg iter) (Mt sc.N scope) g (F (Q7 scope sc) ifs) (E (Q7 scope sc) elt) else Zb
   | none=>Zb) else Zb
 | _=>Zb
noncomputable def iTb (E:SC->Expr->DM D) (T:SC->Expr->DM Bool) (A:SC->List Expr->DM (List D)) (F:SC->List Expr->DM Bool) (I:SC->Expr->Expr->DM Src) (G:Gb) (sc:SC) (e:Expr):DM Bool:=match e with
 | .UnaryOp .Not a _=>Sx (T sc a)
 | .BoolOp op [a] _=>T sc a
 | .BoolOp .And (a::b::r) p=>Ik (T sc a) (T sc (.BoolOp .And (b::r) p))
 | .BoolOp .Or (a::b::r) p=>Nq (T sc a) (T sc (.BoolOp .Or (b::r) p))
 | .BoolOp _ [] _=>Zb
 | .IfExp ..=>Zb
 | .Compare a [op] [b] _=>(match fH G sc op b with
  | some (neg,kvs)=>Zb
  | none=>if isSet b then Zb else Am (dop (Mr op) (E sc a) (E sc b)))
 | .Compare a [op,op'] [b,c] _=>if isSet c then Zb else Am (Lk (Mr op) (Mr op') (E sc a) (E sc b) (E sc c))
 | .Compare ..=>Zb
 | e=>Zg (E sc e)
noncomputable def iIb (E:SC->Expr->DM D) (T:SC->Expr->DM Bool) (A:SC->List Expr->DM (List D)) (F:SC->List Expr->DM Bool) (I:SC->Expr->Expr->DM Src) (G:Gb) (sc:SC) (tg e:Expr):DM Src:=match e with
 | .Call (.Name f p) [a] [] p'=>if f == "range"&&glB sc.scope f then (if isStar a then Zb else Gn Hi (A sc [a])) else if f == "enumerate"&&glB sc.scope f then (if isStar a || !(Dl tg) then Zb else Zb) else Fo (E sc (.Call (.Name f p) [a] [] p'))
 | .Call (.Name f p) [a,b] [] p'=>if f == "range"&&glB sc.scope f then (if isStar a || isStar b then Zb else Zb) else if f == "zip"&&glB sc.scope f then (if isStar a || isStar b || !(Dl tg) then Zb else Zb) else Fo (E sc (.Call (.Name f p) [a,b] [] p'))
 | .Call (.Name f p) [a,b,c] [] p'=>if f == "range"&&glB sc.scope f then (if isStar a || isStar b || isStar c then Zb else Gn Tw (A sc [a,b,c])) else Fo (E sc (.Call (.Name f p) [a,b,c] [] p'))
 | .Call (.Attribute o m ap) [] [] p=>if m == "items"&&baseOk o&&(ap.endLine==p.line)&&Dl tg then Zb else Fo (E sc (.Call (.Attribute o m ap) [] [] p))
 | e=>Fo (E sc e)
mutual
noncomputable def iE (G:Gb):Nat->SC->Expr->DM D
 | 0,_,_=>Zb
 | n+1,sc,e=>iEb (iE G n) (iT G n) (iA G n) (iF G n) (iI G n) G sc e
termination_by structural n=>n
noncomputable def iT (G:Gb):Nat->SC->Expr->DM Bool
 | 0,_,_=>Zb
 | n+1,sc,e=>iTb (iE G n) (iT G n) (iA G n) (iF G n) (iI G n) G sc e
termination_by structural n=>n
noncomputable def iA (G:Gb):Nat->SC->List Expr->DM (List D)
 | 0,_,_=>Zb
 | n+1,sc,es=>match es with
  | []=>Zr []
  | a::r=>if isStar a then Zb else Aa (iE G n sc a) (iA G n sc r)
termination_by structural n=>n
noncomputable def iF (G:Gb):Nat->SC->List Expr->DM Bool
 | 0,_,_=>Zb
 | n+1,sc,es=>match es with
  | []=>Zr true
  | [c]=>iT G n sc c
  | _=>Zb
termination_by structural n=>n
noncomputable def iI (G:Gb):Nat->SC->Expr->Expr->DM Src
 | 0,_,_,_=>Zb
 | n+1,sc,tg,e=>iIb (iE G n) (iT G n) (iA G n) (iF G n) (iI G n) G sc tg e
termination_by structural n=>n
end
noncomputable def zZ (sc:SC) (x:Str) (px:Pos) (y:Str) (py:Pos) (a b:Expr):Bool :=
 ((if sc.scope.kind.isAnnotationScope then ScopeKind.function else sc.scope.kind)==.function)&&(sc.scope.names.lookup x==some .local)&&(sc.scope.names.lookup y==some .local)&&(py.line==px.line)&&!(x==y)&&!isStar a&&!isStar b&&!([a,b].all (foldedForSure 8))&&!([a,b].all (constantsAlone 8))
noncomputable def vD (mr:DM (List D)) (i j:Nat):SM:=fun loc mh=>match mr loc mh with
 | some ([d,e],h)=>some (.nx,(loc.set i (some d)).set j (some e),h)
 | _=>none
noncomputable def iGt (G:Gb) (n:Nat) (sc:SC) (tg:Expr):Option GM:=match tg with
 | .Subscript o i _=>if isSlice i then none else some (Dc (iE G n sc o) (iE G n sc i))
 | tg=>match iG sc tg with | some (_,g)=>some g | none=>none
noncomputable def vG (n:Nat) (G:Gb) (sc:SC) (tg v:Expr):SM:=match tg,v with
 | .Name y py,.ListComp elt gens scope vp=>(match iG sc (.Name y py) with | some (_,g)=>Ay (iE G n sc (.ListComp elt gens scope vp)) g | none=>SM.bad)
 | .Tuple [.Name x px,.Name y py] _ _,.Tuple [a,b] _ _=>if zZ sc x px y py a b then (match slot sc.N x,slot sc.N y with | some i,some j=>vD (iA G n sc [a,b]) i j | _,_=>SM.bad) else SM.bad
 | tg,v=>if G5 v || (Dl tg&&Dl v) then SM.bad else (match iGt G n sc tg with | some g=>Ay (iE G n sc v) g | none=>SM.bad)
noncomputable def iSb (n:Nat) (B:SC->List Stmt->SM) (G:Gb) (sc:SC) (s:Stmt):SM:=match s with
 | .Expr e _=>if G5 e then SM.bad else Ca (iE G n sc e)
 | .Pass _=>Zn
 | .Break _=>fun loc mh=>some (.bk,loc,mh)
 | .Continue _=>fun loc mh=>some (.ct,loc,mh)
 | .Return (some e) _=>retS (iE G n sc e)
 | .Return none _=>fun loc mh=>some (.rt .non,loc,mh)
 | .Assign [tg] v _=>vG n G sc tg v
 | .If c a b _=>ifS (iT G n sc c) (B sc a) (B sc b)
 | .While c body [] _=>Hu (iT G n sc c) (B sc body)
 | .For tg it body [] _=>if isSet it then SM.bad else (match iG sc tg with | some (_,g)=>Hj (iI G n sc tg it) g (B sc body) | none=>SM.bad)
 | _=>SM.bad
mutual
noncomputable def iS (G:Gb):Nat->SC->Stmt->SM
 | 0,_,_=>SM.bad
 | n+1,sc,s=>iSb n (iSs G n) G sc s
termination_by structural n=>n
noncomputable def iSs (G:Gb):Nat->SC->List Stmt->SM
 | 0,_,_=>SM.bad
 | n+1,sc,ss=>match ss with
  | []=>Zn
  | s::r=>Ae (iS G n sc s) (iSs G n sc r)
termination_by structural n=>n
end
structure FnI where
 ps:List Str
 N:List Str
 scope:Scope
 body:List Stmt
noncomputable def Ba (G:Gb) (n:Nat) (f:FnI):Fn:=fun ds mh=>if ds.length=f.ps.length then (match iSs G n { N:=f.N,scope:=f.scope,own:=fun _=>true } f.body (ds.map some++List.replicate (f.N.length - ds.length) none) mh with
 | some (.rt d,_,mh')=>some (d,mh')
 | some (.nx,_,mh')=>some (.non,mh')
 | _=>none) else none
noncomputable def fuel:Nat:=60
structure Tb where
 tb:Str->Option FnI
 con:Str->Option D
 dic:Str->Option (List (Str×D))
 fld:Str->Str->Bool
 tbm:Str->Str->Option FnI
 mkr:Str->Option (List (Str×InF))
noncomputable def GkN (T:Tb):Nat->Gb
 | 0=>{ cal:=fun _=>none,con:=T.con,dic:=T.dic,fld:=T.fld,met:=fun _ _=>none,mkr:=T.mkr }
 | k+1=>{ cal:=fun x=>(match T.tb x with | some I=>some (I.ps,Ba (GkN T k) fuel I) | none=>none),con:=T.con,dic:=T.dic,fld:=T.fld,met:=fun c m=>(match T.tbm c m with | some I=>some (I.ps,Ba (GkN T k) fuel I) | none=>none),mkr:=T.mkr }
noncomputable def Jf:List Str:=["len", "list", "tuple", "range", "isinstance", "int", "bool", "str", "dict", "set", "sorted", "all", "any", "max", "min", "enumerate", "zip", "sum"]
structure GOk (P:Program) (w:World) (K:PySem.W.Frag) (mg:Str->Option Value) (base:Heap) (k:Nat) (G:Gb):Prop where
 fn:∀ x ps f,G.cal x=some (ps,f)->∃ fa fd,mg x=some (.ref fa)/\PySem.W.keepIn K (.ref fa)=true/\Binds K fd ps []/\FnOk P w K mg base CX0 (k+2) fa fd ps (spD K ps.length f)/\∀ ds mh r,f ds mh=some r->ds.length=ps.length
 con:∀ x d,G.con x=some d->∃ u v,mg x=some u/\RelV v u/\∀ H ρ,RD K H ρ d v
 blt:∀ b∈Jf,mg b=none
 dic:∀ x kvs,G.dic x=some kvs->∃ a,mg x=some (.ref a)/\DicOk w K a kvs
 fld:∀ c f,G.fld c f=true->∃ C,PySem.W.nsIn K mainGlobals c=some (some (.ref C))/\Cls K C/\Cq K C f
 met:∀ c m ps g,G.met c m=some (ps,g)->∃ C fa fd,PySem.W.nsIn K mainGlobals c=some (some (.ref C))/\Cls K C/\Meth K C m fa/\Binds K fd ps []/\FnOk P w K mg base CX0 (k+2) fa fd ps (spD K ps.length g)/\∀ ds mh r,g ds mh=some r->ds.length=ps.length
 mkr:∀ c f,G.mkr c=some f->∃ C fa fd ps,PySem.W.nsIn K mainGlobals c=some (some (.ref C))/\Mk K C fa/\mg c=some (.ref C)/\Binds K fd ps []/\FnOk P w K mg base CX0 1 fa fd ps (spN C f)
 clo:pR P w K mg base (k+2) G.clo
structure XOk (X:Cx) (k:Nat) (G:Gb) (sc:SC):Prop where
 N:X.N=sc.N
 nd:sc.N.Nodup
 sco:X.env.scope=sc.scope
 own:∀ x,sc.own x=true->L2.Loc sc.scope x->X.fn x=true\/sc.scope.names.lookup x=some .local
 calm:X.calm=true
 xe:X.xe=fun _ _=>False
 room:Room (k+2) X.A
 g:GOk X.prog X.w X.K X.mg X.base k G
theorem Eh {N:List Str}{x:Str}{i:Nat}(h:slot N x=some i):N[i]?=some x:=by
 unfold slot at h;obtain ⟨hl,hp,_⟩:=List.findIdx?_eq_some_iff_getElem.mp h;rw [List.getElem?_eq_getElem hl];exact congrArg some (eq_of_beq hp)
theorem nC {sc:Scope}{x:Str}(h:fD sc x=true):Vis sc x:=by
 unfold fD at h;split at h
 ·exact .inl (by assumption)
 ·exact .inr (.inl (by assumption))
 ·exact .inr (.inr (by assumption))
 ·cases h
theorem Q8 {sc:Scope}{x:Str}(h:Z9 sc x=true):L2.Loc sc x:=by
 unfold Z9 at h;split at h
 ·exact .inl (by assumption)
 ·exact .inr (by assumption)
 ·cases h
theorem vH {sc:Scope}{x:Str}(h:glB sc x=true):sc.names.lookup x=some .globalImplicit:=by
 unfold glB at h;split at h
 ·assumption
 ·cases h
section
variable {X:Cx}{k:Nat}{G:Gb}{sc:SC}
theorem XOk.gl (O:XOk X k G sc) {x:Str}(h:glB sc.scope x=true):Gl X x:=by
 show X.env.scope.names.lookup x=_;rw [O.sco];exact vH h
theorem XOk.vis (O:XOk X k G sc) {x:Str}(h:fD sc.scope x=true):Vis X.env.scope x:=by rw [O.sco];exact nC h
theorem XOk.units (O:XOk X k G sc):X.A.units+64 < cLine:=O.room.units
theorem Bh {a:Expr}{es:List Expr}{env:Env}(h:isStar a=false):starEach (a::es) env=(false,eval a env)::starEach es env:=by
 cases a <;> first | rfl | cases h
theorem Av {pos:Pos}{env:Env}:∀ {es:List Expr},(es.all fun e=>!isStar e)=true->(backTo pos (starEach es env)).any (·.1)=false
 | [],_=>rfl
 | a::r,h=>by
  rw [List.all_cons,Bool.and_eq_true] at h;have h1:isStar a=false:=by simpa using h.1
  rw [Bh h1];show (false || (backTo pos (starEach r env)).any (·.1))=false;rw [Av h.2];rfl
theorem Q9 {pos:Pos}{env:Env}:∀ {es:List Expr},(es.all fun e=>!isStar e)=true->(backTo pos (starEach es env)).all (fun x=>!x.1)=true
 | [],_=>rfl
 | a::r,h=>by
  rw [List.all_cons,Bool.and_eq_true] at h;have h1:isStar a=false:=by simpa using h.1
  rw [Bh h1];show (true&&(backTo pos (starEach r env)).all (fun x=>!x.1))=true;rw [Q9 h.2];rfl
theorem Cd {o:Expr}{name:Str}{env:Env}{w:Sem Value}(h:baseOk o=true):attributeBase o name env w=w:=by
 cases o <;> try rfl
 rename_i f as kw p;cases f <;> try rfl
 cases as <;> try rfl
 cases kw <;> try rfl
 cases h
theorem Wc {e:Expr}{env:Env}(h:isSet e=false):∀ x,foldedSetIterable e env x=pure x:=by
 intro x;cases e <;> first | rfl | cases h
theorem Jg {op:CmpOp}{e:Expr}(h:isSet e=false):behindInMarks op e=false:=by
 cases e <;> first | rfl | cases h
theorem Aaa {b:Expr}(h:isSlice b=false):P0 b:=by
 intro o i;cases b <;> first | rfl | cases h
theorem Mu (O:XOk X k G sc) (scope:Scope):relabel scope X.env=Je scope sc.scope:=by
 unfold relabel Je Env.kindOf;rw [O.sco]
theorem Jr (O:XOk X k G sc) {scope:Scope}(h:Ku scope sc=true):CompOk X scope:=by
 unfold Ku at h;rw [Bool.and_eq_true,Bool.and_eq_true] at h;obtain ⟨h1,h2,h3⟩:=h;refine ⟨?_,of_decide_eq_true h2,fun p hp e=>?_⟩
 ·split at h1
  ·assumption
  ·cases h1
 ·have:=List.all_eq_true.mp h3 p hp;rw [e] at this;show X.env.scope.names.lookup p.1=_\/X.env.scope.names.lookup p.1=_;rw [O.sco];dsimp only at this;split at this
  ·exact .inl (by assumption)
  ·exact .inr (by assumption)
  ·cases this
theorem Ra {scope:Scope}(h:(scope.names.map (·.1)).Nodup):(Cw scope).Nodup:=by
 unfold Cw;exact h.sublist ((List.filter_sublist).map _)
theorem Ud (O:XOk X k G sc) (scope:Scope):CapOk X (Cw scope) scope (Mt sc.N scope):=by
 refine ⟨by unfold Mt;rw [List.length_map],fun i x j e1 e2=>?_⟩;unfold Mt at e2;rw [List.getElem?_map,e1] at e2;simp only [Option.map_some,Option.some.injEq] at e2;split at e2
 ·rename_i hl;exact ⟨hl,by rw [O.N];exact Eh e2⟩
 ·cases e2
theorem XOk.comp (O:XOk X k G sc) {scope:Scope}(h:Ku scope sc=true) (pins:List (Addr×Obj)) (C:Addr) (cells:List (Str×Addr)) (s₀:Shared) (H₀:Hp) (fp:List Addr) :
  XOk (Bp X pins (Cw scope) scope C cells s₀ H₀ fp) k G (Q7 scope sc):=by
 have S:=Jr O h;refine ⟨rfl,Ra S.nd,Mu O scope,fun x hx hl=>?_,O.calm,rfl,O.room,O.g⟩;have hx:Z9 scope x=true:=hx;rcases Q8 hx with q|q
 ·right;show (Je scope sc.scope).names.lookup x=_;rw [← Mu O scope,El,q];rfl
 ·left;exact decide_eq_true (PySem.mem_of_lookup q)
theorem Ue {x:Str}{i:Nat}(h:iGn sc x=some i):Z9 sc.scope x=true/\sc.own x=true/\slot sc.N x=some i:=by
 unfold iGn at h;split at h
 ·rename_i hc;rw [Bool.and_eq_true] at hc;exact ⟨hc.1,hc.2,h⟩
 ·cases h
theorem XOk.name (O:XOk X k G sc) {x:Str}{i:Nat}{pos:Pos}(h:iGn sc x=some i):PG X (.Name x pos) (aU i):=by
 obtain ⟨h1,h2,h3⟩:=Ue h;have hl:=Q8 h1;refine W8 (by rw [O.N];exact O.nd) (by rw [O.N];exact Eh h3) (by rw [O.sco];exact hl) ?_;rw [O.sco];exact O.own x h2 hl
theorem XOk.names (O:XOk X k G sc) {es:List Expr}{is:List Nat}(h:iGs sc es=some is):PGs X es (gNs is)/\(assignEach es X.env).length=is.length/\(assignEach es X.env).findIdx? (·.1)=none:=by
 induction es generalizing is with
 | nil=>cases h;exact ⟨jF,rfl,rfl⟩
 | cons e r ih =>
  cases e with
  | Name x p =>
   simp only [iGs] at h;split at h
   ·rename_i i ei;split at h
    ·rename_i js ej;cases h;obtain ⟨h1,h2,h3⟩:=ih ej;refine ⟨aV (O.name ei) h1 rfl,?_,?_⟩
     ·show (assignEach r X.env).length+1=js.length+1;rw [h2]
     ·show List.findIdx? (fun x=>x.1) ((false,assign (.Name x p) X.env)::assignEach r X.env)=none;rw [List.findIdx?_cons];simp only [Bool.false_eq_true,if_false,h3];rfl
    ·cases h
   ·cases h
  | _=>cases h
theorem XOk.target (O:XOk X k G sc) {tg:Expr}{ws:List Nat}{g:GM}(h:iG sc tg=some (ws,g)):DG X tg ws g:=by
 cases tg with
 | Name x p =>
  simp only [iG] at h;split at h
  ·rename_i i ei;cases h;obtain ⟨h1,h2,h3⟩:=Ue ei;have hl:=Q8 h1;refine lU (by rw [O.N];exact O.nd) (by rw [O.N];exact Eh h3) (by rw [O.sco];exact hl) ?_;rw [O.sco];exact O.own x h2 hl
  ·cases h
 | Tuple es kk p =>
  simp only [iG] at h;split at h
  ·rename_i is ei;cases h;obtain ⟨h1,h2,h3⟩:=O.names ei;exact uJ O.calm h1 h2 h3
  ·cases h
 | _=>cases h
end
structure SndE (G:Gb) (n:Nat):Prop where
 e:∀ {X:Cx} {k:Nat} {sc:SC},XOk X k G sc->∀ e,DE X e (iE G n sc e)
 t:∀ {X:Cx} {k:Nat} {sc:SC},XOk X k G sc->∀ e,DT X e (iT G n sc e)
 a:∀ {X:Cx} {k:Nat} {sc:SC},XOk X k G sc->∀ es,DA X es (iA G n sc es)
 f:∀ {X:Cx} {k:Nat} {sc:SC},XOk X k G sc->∀ es,DIf X es (iF G n sc es)
 i:∀ {X:Cx} {k:Nat} {sc:SC},XOk X k G sc->∀ tg e,DI X tg e (iI G n sc tg e)
theorem Ye {X:Cx}{es:List Expr}:DIf X es Zb:=fun pins s σ H Q I ⟨loc,mh,ρ,b,mh',q,_⟩=>by cases q
theorem Fi {X:Cx}{tg e:Expr}:DI X tg e Zb:=fun loc mh=>Du
theorem nD {c:Str}{T:String}(h:tyOf c=some T):T∈["bool", "int", "str", "tuple", "list", "dict"]/\bootBuiltins c=some (.type T)/\c∈Jf:=by
 unfold tyOf at h;split at h
 ·rename_i e;cases h;rw [eq_of_beq e];exact ⟨by decide,boot_int,by decide +kernel⟩
 ·split at h
  ·rename_i e;cases h;rw [eq_of_beq e];exact ⟨by decide,boot_bool,by decide +kernel⟩
  ·split at h
   ·rename_i e;cases h;rw [eq_of_beq e];exact ⟨by decide,boot_str,by decide +kernel⟩
   ·split at h
    ·rename_i e;cases h;rw [eq_of_beq e];exact ⟨by decide,by decide +kernel,by decide +kernel⟩
    ·split at h
     ·rename_i e;cases h;rw [eq_of_beq e];exact ⟨by decide,by decide +kernel,by decide +kernel⟩
     ·split at h
      ·rename_i e;cases h;rw [eq_of_beq e];exact ⟨by decide,by decide +kernel,by decide +kernel⟩
      ·cases h
theorem Wd {G:Gb}{f:Str}{fl:List (Str×InF)}{es:List Expr}(h:pW G f es=some fl):es=[]/\G.mkr f=some fl:=by
 cases es with
 | nil=>exact ⟨rfl,h⟩
 | cons a r=>cases h
theorem Mv {X:Cx}{a:Expr}{es:List Expr}{p:Pos}(hs:isStar a=false) (hr:(es.all fun e=>!isStar e)=true) (hk:(a::es).length < 20):((backTo p (starEach (a::es) X.env)).all (fun x=>!x.1)&&(backToKw p (keywordEach [] X.env)).all (fun x=>x.1.isSome)&&decide ((a::es).length+([]:List Keyword).length+(if ([]:List Keyword).isEmpty then 0 else 1) < 30))=true:=by
 rw [Q9 (by rw [List.all_cons,hs,hr];rfl)];have:decide ((a::es).length+([]:List Keyword).length+(if ([]:List Keyword).isEmpty then 0 else 1) < 30)=true:=decide_eq_true (by simp;simp at hk;omega);rw [this];rfl
theorem fJ {X:Cx}{k:Nat}{G:Gb}{sc:SC}(O:XOk X k G sc) {f:Str}{g:Fn}{p pos:Pos}{a:Expr}{es:List Expr}{mr:DM (List D)}(h:fG f=some g) (hg:glB sc.scope f=true) (ha:DA X (a::es) mr) (hn:f ≠ "__name__") (hd:(f==("__debug__":Str))=false) (hs:isStar a=false) (hr:(es.all fun e=>!isStar e)=true) :
  DE X (.Call (.Name f p) (a::es) [] pos) (mr.bnd fun ds=>Zl (g ds)):=by
 unfold fG at h;split at h
 ·rename_i e;cases h;rw [eq_of_beq e] at hg hn hd ⊢;exact En Z6 (O.gl hg) (O.g.blt _ (by decide +kernel)) PySem.boot_len ha hn hd (Bh hs) (Av hr)
 ·split at h
  ·rename_i e;cases h;rw [eq_of_beq e] at hg hn hd ⊢;exact Jm Vn (O.gl hg) (O.g.blt _ (by decide +kernel)) (by decide +kernel) ha hn hd (Bh hs) (Av hr)
  ·split at h
   ·rename_i e;cases h;rw [eq_of_beq e] at hg hn hd ⊢;exact Jm (G6 (f:=.type "tuple")) (O.gl hg) (O.g.blt _ (by decide +kernel)) (by decide +kernel) ha hn hd (Bh hs) (Av hr)
   ·split at h
    ·rename_i e;cases h;rw [eq_of_beq e] at hg hn hd ⊢;exact En (G6 (f:=.builtin "all")) (O.gl hg) (O.g.blt _ (by decide +kernel)) (by decide +kernel) ha hn hd (Bh hs) (Av hr)
    ·split at h
     ·rename_i e;cases h;rw [eq_of_beq e] at hg hn hd ⊢;exact En (G6 (f:=.builtin "any")) (O.gl hg) (O.g.blt _ (by decide +kernel)) (by decide +kernel) ha hn hd (Bh hs) (Av hr)
     ·split at h
      ·rename_i e;cases h;rw [eq_of_beq e] at hg hn hd ⊢;exact En (G6 (f:=.builtin "max")) (O.gl hg) (O.g.blt _ (by decide +kernel)) (by decide +kernel) ha hn hd (Bh hs) (Av hr)
      ·split at h
       ·rename_i e;cases h;rw [eq_of_beq e] at hg hn hd ⊢;exact En (Vz O.calm) (O.gl hg) (O.g.blt _ (by decide +kernel)) (by decide +kernel) ha hn hd (Bh hs) (Av hr)
       ·split at h
        ·rename_i e;cases h;rw [eq_of_beq e] at hg hn hd ⊢;exact Jm (G6 (f:=.type "int")) (O.gl hg) (O.g.blt _ (by decide +kernel)) (by decide +kernel) ha hn hd (Bh hs) (Av hr)
        ·split at h
         ·rename_i e;cases h;rw [eq_of_beq e] at hg hn hd ⊢;exact En (Q0 O.calm) (O.gl hg) (O.g.blt _ (by decide +kernel)) (by decide +kernel) ha hn hd (Bh hs) (Av hr)
         ·split at h
          ·rename_i e;cases h;rw [eq_of_beq e] at hg hn hd ⊢;exact En (G6 (f:=.builtin "sum")) (O.gl hg) (O.g.blt _ (by decide +kernel)) (by decide +kernel) ha hn hd (Bh hs) (Av hr)
          ·cases h
theorem Wf {X:Cx}{m:Str}{T:String}{f:D->List D->MH->Option (D×MH)}{o:Expr}{mo:DM D}{ap p:Pos}(h:Jq m 0=some (T,f)) (ho:DE X o mo) (hb:baseOk o=true) (hl:(ap.endLine==p.line)=true):DE X (.Call (.Attribute o m ap) [] [] p) (Bg T f mo (Zr [])):=by
 unfold Jq at h;split at h
 ·rename_i e;rw [Bool.and_eq_true] at e;exact absurd e.2 (by decide)
 ·split at h
  ·rename_i e;rw [Bool.and_eq_true] at e;cases h;rw [eq_of_beq e.1];exact cR PySem.F.plainAttrs_int PySem.F.slot_int_bit_length PySem.F.type_int_bit_length Ka ho (Cd hb) hl
  ·split at h
   ·rename_i e;rw [Bool.and_eq_true] at e;exact absurd e.2 (by decide)
   ·split at h
    ·rename_i e;rw [Bool.and_eq_true] at e;cases h;rw [eq_of_beq e.1];exact cR PySem.F.plainAttrs_list PySem.F.slot_list_pop PySem.F.type_list_pop mG ho (Cd hb) hl
    ·split at h
     ·rename_i e;rw [Bool.and_eq_true] at e;exact absurd e.2 (by decide)
     ·split at h
      ·rename_i e;rw [Bool.and_eq_true] at e;exact absurd e.2 (by decide)
      ·cases h
theorem aB {X:Cx}{m:Str}{T:String}{f:D->List D->MH->Option (D×MH)}{o a:Expr}{es:List Expr}{mo:DM D}{mr:DM (List D)}{ap p:Pos}(h:Jq m (a::es).length=some (T,f)) (ho:DE X o mo) (ha:DA X (a::es) mr) (hb:baseOk o=true) (hl:(ap.endLine==p.line)=true) (hs:isStar a=false) (hr:(es.all fun e=>!isStar e)=true) (hk:(a::es).length < 20) :
  DE X (.Call (.Attribute o m ap) (a::es) [] p) (Bg T f mo mr):=by
 have few:((backTo p (starEach (a::es) X.env)).all (fun x=>!x.1)&&(backToKw p (keywordEach [] X.env)).all (fun x=>x.1.isSome)&&decide ((a::es).length+([]:List Keyword).length+(if ([]:List Keyword).isEmpty then 0 else 1) < 30))=true:=by
  rw [Q9 (by rw [List.all_cons,hs,hr];rfl)];have:decide ((a::es).length+([]:List Keyword).length+(if ([]:List Keyword).isEmpty then 0 else 1) < 30)=true:=decide_eq_true (by simp;simp at hk;omega);rw [this];rfl
 unfold Jq at h;split at h
 ·rename_i e;rw [Bool.and_eq_true] at e;cases h;rw [eq_of_beq e.1];exact J4 PySem.F.plainAttrs_list PySem.F.slot_list_append PySem.F.type_list_append Vs ho ha (Cd hb) few hl (Bh hs) (Av hr)
 ·split at h
  ·rename_i e;rw [Bool.and_eq_true] at e;exact absurd (eq_of_beq e.2) (by simp)
  ·split at h
   ·rename_i e;rw [Bool.and_eq_true] at e;cases h;rw [eq_of_beq e.1];exact J4 PySem.F.plainAttrs_list PySem.F.slot_list_pop PySem.F.type_list_pop Ka ho ha (Cd hb) few hl (Bh hs) (Av hr)
   ·split at h
    ·rename_i e;rw [Bool.and_eq_true] at e;exact absurd (eq_of_beq e.2) (by simp)
    ·split at h
     ·rename_i e;rw [Bool.and_eq_true] at e;cases h;rw [eq_of_beq e.1];exact J4 PySem.F.plainAttrs_list PySem.F.slot_list_extend PySem.F.type_list_extend Ka ho ha (Cd hb) few hl (Bh hs) (Av hr)
     ·split at h
      ·rename_i e;rw [Bool.and_eq_true] at e;cases h;rw [eq_of_beq e.1];exact J4 PySem.F.plainAttrs_tuple PySem.F.slot_tuple_index PySem.F.type_tuple_index Ka ho ha (Cd hb) few hl (Bh hs) (Av hr)
      ·cases h
theorem Ug {a:Expr}{es:List Expr}{b:Expr}(h:Wa a es=some b):es=[]/\isStar b=false/\∃ p q,a=.Call (.Name "range" p) [b] [] q:=by
 unfold Wa at h;split at h
 ·rename_i g p b' q;split at h
  ·rename_i hc;rw [Bool.and_eq_true] at hc;cases h;exact ⟨rfl,by simpa using hc.2,p,q,by rw [eq_of_beq hc.1]⟩
  ·cases h
 ·cases h
theorem Rb {a:Expr}{es:List Expr}{b c:Expr}(h:Q6 a es=some (b,c)):es=[]/\isStar b=false/\isStar c=false/\∃ p q,a=.Call (.Name "range" p) [b,c] [] q:=by
 unfold Q6 at h;split at h
 ·rename_i g p b' c' q;split at h
  ·rename_i hc;simp only [Bool.and_eq_true] at hc;cases h;exact ⟨rfl,by simpa using hc.1.2,by simpa using hc.2,p,q,by rw [eq_of_beq hc.1.1]⟩
  ·cases h
 ·cases h
theorem Wg {X:Cx}{k:Nat}{G:Gb}{sc:SC}(O:XOk X k G sc) {a b:Expr}{op:CmpOp}{i j:Nat}{pos:Pos}(h:Yd sc a op b=some (i,j)) :
  DE X (.Compare a [op] [b] pos) (cW (fun loc mh=>match loc[i]? with | some (some d)=>some (d,mh) | _=>none) (fun loc mh=>match loc[j]? with | some (some d)=>some (d,mh) | _=>none)):=by cases h
theorem fK (G:Gb):SndE G 0:=⟨fun _ _=>Af,fun _ _=>Dh,fun _ _=>bV,fun _ _=>Ye,fun _ _ _=>Fi⟩
theorem Aab {G:Gb}{n:Nat}(S:SndE G n) {X:Cx}{k:Nat}{sc:SC}(O:XOk X k G sc) (es:List Expr):DA X es (iA G (n+1) sc es):=by
 cases es with
 | nil=>exact tY
 | cons a r =>
  show DA X (a::r) (if isStar a then Zb else Aa (iE G n sc a) (iA G n sc r));split
  ·exact bV
  ·rename_i h;exact lE (S.e O a) (S.a O r) (Bh (by simpa using h))
theorem Aac {G:Gb}{n:Nat}(S:SndE G n) {X:Cx}{k:Nat}{sc:SC}(O:XOk X k G sc) (es:List Expr):DIf X es (iF G (n+1) sc es):=by
 cases es with
 | nil=>exact lW
 | cons a r =>
  cases r with
  | nil=>exact lX (S.t O a)
  | cons b r=>exact Ye
theorem Aad {G:Gb}{n:Nat}(S:SndE G n) {X:Cx}{k:Nat}{sc:SC}(O:XOk X k G sc) (tg e:Expr):DI X tg e (iIb (iE G n) (iT G n) (iA G n) (iF G n) (iI G n) G sc tg e):=by
 cases e with
 | Call ff args kws p' =>
  cases ff with
  | Name f p =>
   cases args with
   | nil=>exact Di (S.e O _)
   | cons a r =>
    cases r with
    | nil =>
     cases kws with
     | nil =>
      delta iIb
      dsimp only;split
      ·rename_i h;rw [Bool.and_eq_true] at h;split
       ·exact Fi
       ·rename_i hs;have hs:isStar a=false:=by simpa using hs
        have e:=eq_of_beq h.1;subst e;exact Zk (O.gl h.2) (O.g.blt _ (by decide +kernel)) (S.a O [a]) (Bh hs)
      ·split
       ·rename_i h;rw [Bool.and_eq_true] at h;split
        ·exact Fi
        ·rename_i hs;have hs:isStar a=false/\Dl tg=true:=by simpa using hs
         have e:=eq_of_beq h.1;subst e;cases tg with
         | Tuple es kk tp=>exact Fi
         | _=>cases hs.2
       ·exact Di (S.e O _)
     | cons _ _=>exact Di (S.e O _)
    | cons b r =>
     cases r with
     | nil =>
      cases kws with
      | nil =>
       delta iIb
       dsimp only;split
       ·rename_i h;rw [Bool.and_eq_true] at h;split
        ·exact Fi
        ·rename_i hs;have hs:isStar a=false/\isStar b=false:=by simpa using hs
         have e:=eq_of_beq h.1;subst e;exact Fi
       ·split
        ·rename_i h;rw [Bool.and_eq_true] at h;split
         ·exact Fi
         ·rename_i hs;have hs:(isStar a=false/\isStar b=false)/\Dl tg=true:=by simpa using hs
          have e:=eq_of_beq h.1;subst e;cases tg with
          | Tuple elts kk tp=>exact Fi
          | _=>cases hs.2
        ·exact Di (S.e O _)
      | cons _ _=>exact Di (S.e O _)
     | cons c r =>
      cases r with
      | cons _ _=>exact Di (S.e O _)
      | nil =>
       cases kws with
       | cons _ _=>exact Di (S.e O _)
       | nil =>
        delta iIb
        dsimp only;split
        ·rename_i h;rw [Bool.and_eq_true] at h;split
         ·exact Fi
         ·rename_i hs;have hs:(isStar a=false/\isStar b=false)/\isStar c=false:=by simpa using hs
          have e:=eq_of_beq h.1;subst e;exact Zy (O.gl h.2) (O.g.blt _ (by decide +kernel)) (S.a O [a,b,c]) (Bh hs.1.1) (Av (by simp [hs.1.2,hs.2]))
        ·exact Di (S.e O _)
  | Attribute o m ap =>
   cases args with
   | cons _ _=>exact Di (S.e O _)
   | nil =>
    cases kws with
    | cons _ _=>exact Di (S.e O _)
    | nil =>
     delta iIb
     dsimp only;split
     ·rename_i h;simp only [Bool.and_eq_true] at h;obtain ⟨⟨⟨h1,h2⟩,h3⟩,h4⟩:=h;have e:=eq_of_beq h1;subst e;cases tg with
      | Tuple es kk tp=>exact Fi
      | _=>cases h4
     ·exact Di (S.e O _)
  | _=>exact Di (S.e O _)
 | _=>exact Di (S.e O _)
theorem pX {X:Cx}{op:BoolOp}{vs:List Expr}{p:Pos}{m:DM Bool}(h:DT X (.BoolOp op vs p) m):DW X (.BoolOp op vs p) m:=fun loc mh wh pins s σ H Q I q=>h loc mh pins s σ H Q I q
theorem Aae {G:Gb}{n:Nat}(S:SndE G n) {X:Cx}{k:Nat}{sc:SC}(O:XOk X k G sc) (e:Expr):DT X e (iTb (iE G n) (iT G n) (iA G n) (iF G n) (iI G n) G sc e):=by
 cases e with
 | UnaryOp op a p =>
  cases op with
  | Not=>exact tU (S.t O _)
  | _=>exact Sy (S.e O _) fun _=>rfl
 | BoolOp op vs p =>
  cases vs with
  | nil=>cases op <;> exact Dh
  | cons a r =>
   cases r with
   | nil =>
    cases op
    ·exact (lB (S.t O a)).dt
    ·exact (tQ (S.t O a)).dt
   | cons b r =>
    cases op
    ·exact (tR (S.t O _) (pX (S.t O _))).dt
    ·exact (zL (S.t O _) (pX (S.t O _))).dt
 | IfExp c a b p=>exact Dh
 | Compare a ops cs p =>
  cases ops with
  | nil=>exact Dh
  | cons op ops =>
   cases ops with
   | nil =>
    cases cs with
    | nil=>exact Dh
    | cons b cs =>
     cases cs with
     | cons _ _=>exact Dh
     | nil =>
      delta iTb
      dsimp only;split
      ·rename_i neg kvs hd;exact Dh
      ·split
       ·exact Dh
       ·rename_i h;exact tM (Fv O.units _) (Jg (by simpa using h)) (S.e O _) (S.e O _)
   | cons op' ops =>
    cases ops with
    | cons _ _=>exact Dh
    | nil =>
     cases cs with
     | nil=>exact Dh
     | cons b cs =>
      cases cs with
      | nil=>exact Dh
      | cons c cs =>
       cases cs with
       | cons _ _=>exact Dh
       | nil =>
        delta iTb
        dsimp only;split
        ·exact Dh
        ·rename_i h;exact cP (Fv O.units _) (Fv O.units _) (by show behindInMarks _ _=false;exact Jg (by simpa using h)) (S.e O _) (S.e O _) (S.e O _)
 | _=>exact Sy (S.e O _) fun _=>rfl
theorem Aaf {G:Gb}{n:Nat}(S:SndE G n) {X:Cx}{k:Nat}{sc:SC}(O:XOk X k G sc) (e:Expr):DE X e (iEb (iE G n) (iT G n) (iA G n) (iF G n) (iI G n) G sc e):=by
 cases e with
 | Constant c _ _ =>
  cases c with
  | int i=>exact kZ qQ fun _ _ _=>.int _
  | bool b=>exact kZ xP fun _ _ _=>.bl _
  | none=>exact kZ qR fun _ _ _=>.non
  | str x=>exact kZ qT fun _ _ _=>.str _
  | _=>exact Af
 | Name x p =>
  delta iEb
  dsimp only;split
  ·rename_i h;rw [Bool.and_eq_true,Bool.and_eq_true] at h;obtain ⟨⟨h1,h2⟩,h3⟩:=h;split
   ·rename_i i ei;exact tK (by rw [O.N];exact Eh ei) (O.vis h1) (by simpa using h2) (by simpa using h3)
   ·exact Af
  ·split
   ·rename_i h;rw [Bool.and_eq_true] at h;split
    ·rename_i d ed;obtain ⟨u,v,h1,h2,h3⟩:=O.g.con _ _ ed;exact fun loc mh=>Ar (iZ (O.gl h.1) h1 h2 (by simpa using h.2)) fun σ H Q ⟨ρ,d',mh',q,rl,rs,co⟩=>by
      cases q;exact co H ρ v Ev.refl rs (h3 H ρ)
    ·exact Af
   ·exact Af
 | BinOp a op b _ =>
  delta iEb
  dsimp only;split
  ·rename_i f ef;exact zH (mZ ef) (S.e O _) (S.e O _)
  ·exact Af
 | UnaryOp op a _ =>
  cases op with
  | USub=>exact zK mC (S.e O _)
  | Not=>exact tX (S.e O _)
  | _=>exact Af
 | BoolOp op vs _ =>
  cases vs with
  | nil=>cases op <;> exact Af
  | cons a r =>
   cases r with
   | nil=>cases op <;> exact tV (S.e O _)
   | cons b r =>
    cases op
    ·exact tW (S.e O _) (S.e O _)
    ·exact zN (S.e O _) (S.e O _)
 | Compare a ops cs _ =>
  cases ops with
  | nil=>exact Af
  | cons op ops =>
   cases ops with
   | nil =>
    cases cs with
    | nil=>exact Af
    | cons b cs =>
     cases cs with
     | cons _ _=>exact Af
     | nil =>
      delta iEb
      dsimp only;split
      ·rename_i i j hp;exact Wg O hp
      ·split
       ·rename_i neg kvs hd;exact Af
       ·split
        ·exact Af
        ·rename_i h;exact tL (Fv O.units _) (Jg (by simpa using h)) (S.e O _) (S.e O _)
   | cons op' ops =>
    cases ops with
    | cons _ _=>exact Af
    | nil =>
     cases cs with
     | nil=>exact Af
     | cons b cs =>
      cases cs with
      | nil=>exact Af
      | cons c cs =>
       cases cs with
       | cons _ _=>exact Af
       | nil =>
        delta iEb
        dsimp only;split
        ·exact Af
        ·rename_i h;exact cO (Fv O.units _) (Fv O.units _) (by show behindInMarks _ _=false;exact Jg (by simpa using h)) (S.e O _) (S.e O _) (S.e O _)
 | IfExp c a b _=>exact zM (S.t O _) (S.e O _) (S.e O _)
 | Tuple es _ _=>exact tZ (S.a O _)
 | List es _=>exact uD (S.a O _)
 | Dict ks vs p =>
  delta iEb
  dsimp only;split
  ·rename_i h;rw [Bool.and_eq_true,List.isEmpty_iff,List.isEmpty_iff] at h;obtain ⟨rfl,rfl⟩:=h;exact mU
  split
  ·rename_i h;rw [Bool.and_eq_true,Bool.and_eq_true] at h;exact Af
  ·split
   ·rename_i kk vv hh;obtain ⟨rfl,rfl⟩:=aA hh;exact eV O.units (S.e O _) (S.e O _)
   ·exact Af
 | Subscript a b _ =>
  have gen:DE X (.Subscript a b ‹_›) (if isSlice b then Zb else (match Ub G sc a with | some kvs=>Zb | none=>dop ixD (iE G n sc a) (iE G n sc b))):=by
   split
   ·exact Af
   ·rename_i h;split
    ·rename_i kvs hd;exact Af
    ·exact zJ (Aby (by have:=O.room.un;omega)) (Aaa (by simpa using h)) (S.e O _) (S.e O _)
  cases b with
  | Slice lo hi st _ =>
   cases st with
   | none =>
    refine cF (S.e O _) ?_ ?_
    ·cases lo with
     | none=>trivial
     | some e=>exact S.e O e
    ·cases hi with
     | none=>trivial
     | some e=>exact S.e O e
   | some s=>exact gen
  | _=>exact gen
 | Attribute o f _ =>
  delta iEb
  dsimp only;split
  ·rename_i h;exact mL (fun c hc=>O.g.fld c _ hc) (S.e O _) (Cd h)
  ·exact Af
 | Call ff args kws p' =>
  cases ff with
  | Name f p =>
   cases kws with
   | cons kw ks =>
    cases args with
    | nil=>exact Af
    | cons a es =>
     cases es with
     | cons _ _=>exact Af
     | nil =>
      delta iEb
      dsimp only;split
      ·rename_i h;simp only [Bool.and_eq_true] at h;obtain ⟨⟨⟨h1,h4⟩,h5⟩,h6⟩:=h;have h4:isStar a=false:=by simpa using h4
       have h6:ks=[]:=by simpa using h6
       subst h6;obtain ⟨j,cp,kp,rfl⟩:=Uc h5;split
       ·rename_i hf;have e:=eq_of_beq hf;subst e;exact Af
       ·split
        ·rename_i hf;have e:=eq_of_beq hf;subst e;exact Af
        ·exact Af
      ·exact Af
   | nil =>
    cases args with
    | nil =>
     delta iEb
     dsimp only;split
     ·rename_i h;rw [Bool.and_eq_true] at h;split
      ·rename_i g eg;obtain ⟨fa,fd,h1,h2,h3,h4,h5⟩:=O.g.fn _ _ _ eg;exact cM (E:=E0) h4 O.room (O.gl h.1) h1 h2 h3 Sd (by simpa using h.2)
      ·exact Af
     ·exact Af
    | cons a es =>
     delta iEb
     dsimp only;split
     ·rename_i h;simp only [Bool.and_eq_true] at h;obtain ⟨⟨⟨⟨h1,h2⟩,h3⟩,h4⟩,h5⟩:=h;have h4:isStar a=false:=by simpa using h4
      exact Af
     split
     ·rename_i h;simp only [Bool.and_eq_true] at h;obtain ⟨⟨⟨⟨h1,h2⟩,h3⟩,h4⟩,h5⟩:=h
      have h2:(f==("__debug__":Str))=false:=by simpa using h2
      have h3:f ≠ "__name__":=by simpa using h3
      have h4:isStar a=false:=by simpa using h4
      split
      ·rename_i ps g eg;obtain ⟨fa,fd,g1,g2,g3,g4,g5⟩:=O.g.fn _ _ _ eg;exact lZ (E:=E0) g4 O.room (O.gl h1) g1 g2 g3 Sd (S.a O _) g5 h2 (Bh h4) (Av h5)
      ·split
       ·rename_i fl hb;obtain ⟨rfl,hb⟩:=Wd hb;obtain ⟨C,fa,fd,ps,g1,g2,g3,g4,g5⟩:=O.g.mkr _ _ hb;exact eY (E:=E0) g1 g2 g5 (O.room.mono (by omega)) (O.gl h1) g3 g4 Sd (S.e O a) h2 (Bh h4)
       split
       ·rename_i b hb;cases hb
       ·split
        ·rename_i b c hb;cases hb
        ·split
         ·rename_i b hb;obtain ⟨rfl,hsb,p2,q2,rfl⟩:=Ug hb;split
          ·rename_i hs;split
           ·rename_i hf;have e:=eq_of_beq hf;subst e;exact Vu O.calm (O.gl h1) (O.g.blt _ (by decide +kernel)) (O.gl hs) (O.g.blt _ (by decide +kernel)) (S.e O b) (Bh hsb)
           ·split
            ·rename_i hf;have e:=eq_of_beq hf;subst e;exact Zq O.calm (O.gl h1) (O.g.blt _ (by decide +kernel)) (O.gl hs) (O.g.blt _ (by decide +kernel)) (S.e O b) (Bh hsb)
            ·exact Af
          ·exact Af
         ·split
          ·rename_i b c hb;obtain ⟨rfl,hsb,hsc,p2,q2,rfl⟩:=Rb hb;split
           ·rename_i hs;rw [Bool.and_eq_true] at hs;have e:=eq_of_beq hs.2;subst e;exact T9 O.calm (O.gl h1) (O.g.blt _ (by decide +kernel)) (O.gl hs.1) (O.g.blt _ (by decide +kernel)) (S.a O [b,c]) (Bh hsb) (Av (by simp [hsc]))
           ·exact Af
          ·split
           ·rename_i hf;split
            ·rename_i c pc;split
             ·rename_i hc;simp only [Bool.and_eq_true] at hc;obtain ⟨⟨c1,c2⟩,c3⟩:=hc;split
              ·rename_i T eT;obtain ⟨t1,t2,t3⟩:=nD eT;have e:=eq_of_beq hf;subst e;exact uN t1 (O.gl h1) (O.g.blt _ (by decide +kernel)) (O.gl c1) (O.g.blt _ t3) t2 (by simpa using c3) (by simpa using c2) (S.e O a) (Bh h4)
              ·exact Af
             ·exact Af
            ·exact Af
           ·split
            ·rename_i g eg;exact fJ O eg h1 (S.a O _) h3 h2 h4 h5
            ·exact Af
     ·exact Af
  | Attribute o m ap =>
   cases kws with
   | cons _ _=>cases args <;> exact Af
   | nil =>
    cases args with
    | nil =>
     delta iEb
     dsimp only;split
     ·rename_i h;rw [Bool.and_eq_true] at h;split
      ·rename_i T f eT;exact Wf eT (S.e O _) h.1 h.2
      ·exact dU (E:=E0) (fun c ps g hg=>O.g.met c _ ps g hg) O.room Sd (S.e O _) (Cd h.1) h.2
     ·exact Af
    | cons a es =>
     delta iEb
     dsimp only;split
     ·rename_i h;simp only [Bool.and_eq_true] at h;obtain ⟨⟨⟨⟨h1,h2⟩,h3⟩,h4⟩,h5⟩:=h;split
      ·rename_i hm;have em:=eq_of_beq hm;subst em;rw [Bool.not_eq_true'] at h3;split
       ·rename_i kvs hd;exact Af
       ·exact Af
      split
      ·rename_i hm;rw [Bool.and_eq_true] at hm;have em:=eq_of_beq hm.1;subst em;rw [Bool.not_eq_true'] at h3;exact Tp (J4 PySem.F.plainAttrs_tuple PySem.F.slot_tuple_count PySem.F.type_tuple_count Ka (S.e O _) (S.a O _) (Cd h1) (Mv h3 h4 (of_decide_eq_true h5)) h2 (Bh h3) (Av h4))
        (J4 PySem.F.plainAttrs_list PySem.F.slot_list_count PySem.F.type_list_count Ka (S.e O _) (S.a O _) (Cd h1) (Mv h3 h4 (of_decide_eq_true h5)) h2 (Bh h3) (Av h4))
      split
      ·rename_i hm;rw [Bool.and_eq_true] at hm;have em:=eq_of_beq hm.1;subst em;rw [Bool.not_eq_true'] at h3;exact Tp (J4 PySem.F.plainAttrs_tuple PySem.F.slot_tuple_index PySem.F.type_tuple_index Ka (S.e O _) (S.a O _) (Cd h1) (Mv h3 h4 (of_decide_eq_true h5)) h2 (Bh h3) (Av h4))
        (J4 PySem.F.plainAttrs_list PySem.F.slot_list_index PySem.F.type_list_index Ka (S.e O _) (S.a O _) (Cd h1) (Mv h3 h4 (of_decide_eq_true h5)) h2 (Bh h3) (Av h4))
      split
      ·rename_i T f eT;exact aB eT (S.e O _) (S.a O _) h1 h2 (by simpa using h3) h4 (of_decide_eq_true h5)
      ·rw [Bool.not_eq_true'] at h3;exact mO (E:=E0) (fun c ps g hg=>O.g.met c _ ps g hg) O.room Sd (S.e O _) (S.a O _) (Cd h1) (Mv h3 h4 (of_decide_eq_true h5)) h2 (Bh h3) (Av h4)
     ·exact Af
  | _=>cases args <;> exact Af
 | ListComp elt gens scope p =>
  cases gens with
  | nil=>exact Af
  | cons g gens =>
   obtain ⟨tg,iter,ifs,kk⟩:=g;cases gens with
   | cons _ _=>exact Af
   | nil =>
    delta iEb
    dsimp only;split
    ·rename_i h;simp only [Bool.and_eq_true] at h;obtain ⟨⟨h1,h2⟩,h3⟩:=h;have e:=eq_of_beq h1;subst e;split
     ·rename_i ws g eg;split
      ·rename_i hw;refine lY (N':=Cw scope) O.calm (Jr O h2) (Ud O scope) (fun i hi j q=>?_) (S.i O tg iter) (fun p C c s h f=>(O.comp h2 p C c s h f).target eg) (fun p C c s h f=>S.f (O.comp h2 p C c s h f) ifs) (fun p C c s h f=>S.e (O.comp h2 p C c s h f) elt) (Wc (by simpa using h3));have z:=List.all_eq_true.mp hw i hi;rw [q] at z;cases z
      ·exact Af
     ·exact Af
    ·exact Af
 | _=>exact Af
theorem snd (G:Gb):∀ n,SndE G n
 | 0=>fK G
 | n+1=>⟨fun O=>Aaf (snd G n) O,fun O=>Aae (snd G n) O,fun O=>Aab (snd G n) O,fun O=>Aac (snd G n) O,fun O=>Aad (snd G n) O⟩
section
variable {K:PySem.W.Frag}{H:Hp}{ρ:List Addr}
end
section
variable {P:Program}{w:World}{H:Hp}{h h2:Heap}{pl c a:Addr}{tb more:Array Value}{oc ob:Obj}{fs:List Addr}
end
section
variable {X:Cx}
end
theorem Uh {K:PySem.W.Frag}{H:Hp}{ρ:List Addr}{N:List Str}{ds:List D}{vs:List V}(r:RDs K H ρ ds vs):RL K H ρ (ds.map some++List.replicate (N.length - ds.length) none) (L2.start N vs):=by
 have hl:=r.length;unfold L2.start;refine ⟨by simp [hl],fun i d e=>?_⟩
 by_cases hi:i < ds.length
 ·rw [List.getElem?_append_left (by simpa using hi),List.getElem?_map] at e;cases q:ds[i]? with
  | none=>rw [q] at e;cases e
  | some d' =>
   rw [q] at e;cases e;obtain ⟨v,e1,r1⟩:=r.get q;exact ⟨v,by rw [List.getElem?_append_left (by simp;omega),List.getElem?_map,e1];rfl,r1⟩
 ·rw [List.getElem?_append_right (by simpa using hi),List.getElem?_replicate] at e;split at e <;> cases e
theorem G7 {X:Cx}{st:Stmt}{g:GM}:DS X st (Ay Zb g):=fun _ _ _ _ _ _ h=>by obtain ⟨_,_,_,_,_,_,e,_⟩:=h;cases e
theorem Wh {G:Gb}{X:Cx}{k:Nat}{sc:SC}(O:XOk X k G sc) (n:Nat) {y:Str}{py vp spos:Pos}{elt:Expr}{gens:List Comprehension}{scope:Scope}{ws:List Nat}{gy:GM}(hgy:iG sc (.Name y py)=some (ws,gy)) :
  DS X (.Assign [.Name y py] (.ListComp elt gens scope vp) spos) (Ay (iE G n sc (.ListComp elt gens scope vp)) gy):=by
 have hg:=O.target hgy;have sw:swapsWith (.ListComp elt gens scope vp) (some (.Name y py)) spos.line X.env=pure (X.env.blockKind==.function&&X.env.kindOf y==some .local&&py.line==vp.line&&!(scope.names.any fun (n,k)=>n==y&&(k==.local || k==.cell))):=rfl;cases hb:(X.env.blockKind==.function&&X.env.kindOf y==some .local&&py.line==vp.line&&!(scope.names.any fun (n,k)=>n==y&&(k==.local || k==.cell))) with
 | false =>
  rw [hb] at sw;exact Vq ((snd G n).e O _) hg sw rfl rfl
 | true =>
  rw [hb] at sw;cases n with
  | zero=>exact G7
  | succ n =>
   show DS X _ (Ay (iEb (iE G n) (iT G n) (iA G n) (iF G n) (iI G n) G sc _) gy)
   match gens with
   | []=>exact G7
   | ⟨_,_,_,_⟩::_::_=>exact G7
   | [⟨tg,iter,ifs,kk⟩] =>
    delta iEb
    dsimp only;split
    ·rename_i h;simp only [Bool.and_eq_true] at h;obtain ⟨⟨h1,h2⟩,h3⟩:=h;have e:=eq_of_beq h1;subst e;split
     ·rename_i ws g eg;split
      ·rename_i hw;refine Vr (N':=Cw scope) O.calm (Jr O h2) (Ud O scope) (fun i hi j q=>?_) ((snd G n).i O tg iter) (fun p C c s h f=>(O.comp h2 p C c s h f).target eg) (fun p C c s h f=>(snd G n).f (O.comp h2 p C c s h f) ifs) (fun p C c s h f=>(snd G n).e (O.comp h2 p C c s h f) elt) hg sw (Wc (by simpa using h3));have z:=List.all_eq_true.mp hw i hi;rw [q] at z;cases z
      ·exact G7
     ·exact G7
    ·exact G7
theorem Mw {v tg:Expr}{line:Nat}{env:Env}(h:G5 v=false):swapsWithSole [tg] v line env=pure false:=by
 show swapsWith v (some tg) line env=pure false;cases v <;> first | rfl | cases h
theorem aC {v:Expr}{line:Nat}{env:Env}(h:G5 v=false):swapsWith v none line env=pure false:=by
 cases v <;> first | rfl | cases h
theorem Kc {v tg:Expr}{env:Env}(h:(Dl tg&&Dl v)=false) (hl:∀ es p,tg≠.List es p):swappedStores [tg] v env=pure none:=by
 cases tg with
 | Tuple ts kk p =>
  cases v with
  | Tuple vs k2 p2=>cases h
  | _=>rfl
 | List es p=>exact (hl es p rfl).elim
 | _=>first | rfl | (cases v <;> rfl)
theorem vI {x y:Str}{a b:Expr}{px py pt pt2:Pos}{kt k2:Nat}{env:Env}(hb:(env.blockKind==.function)=true) (hx:(env.kindOf x==some .local)=true) (hy:(env.kindOf y==some .local)=true) (hl:(py.line==px.line)=true) (hne:(x==y)=false) (sa:isStar a=false) (sb:isStar b=false)
  (hf:[a,b].all (foldedForSure 8)=false) (hc:[a,b].all (constantsAlone 8)=false):swappedStores [.Tuple [.Name x px,.Name y py] kt pt] (.Tuple [a,b] k2 pt2) env=pure (some [x,y]):=by
 have he:([x,y].eraseDups.length != [x,y].length)=false:=by
  have:(y==x)=false:=by
   cases q:(y==x) with
   | false=>rfl
   | true=>rw [eq_of_beq q] at hne;simp at hne
  simp [List.eraseDups_cons,this,hne]
 have hbk:(env.blockKind != .function)=false:=by rw [bne,hb];rfl
 have e1:(Option.map (fun e:Expr=>e.pos.line) [Expr.Name x px,Expr.Name y py].head?).getD 0=px.line:=rfl;unfold swappedStores;dsimp only;refine (if_neg ?_).trans ?_
 ·simp [hbk]
 refine (if_neg ?_).trans ?_
 ·simp only [List.any_cons,List.any_nil,Bool.or_false];rw [Bool.not_eq_true,Bool.or_eq_false_iff];constructor
  ·cases a <;> first | rfl | cases sa
  ·cases b <;> first | rfl | cases sb
 simp only [e1,List.filterMap_cons,List.filterMap_nil,hx,hy,hl,beq_self_eq_true,Bool.and_self,if_true];refine (if_neg ?_).trans ?_
 ·rw [he];simp
 rw [if_neg (by rw [hf];simp),if_neg (by rw [hc];simp)]
theorem vJ {X:Cx}{i j:Nat}{x y:Str}{a b:Expr}{mr:DM (List D)}{px py pt pt2 pos:Pos}{kt k2:Nat}(hc:X.calm=true) (hN:X.N.Nodup) (hi:X.N[i]?=some x) (hj:X.N[j]?=some y) (hij:i≠j) (hx:X.env.scope.names.lookup x=some .local) (hy:X.env.scope.names.lookup y=some .local) (ha:DA X [a,b] mr)
  (hw:swappedStores [.Tuple [.Name x px,.Name y py] kt pt] (.Tuple [a,b] k2 pt2) X.env=pure (some [x,y])):DS X (.Assign [.Tuple [.Name x px,.Name y py] kt pt] (.Tuple [a,b] k2 pt2) pos) (vD mr i j):=by
 rintro pins s σ H N I ⟨loc,mh,ρ,f,loc',mh',e,rl,rs,co⟩;refine rK hc hN hi hj hij hx hy (ha loc mh) hw rfl pins s σ H N I ?_;unfold vD at e;split at e
 ·rename_i d1 d2 h1 er;cases e;refine ⟨ρ,[d1,d2],mh',er,rl,rs,fun H' ρ' vs e' rs' r'=>?_⟩;cases r' with
  | cons r1 r' =>
   cases r' with
   | cons r2 r' =>
    cases r';exact ⟨_,_,rfl,co H' ρ' _ e' rs' (((rl.mono e').set r1).set r2)⟩
 ·cases e
theorem Aag (G:Gb) (n:Nat) (ihss:∀ {X:Cx}{k:Nat}{sc:SC},XOk X k G sc->∀ ss,DSs X ss (iSs G n sc ss)) {X:Cx}{k:Nat}{sc:SC}(O:XOk X k G sc) (s:Stmt):DS X s (iSb n (iSs G n) G sc s):=by
 have S:=snd G n;cases s with
 | Expr e p =>
  delta iSb
  dsimp only;split
  ·exact Cy
  ·rename_i h;exact lR (S.e O _) (aC (by simpa using h))
 | Pass _=>exact lO
 | Break _=>exact cI
 | Continue _=>exact S7
 | Return e _ =>
  cases e with
  | some e=>exact uI (S.e O _)
  | none=>exact lQ
 | Assign ts v p =>
  cases ts with
  | nil=>exact Cy
  | cons tg r =>
   cases r with
   | cons _ _=>exact Cy
   | nil =>
    have gen:DS X (.Assign [tg] v p) (if G5 v || (Dl tg&&Dl v) then SM.bad else (match iGt G n sc tg with | some g=>Ay (iE G n sc v) g | none=>SM.bad)):=by
     split
     ·exact Cy
     ·rename_i h;have h:G5 v=false/\(Dl tg&&Dl v)=false:=by
       rw [Bool.not_eq_true,Bool.or_eq_false_iff] at h;exact h
      split
      ·rename_i g eg;have gen:(match iG sc tg with | some (_,g)=>some g | none=>none)=some g->DS X (.Assign [tg] v p) (Ay (iE G n sc v) g):=fun eg=>by
        split at eg
        ·rename_i ws g' eg';cases eg;refine Vq (S.e O _) (O.target eg') (Mw h.1) (Kc h.2 (fun es p z=>by subst z;simp [iG] at eg')) ?_;cases tg <;> first | rfl | (simp [iG] at eg')
        ·cases eg
       cases tg with
       | Subscript o i p' =>
        simp only [iGt] at eg;split at eg
        ·cases eg
        ·rename_i hs;cases eg;have hs:isSlice i=false:=by simpa using hs
         refine mV (Vq (S.e O _) (uK (S.e O _) (S.e O _) ?_) (Mw h.1) (Kc h.2 (fun _ _ z=>by cases z)) rfl) (uX O.units (S.e O _) (S.e O _) (S.e O _) (Mw (tg:=.Subscript o i p') (line:=p.line) (env:=X.env) h.1));intro v';cases i <;> first | rfl | cases hs
       | _=>exact gen eg
      ·exact Cy
    cases tg with
    | Name y py =>
     cases v with
     | ListComp elt gens scope vp =>
      delta iSb
      dsimp only
      delta vG
      dsimp only;split
      ·rename_i ws g eg;exact Wh O n eg
      ·exact Cy
     | _=>exact gen
    | Tuple tl kt pt =>
     cases tl with
     | nil=>exact gen
     | cons t1 tl =>
      cases t1 with
      | Name x px =>
       cases tl with
       | nil=>exact gen
       | cons t2 tl =>
        cases t2 with
        | Name y py =>
         cases tl with
         | cons _ _=>exact gen
         | nil =>
          cases v with
          | Tuple vl k2 pt2 =>
           cases vl with
           | nil=>exact gen
           | cons a vl =>
            cases vl with
            | nil=>exact gen
            | cons b vl =>
             cases vl with
             | cons _ _=>exact gen
             | nil =>
              delta iSb
              dsimp only
              delta vG
              dsimp only;split
              ·rename_i h;unfold zZ at h;simp only [Bool.and_eq_true,Bool.not_eq_true'] at h;obtain ⟨⟨⟨⟨⟨⟨⟨⟨h1,h2⟩,h3⟩,h4⟩,h5⟩,h6⟩,h7⟩,h8⟩,h9⟩:=h;split
               ·rename_i i j ei ej;have hi:=Eh ei;have hj:=Eh ej;refine vJ O.calm (by rw [O.N];exact O.nd) (by rw [O.N];exact hi) (by rw [O.N];exact hj) (fun z=>?_) (by rw [O.sco];exact eq_of_beq h2) (by rw [O.sco];exact eq_of_beq h3) (S.a O _) (vI ?_ ?_ ?_ h4 h5 h6 h7 h8 h9)
                ·subst z;rw [hi] at hj;cases hj;simp at h5
                ·unfold Env.blockKind;rw [O.sco];exact h1
                ·unfold Env.kindOf;rw [O.sco];exact h2
                ·unfold Env.kindOf;rw [O.sco];exact h3
               ·exact Cy
              ·exact Cy
          | _=>exact gen
        | _=>exact gen
      | _=>exact gen
    | _=>exact gen
 | If c a b _=>exact zQ (S.t O _) (ihss O _) (ihss O _)
 | While c body els _ =>
  cases els with
  | cons _ _=>exact Cy
  | nil =>
   refine cL ?_ (S.t O _) (ihss O _);rw [O.xe];exact PassesOwn.never
 | For tg it body els _ =>
  cases els with
  | cons _ _=>exact Cy
  | nil =>
   delta iSb
   dsimp only;split
   ·exact Cy
   ·rename_i h;split
    ·rename_i ws g eg;refine uL ?_ O.calm (S.i O _ _) (O.target eg) (ihss O _) (Wc (by simpa using h));rw [O.xe];exact PassesOwn.never
    ·exact Cy
 | _=>exact Cy
theorem Ab3 (G:Gb) (n:Nat):(∀ {X:Cx}{k:Nat}{sc:SC},XOk X k G sc->∀ s,DS X s (iS G n sc s))/\(∀ {X:Cx}{k:Nat}{sc:SC},XOk X k G sc->∀ ss,DSs X ss (iSs G n sc ss)):=by
 induction n with
 | zero=>exact ⟨fun _ _=>Cy,fun _ _ _ _ _ _ _ _ h=>by obtain ⟨_,_,_,_,_,_,e,_⟩:=h;cases e⟩
 | succ n ih =>
  refine ⟨fun {X k sc} O s=>Aag G n (fun O ss=>ih.2 O ss) O s,fun {X k sc} O ss=>?_⟩;cases ss with
  | nil=>exact lN
  | cons s r=>exact cH (ih.1 O s) (ih.2 O r)
theorem fL {P:Program}{w:World}{K:PySem.W.Frag}{mg:Str->Option Value}{base:Heap}{k:Nat}{G:Gb}{x qual:Str}{st:Stmt}{f:Addr}{fd:FuncData}{I:FnI}(g:GOk P w K mg base k G) (F:Fun K x qual st f fd) (S:FnScope I.N I.ps (Ag st))
  (hs:I.scope=Ag st) (hb:I.body=Bb st) (n:Nat):FnOk P w K mg base CX0 (k+3) f fd I.ps (spD K I.ps.length (Ba G n I)):=by
 refine F.ok S (fun vs H Q E h=>h.1) fun cdv A outer s H vs Q E hr h=>?_
 obtain ⟨hl,ρ,mh,ds,d,mh',q,rs,r,co⟩:=h;refine ⟨_,(Ab3 G n).2 (sc:={ N:=I.N,scope:=I.scope,own:=fun _=>true }) ⟨rfl,S.nd,hs.symm,fun _ _ _=>.inl rfl,rfl,rfl,hr,g⟩ (Bb st),?_⟩;unfold Ba at q;split at q
 ·split at q
  ·rename_i d' loc' m' e;cases q;exact ⟨_,mh,ρ,.rt d,loc',mh',by rw [← hb];exact e,Uh r,rs,co⟩
  ·rename_i loc' m' e;cases q;exact ⟨_,mh,ρ,.nx,loc',mh',by rw [← hb];exact e,Uh r,rs,fun H' ρ' σ' e' rs' _=>co H' ρ' _ e' rs' .non⟩
  ·cases q
 ·cases q
theorem Ui {G:Gb}{n:Nat}{I:FnI}{ds:List D}{mh:MH}{r:D×MH}(h:Ba G n I ds mh=some r):ds.length=I.ps.length:=by
 unfold Ba at h;split at h
 ·assumption
 ·cases h
section
variable {P:Program}{w:World}{K:PySem.W.Frag}{mg:Str->Option Value}{base:Heap}{k:Nat}{G:Gb}
end
section
variable {X:Cx}{pins:List (Addr×Obj)}{σ:L2.St}{H:Hp}{s:Shared}{fr:List Str}
end
section
variable {X:Cx}
end
section
variable {P:Program}{w:World}{K:PySem.W.Frag}{mg:Str->Option Value}{base:Heap}{k:Nat}{G:Gb}
end
noncomputable def Aah (K:PySem.W.Frag) (mg:Str->Option Value) (x:Str) (I:FnI):Prop:=∃ (qual:Str) (st:Stmt) (f:Addr) (fd:FuncData),mg x=some (.ref f)/\Fun K x qual st f fd/\FnScope I.N I.ps (Ag st)/\I.scope=Ag st/\I.body=Bb st/\∀ us:List Value,us.length=I.ps.length->bindArgs fd ⟨us,[]⟩=pure (I.ps.zip us)
structure TbOk (w:World) (K:PySem.W.Frag) (mg:Str->Option Value) (T:Tb):Prop where
 fn:∀ x I,T.tb x=some I->∃ (qual:Str) (st:Stmt) (f:Addr) (fd:FuncData),mg x=some (.ref f)/\Fun K x qual st f fd/\FnScope I.N I.ps (Ag st)/\I.scope=Ag st/\I.body=Bb st/\∀ us:List Value,us.length=I.ps.length->bindArgs fd ⟨us,[]⟩=pure (I.ps.zip us)
 con:∀ x d,T.con x=some d->∃ u v,mg x=some u/\RelV v u/\∀ H ρ,RD K H ρ d v
 blt:∀ b∈Jf,mg b=none
 dic:∀ x kvs,T.dic x=some kvs->∃ a,mg x=some (.ref a)/\DicOk w K a kvs
 fld:∀ c f,T.fld c f=true->∃ C,PySem.W.nsIn K mainGlobals c=some (some (.ref C))/\Cls K C/\Cq K C f
 met:∀ c m I,T.tbm c m=some I->∃ (qual:Str) (st:Stmt) (C f:Addr) (fd:FuncData),PySem.W.nsIn K mainGlobals c=some (some (.ref C))/\Cls K C/\Meth K C m f/\Fun K m qual st f fd/\FnScope I.N I.ps (Ag st)/\I.scope=Ag st/\I.body=Bb st/\∀ us:List Value,us.length=I.ps.length->bindArgs fd ⟨us,[]⟩=pure (I.ps.zip us)
 mkr:∀ c f,T.mkr c=some f->∃ C fa fd ps,PySem.W.nsIn K mainGlobals c=some (some (.ref C))/\Mk K C fa/\mg c=some (.ref C)/\Binds K fd ps []/\∀ (P:Program) (w:World) (base:Heap),FnOk P w K mg base CX0 1 fa fd ps (spN C f)
theorem gok {P:Program}{w:World}{K:PySem.W.Frag}{mg:Str->Option Value}{base:Heap}{T:Tb}(O:TbOk w K mg T) (k:Nat):GOk P w K mg base k (GkN T k):=by
 induction k with
 | zero=>exact ⟨fun x ps f h=>(by cases h),O.con,O.blt,O.dic,O.fld,fun c m ps g h=>(by cases h),fun c f h=>by
   obtain ⟨C,fa,fd,ps,h1,h2,h3,h4,h5⟩:=O.mkr c f h
   exact ⟨C,fa,fd,ps,h1,h2,h3,h4,h5 _ _ _⟩,T3⟩
 | succ k ih =>
  refine ⟨fun x ps f h=>?_,O.con,O.blt,O.dic,O.fld,fun c m ps g h=>?_,fun c f h=>by
   obtain ⟨C,fa,fd,ps,h1,h2,h3,h4,h5⟩:=O.mkr c f h
   exact ⟨C,fa,fd,ps,h1,h2,h3,h4,h5 _ _ _⟩,T3⟩
  ·simp only [GkN] at h;split at h
   ·rename_i I eI;cases h;obtain ⟨qual,st,fa,fd,h1,h2,h3,h4,h5,h6⟩:=O.fn x I eI;exact ⟨fa,fd,h1,h2.kp,.all h6,fL ih h2 h3 h4 h5 fuel,fun ds mh r hr=>Ui hr⟩
   ·cases h
  ·simp only [GkN] at h;split at h
   ·rename_i I eI;cases h;obtain ⟨qual,st,C,fa,fd,g1,g2,g3,h2,h3,h4,h5,h6⟩:=O.met c m I eI;exact ⟨C,fa,fd,g1,g2,g3,.all h6,fL ih h2 h3 h4 h5 fuel,fun ds mh r hr=>Ui hr⟩
   ·cases h
noncomputable def Ew (st:Stmt):FnI :=
  { ps:=(Bu st).args.map (·.arg),
    N:=(Bu st).args.map (·.arg)++(((Ag st).names.filter fun p=>(match p.2 with | .local=>true | .cell=>true | _=>false)).map (·.1)).filter (fun x=>!((Bu st).args.map (·.arg)).contains x),
    scope:=Ag st,body:=Bb st }
theorem walk {l:PySem.W.OpenLaw}{q:Program}{loose:List Str}{XP:(Str->Option Value)->Heap->Prop}{YP:World->Heap->Prop}{d:DefRec}{K:Params->PySem.W.Frag}{Tt:Tb}{I:FnI}{x:Str}(k:Nat)
  (hn:l.most=some 63) (hdf:d.params.defaults=[]) (hY:∀ (w:World) (h:Heap),YP w h->(K w.params).In h) (hr:Room (k+3) callerA)
  (hI:Tt.tb d.name=some I) (hps:I.ps=[x])
  (T:∀ (w:World) (mg:Str->Option Value) (h:Heap),(K w.params).In h->h.Ns mainGlobals mg->TbOk w (K w.params) mg Tt)
  (main:∀ ns:List Int,ns.length<=63->∃ mh',Ba (GkN Tt k) fuel I [.rol (ns.map D.int)] []=some (.bl true,mh')) :
  PySem.W.WalkO q loose XP YP l.row.toRowW d [] (fun f vs=>PySem.call f vs):=by
 refine L2.jY (n:=63) (k:=k+3) (x:=x) (CX:=fun _=>CX0) (sp:=fun w=>spD (K w.params) 1 (Ba (GkN Tt k) fuel I)) hn (by decide) hdf hr hY (fun w mg fa h hK hN hm=>?_) (fun w H a ns hl hO hS=>?_) fun _ _ _ _ _ z=>z
 ·obtain ⟨qual,st,f,fd,h1,h2,h3,h4,h5,h6⟩:=(T w mg h hK hN).fn _ _ hI;rw [hm] at h1;cases h1;refine ⟨fd,fun s u=>.of_eq ?_,fun base hKb hNb=>?_⟩
  ·have:=h6 [u] (by rw [hps];rfl);rw [hps] at this;exact this
  ·have:=fL (P:=l.prog) (w:=w) (base:=base) (gok (T w mg h hK hN) k) h2 h3 h4 h5 fuel;rw [hps] at this;exact this
 ·obtain ⟨mh',e⟩:=main ns hl;have P:Gr (K w.params) H a (ns.map V.int):=by
   rcases hS with (h|h)|h
   ·rcases hO a with z|⟨o,xs,z⟩
    ·rw [z] at h;cases h
    ·rw [z] at h;cases h
   ·exact .inl h
   ·exact .inr h
  refine ⟨rfl,[],[],[.rol (ns.map D.int)],.bl true,mh',e,⟨rfl,List.nodup_nil,fun n a o e=>by simp at e⟩,.cons (.rol P (RDs.ints ns)) .nil,fun H' ρ' v _ _ r=>by cases r;rfl⟩
end DL
namespace DL
open PySem L2
noncomputable def vr (i:Nat):DM D:=fun loc mh=>match loc[i]? with | some (some d)=>some (d,mh) | _=>none
noncomputable abbrev nF:=iop (fun _ _=>true) fun i j=>i - j
noncomputable abbrev nG:=iop Ua fun i j=>i * j
noncomputable abbrev Jh:=iop (fun _ j=>decide (j≠0)&&decide (j.natAbs < 10889035741470030830827987437816582766592)) fun i j=>i.fdiv j
noncomputable abbrev Ia:=iop (fun _ j=>decide (j≠0)) fun i j=>i.fmod j
noncomputable abbrev Aai:=iop (fun i j=>decide (0<=j)&&(decide (j<=1000000)&&decide (i.natAbs < 2 ^ 64))) fun i j=>i ^ j.toNat
noncomputable abbrev ltD:=S5 fun i j=>decide (i < j)
noncomputable abbrev gtD:=S5 fun i j=>decide (j < i)
noncomputable def Uj (m:DM D):DM D:=m.bnd fun x=>Zl (uO x)
noncomputable def nH (mr:DM (List D)):DM D:=mr.bnd fun ds=>Zl (Oj ds)
noncomputable def lstM (mr:DM (List D)):DM D:=mr.bnd fun ds=>Zl (Ol ds)
noncomputable def Bt (f:Fn) (mr:DM (List D)):DM D:=mr.bnd fun ds=>Zl (f ds)
noncomputable def Aaj (T:String) (m:DM D):DM D:=m.bnd fun x=>Zl (Qn T x)
noncomputable def Uk (m:DM D):DM D:=m.bnd fun x=>Zl (Dy x)
theorem ln0 {f:List Value->Prop}(h:f []) (us:List Value) (e:us.length=0):f us:=by
 cases us with
 | nil=>exact h
 | cons _ _=>cases e
theorem ln1 {f:List Value->Prop}(h:∀ a,f [a]) (us:List Value) (e:us.length=1):f us:=by
 cases us with
 | nil=>cases e
 | cons a r=>exact ln0 (f:=fun r=>f (a::r)) (h a) r (Nat.succ.inj e)
theorem ln2 {f:List Value->Prop}(h:∀ a b,f [a,b]) (us:List Value) (e:us.length=2):f us:=by
 cases us with
 | nil=>cases e
 | cons a r=>exact ln1 (f:=fun r=>f (a::r)) (h a) r (Nat.succ.inj e)
theorem ln3 {f:List Value->Prop}(h:∀ a b c,f [a,b,c]) (us:List Value) (e:us.length=3):f us:=by
 cases us with
 | nil=>cases e
 | cons a r=>exact ln2 (f:=fun r=>f (a::r)) (h a) r (Nat.succ.inj e)
theorem fM {q:Program}{loose:List Str}{XP:(Str->Option Value)->Heap->Prop}{K:Params->PySem.W.Frag}{as:List Addr}{n t:Nat}{r:PySem.W.RowW}{d:DefRec}{kwd:List (Str×Expr)}{run:Value->List Value->Sem Value}
  (e:∀ P,as=(K P).map (·.1)) (h:PySem.W.WalkO q loose XP (fun w h=>(K w.params).In h) r d kwd run):PySem.W.WalkX q loose XP (PySem.W.X.obsZ as) (PySem.W.X.valZ K n t) r d kwd run :=
 fun w s₀ s₁ mg mb G y a o pm cd doc dV kV h1 h2 h3 h4 h5 h6 args vals as' L hpre hlay hrd hwl hlo =>
  h w s₀ s₁ mg mb G (PySem.W.InK.keeps w s₀.heap s₁.heap (PySem.W.X.z_facts e y).2.1 L.keeps) a o pm cd doc dV kV h1 h2 h3 h4 h5 h6 args vals as' hpre hlay hrd hwl hlo
noncomputable def Ul (K:PySem.W.Frag):List (Str×Stmt)->Prop
 | []=>True
 | r::L=>(∃ (f:Addr) (fd:FuncData),PySem.W.nsIn K mainGlobals r.1=some (some (.ref f))/\Fun K r.1 r.1 r.2 f fd)/\Ul K L
theorem fO {K:PySem.W.Frag}{x:Str}{st:Stmt}{L:List (Str×Stmt)}{f:Addr}{oc:Value}{od an:Option Addr}{osl:Array (Option Value)}{kV doc pm cdv ct:Value}(a:PySem.W.nsIn K mainGlobals x=some (some (.ref f)))
  (l:K.lookup f=some ⟨oc,od,.func (PySem.W.fnOf x x (Bu st) (Bb st) (Ag st) .none kV doc pm an cdv ct),osl⟩)
  (c:PySem.W.codeIn K cdv x=true) (k:PySem.W.keepIn K (.ref f)=true) (q:Ul K L):Ul K ((x,st)::L):=⟨⟨f,_,a,Jl l c k⟩,q⟩
noncomputable def Aak (x:Str) (st:Stmt):Prop:=FnScope (Ew st).N (Ew st).ps (Ag st)/\∀ (kV doc pm:Value) (an:Option Addr) (cdv ct:Value) (us:List Value),us.length=(Ew st).ps.length->bindArgs (PySem.W.fnOf x x (Bu st) (Bb st) (Ag st) .none kV doc pm an cdv ct) ⟨us,[]⟩=pure ((Ew st).ps.zip us)
theorem Ji {x:Str}{st:Stmt}(s:FnScope (Ew st).N (Ew st).ps (Ag st)) (b:∀ (kV doc pm:Value) (an:Option Addr) (cdv ct:Value) (us:List Value),us.length=(Ew st).ps.length->bindArgs (PySem.W.fnOf x x (Bu st) (Bb st) (Ag st) .none kV doc pm an cdv ct) ⟨us,[]⟩=pure ((Ew st).ps.zip us)):Aak x st:=⟨s,b⟩
noncomputable def fP:List (Str×Stmt)->Prop
 | []=>True
 | r::L=>Aak r.1 r.2/\fP L
theorem Yg {K:PySem.W.Frag}{h:Heap}{mg:Str->Option Value}(X:K.In h) (G:h.Ns mainGlobals mg) {x:Str}{I:FnI}:∀ {L:List (Str×Stmt)},Ul K L->fP L->(L.lookup x).map Ew=some I->Aah K mg x I
 | [],_,_,e=>by cases e
 | (y,st)::L,⟨⟨f,fd,a,F⟩,q⟩,⟨s,t⟩,e=>by
  simp only [List.lookup] at e;split at e
  ·rename_i hy;rw [eq_of_beq hy];cases e;refine ⟨y,st,f,fd,PySem.W.mg_of X G a,F,s.1,rfl,rfl,fun us hu=>?_⟩;obtain ⟨oc,od,kV,doc,pm,an,cdv,ct,osl,rfl,_⟩:=F.ex;exact s.2 kV doc pm an cdv ct us hu
  ·exact Yg X G q t e
noncomputable def Um (K:PySem.W.Frag):List Str->Prop
 | []=>True
 | b::L=>PySem.W.nsIn K mainGlobals b=some none/\Um K L
theorem fQ {K:PySem.W.Frag}{b:Str}{L:List Str}(a:PySem.W.nsIn K mainGlobals b=some none) (q:Um K L):Um K (b::L):=⟨a,q⟩
theorem Uo {K:PySem.W.Frag}{h:Heap}{mg:Str->Option Value}(X:K.In h) (G:h.Ns mainGlobals mg):∀ {L:List Str},Um K L->∀ b∈L,mg b=none
 | _::_,⟨a,_⟩,_,.head _=>PySem.W.mg_none_of X G a
 | _::_,⟨_,q⟩,b,.tail _ m=>Uo X G q b m
section
variable {loc:DL.Loc}{mh:MH}{ma mb:DM D}{mr:DM (List D)}{t u:DM Bool}{m1 m2:SM}
theorem Aal (i:Nat):vr i loc mh=(match loc[i]? with | some (some d)=>some (d,mh) | _=>none):=by kernel_rfl
theorem nJ:Zg ma loc mh=(match ma loc mh with | none=>none | some (x,h)=>(match bZ x h with | some k=>some (k,h) | none=>none)):=by kernel_rfl
theorem fU (T:String) (f:D->List D->MH->Option (D×MH)):Bg T f ma mr loc mh=(match ma loc mh with | none=>none | some (x,h)=>if Zm T x h=true then (match mr loc h with | none=>none | some (ds,h2)=>f x ds h2) else none):=by kernel_rfl
theorem nM (g:GM):Ay ma g loc mh=(match ma loc mh with | some (d,h)=>(match g d loc h with | some (l,h')=>some (.nx,l,h') | none=>none) | none=>none):=by kernel_rfl
theorem fV:ifS t m1 m2 loc mh=(match t loc mh with | some (k,h)=>if k=true then m1 loc h else m2 loc h | none=>none):=by kernel_rfl
theorem nO:retS ma loc mh=(match ma loc mh with | some (d,h)=>some (.rt d,loc,h) | none=>none):=by kernel_rfl
theorem fW:Ca ma loc mh=(match ma loc mh with | some (_,h)=>some (.nx,loc,h) | none=>none):=by kernel_rfl
theorem Yh:Ae m1 m2 loc mh=(match m1 loc mh with | some (.nx,l,h)=>m2 l h | r=>r):=by kernel_rfl
theorem nP:Fo ma loc mh=(match ma loc mh with | none=>none | some (x,h)=>(match srcOf x h with | some s=>some (s,h) | none=>none)):=by kernel_rfl
theorem nQ (f:List D->Option Src):Gn f mr loc mh=(match mr loc mh with | none=>none | some (ds,h)=>(match f ds with | some s=>some (s,h) | none=>none)):=by
 unfold Gn DM.bnd;cases mr loc mh with
 | none=>rfl
 | some p =>
  obtain ⟨ds,h⟩:=p;dsimp only;cases f ds <;> rfl
theorem fX:J2 (some ma) loc mh=(match ma loc mh with | some (.int i,h)=>some (some i,h) | _=>none):=by
 show (ma.bnd _) loc mh=_;unfold DM.bnd;cases ma loc mh with
 | none=>rfl
 | some p =>
  obtain ⟨x,h⟩:=p;cases x <;> rfl
end
theorem vK (C:Int->Int->Bool) (g:Int->Int->Int) (i j:Int) (mh:MH):iop C g (.int i) (.int j) mh=if C i j=true then some (.int (g i j),mh) else none:=by kernel_rfl
theorem fY {j:Int}(h0:0<=j) (h:j<=1000000):Hi [.int j]=some (.seq (Br 0 j.toNat)):=by
 have e2:-(2 ^ 62)<=j/\j < 2 ^ 62:=by omega
 unfold Hi;dsimp only;rw [if_pos e2]
theorem fZ {B:Nat}(h:B<=1000000):Hi [.int B]=some (.seq (Br 0 B)):=by rw [fY (by omega) (by omega),Int.toNat_natCast]
theorem le_size {n:Nat}(h:n<=1000000):n<=sizeLine:=by rw [sizeLine_eq];omega
theorem lt_size {n:Nat}(h:n<=1000000):n < sizeLine:=by rw [sizeLine_eq];omega
theorem gA {ds:List D}{mh:MH}(h:ds.length<=1000000):Oj ds mh=some (.tup ds,mh):=by unfold Oj;rw [if_pos (le_size h)]
theorem gB {ds:List D}{mh:MH}(h:ds.length<=1000000):Ol ds mh=some (.ref mh.length,mh++[.lst ds]):=by unfold Ol;rw [if_pos (le_size h)]
theorem Wi {n:Nat}{ds:List D}{y:D}{mh:MH}(e:mh[n]?=some (.lst ds)) (h:ds.length<=1000000):Bo (.ref n) [y] mh=some (.non,mh.set n (.lst (ds++[y]))):=by
 simp only [Bo,e,if_pos (lt_size h)]
theorem gC {n m:Nat}{xs ys:List D}{mh:MH}(e1:mh[n]?=some (.lst xs)) (e2:mh[m]?=some (.lst ys)) (h:xs.length+ys.length<=1000000):Hg (.ref n) (.ref m) mh=some (.ref mh.length,mh++[.lst (xs++ys)]):=by
 simp only [Hg,e1,e2,if_pos (le_size h)]
theorem Pg (mh:MH) (n:Nat):∀ ns:List Int,Bx (py mh n) (ns.map D.int)=some (ns.map PyData.int)
 | []=>rfl
 | a::r=>by
  have e:py mh n (.int a)=some (.int a):=by cases n <;> rfl
  simp only [List.map_cons,Bx,e,Pg mh n r]
theorem Kd:∀ xs ys:List Int,PyData.eqvAll (xs.map PyData.int) (ys.map PyData.int)=(xs==ys)
 | [],[]=>by simp [PyData.eqvAll]
 | [],_::_=>by simp [PyData.eqvAll]
 | _::_,[]=>by simp [PyData.eqvAll]
 | a::r,b::t=>by simp only [List.map_cons,PyData.eqvAll,PyData.eqv,Kd r t];rfl
end DL
namespace DL
open PySem L2 PyProof.Rows
noncomputable abbrev Ad (n:Nat):D:=.int (n:Int)
end DL
namespace DL
open PySem L2
noncomputable def wD {α:Type}(m:DM α) (loc:DL.Loc) (mh:MH) (P:α->MH->Prop):Prop:=∃ a h,m loc mh=some (a,h)/\P a h
noncomputable def wV (r:Option (D×MH)) (P:D->MH->Prop):Prop:=∃ d h,r=some (d,h)/\P d h
noncomputable def wG (r:Option (DL.Loc×MH)) (P:DL.Loc->MH->Prop):Prop:=∃ l h,r=some (l,h)/\P l h
noncomputable def wS (m:SM) (loc:DL.Loc) (mh:MH) (P:Fl->DL.Loc->MH->Prop):Prop:=∃ f l h,m loc mh=some (f,l,h)/\P f l h
section
variable {loc:DL.Loc}{mh:MH}{ma mb mc:DM D}{mr:DM (List D)}{t u:DM Bool}{P:D->MH->Prop}{B:Bool->MH->Prop}
theorem Ao {α:Type}{m:DM α}{P Q:α->MH->Prop}(h:wD m loc mh P) (i:∀ a h,P a h->Q a h):wD m loc mh Q:=let ⟨a,h',e,p⟩:=h;⟨a,h',e,i a h' p⟩
theorem Yi {i:Nat}{d:D}(e:loc[i]?=some (some d)) (h:P d mh):wD (vr i) loc mh P:=⟨d,mh,by rw [Aal,e],h⟩
theorem Eb {α:Type}{a:α}{P:α->MH->Prop}(h:P a mh):wD (Zr a) loc mh P:=⟨a,mh,rfl,h⟩
theorem Bk {α β:Type}{m:DM α}{f:α->DM β}{P:β->MH->Prop}(h:wD m loc mh fun a h1=>wD (f a) loc h1 P):wD (m.bnd f) loc mh P:=by
 obtain ⟨a,h1,e1,b,h2,e2,p⟩:=h;exact ⟨b,h2,by unfold DM.bnd;rw [e1];exact e2,p⟩
theorem Aam {f:D->D->MH->Option (D×MH)}(h:wD ma loc mh fun x h1=>wD mb loc h1 fun y h2=>wV (f x y h2) P):wD (dop f ma mb) loc mh P:=Bk (Ao h fun _ _ q=>Bk (Ao q fun _ _ z=>z))
theorem nR {P:List D->MH->Prop}(h:wD ma loc mh fun x h1=>wD mr loc h1 fun xs h2=>P (x::xs) h2):wD (Aa ma mr) loc mh P:=Bk (Ao h fun _ _ q=>Bk (Ao q fun _ _ z=>Eb z))
theorem vL {f:Fn}(h:wD mr loc mh fun ds h1=>wV (f ds h1) P):wD (Bt f mr) loc mh P:=Bk (Ao h fun _ _ q=>q)
theorem vM (h:wD mr loc mh fun ds h1=>ds.length<=1000000/\P (.tup ds) h1):wD (nH mr) loc mh P:=Bk (Ao h fun _ _ q=>⟨_,_,gA q.1,q.2⟩)
theorem vN (h:wD mr loc mh fun ds h1=>ds.length<=1000000/\P (.ref h1.length) (h1++[.lst ds])):wD (lstM mr) loc mh P:=Bk (Ao h fun _ _ q=>⟨_,_,gB q.1,q.2⟩)
theorem vP (h:wD ma loc mh fun x h1=>∃ i,x=.int i/\P (.int (-i)) h1):wD (Uj ma) loc mh P:=Bk (Ao h fun _ _ ⟨i,e,q⟩=>by subst e;exact ⟨_,_,rfl,q⟩)
theorem vQ {T:String}(h:wD ma loc mh fun x h1=>wV (Qn T x h1) P):wD (Aaj T ma) loc mh P:=Bk (Ao h fun _ _ q=>q)
theorem Wj (h:wD ma loc mh fun x h1=>wV (Dy x h1) P):wD (Uk ma) loc mh P:=Bk (Ao h fun _ _ q=>q)
theorem Yj (h:wD ma loc mh fun x h1=>∃ k,x=.bl k/\B k h1):wD (Am ma) loc mh B:=Bk (Ao h fun _ _ ⟨k,e,q⟩=>by subst e;exact Eb q)
theorem vU (h:wD ma loc mh fun x h1=>∃ k,bZ x h1=some k/\B k h1):wD (Zg ma) loc mh B:=by
 obtain ⟨x,h1,e,k,ek,q⟩:=h;exact ⟨k,h1,by rw [nJ,e];dsimp only;rw [ek],q⟩
theorem nT (h:wD t loc mh fun k h1=>B (!k) h1):wD (Sx t) loc mh B:=Bk (Ao h fun _ _ q=>Eb q)
theorem nU (h:wD t loc mh fun k h1=>(k=true->wD u loc h1 B)/\(k=false->B false h1)):wD (Ik t u) loc mh B:=Bk (Ao h fun k _ q=>by
 cases k with
 | true=>exact q.1 rfl
 | false=>exact Eb (q.2 rfl))
theorem vV (h:wD t loc mh fun k h1=>(k=true->B true h1)/\(k=false->wD u loc h1 B)):wD (Nq t u) loc mh B:=Bk (Ao h fun k _ q=>by
 cases k with
 | true=>exact Eb (q.1 rfl)
 | false=>exact q.2 rfl)
theorem nW (h:wD ma loc mh fun x h1=>∃ k,x=.bl k/\(k=true->wD mb loc h1 P)/\(k=false->P (.bl false) h1)):wD (Lg ma mb) loc mh P:=Bk (Yj (Ao h fun _ _ ⟨k,e,q⟩=>⟨k,e,by
 cases k with
 | true=>exact q.1 rfl
 | false=>exact Eb (q.2 rfl)⟩))
theorem nY {T:String}{f:D->List D->MH->Option (D×MH)}(h:wD ma loc mh fun x h1=>Zm T x h1=true/\wD mr loc h1 fun ds h2=>wV (f x ds h2) P):wD (Bg T f ma mr) loc mh P:=by
 obtain ⟨x,h1,e1,ht,ds,h2,e2,d,h3,e3,p⟩:=h;exact ⟨d,h3,by rw [fU,e1];dsimp only;rw [if_pos ht,e2];exact e3,p⟩
theorem gD {O:Option Int->MH->Prop}(h:wD ma loc mh fun x h1=>∃ i,x=.int i/\O (some i) h1):wD (J2 (some ma)) loc mh O:=by
 obtain ⟨x,h1,e,i,rfl,q⟩:=h;exact ⟨some i,h1,by rw [fX,e],q⟩
theorem Aan {ml mu:Option (DM D)}(h:wD ma loc mh fun x h1=>wD (J2 ml) loc h1 fun l h2=>wD (J2 mu) loc h2 fun r h3=>wV (slD x l r h3) P):wD (dSl ma ml mu) loc mh P :=
 Bk (Ao h fun _ _ q=>Bk (Ao q fun _ _ z=>Bk (Ao z fun _ _ w=>w)))
theorem Wk {R:Src->MH->Prop}(h:wD ma loc mh fun x h1=>∃ s,srcOf x h1=some s/\R s h1):wD (Fo ma) loc mh R:=by
 obtain ⟨x,h1,e,s,es,q⟩:=h;exact ⟨s,h1,by rw [nP,e];dsimp only;rw [es],q⟩
theorem Rf {R:Src->MH->Prop}{f:List D->Option Src}(h:wD mr loc mh fun ds h1=>∃ s,f ds=some s/\R s h1):wD (Gn f mr) loc mh R:=by
 obtain ⟨x,h1,e,s,es,q⟩:=h;exact ⟨s,h1,by rw [nQ,e];dsimp only;rw [es],q⟩
end
noncomputable def vW (m2:SM) (P:Fl->DL.Loc->MH->Prop) (f:Fl) (l:DL.Loc) (h:MH):Prop:=match f with
 | .nx=>wS m2 l h P
 | f=>P f l h
section
variable {loc l:DL.Loc}{mh h1:MH}{me:DM D}{m1 m2:SM}{g:GM}{t:DM Bool}{P:Fl->DL.Loc->MH->Prop}
theorem Dm (h:wS m1 loc mh (vW m2 P)):wS (Ae m1 m2) loc mh P:=by
 obtain ⟨f,l,h1,e,q⟩:=h;cases f with
 | nx =>
  obtain ⟨f',l',h',e',p⟩:=q;exact ⟨f',l',h',by rw [Yh,e];exact e',p⟩
 | _=>exact ⟨_,l,h1,by rw [Yh,e],q⟩
theorem Ce (h:wS m2 l h1 P):vW m2 P .nx l h1:=h
theorem nZ {d:D}(h:P (.rt d) l h1):vW m2 P (.rt d) l h1:=h
theorem Gv (h:P .nx loc mh):wS Zn loc mh P:=⟨_,_,_,rfl,h⟩
theorem Wl (h:P .ct loc mh):wS (fun loc mh=>some (.ct,loc,mh)) loc mh P:=⟨_,_,_,rfl,h⟩
theorem oA (h:P (.rt .non) loc mh):wS (fun loc mh=>some (.rt .non,loc,mh)) loc mh P:=⟨_,_,_,rfl,h⟩
theorem Gh (h:wD me loc mh fun d h1=>wG (g d loc h1) fun l h2=>P .nx l h2):wS (Ay me g) loc mh P:=by
 obtain ⟨d,h1,e1,l,h2,e2,p⟩:=h;exact ⟨.nx,l,h2,by rw [nM,e1];dsimp only;rw [e2],p⟩
theorem vX (h:wD me loc mh fun d h1=>P (.rt d) loc h1):wS (retS me) loc mh P:=by
 obtain ⟨d,h1,e1,p⟩:=h;exact ⟨.rt d,loc,h1,by rw [nO,e1],p⟩
theorem oE (h:wD me loc mh fun _ h1=>P .nx loc h1):wS (Ca me) loc mh P:=by
 obtain ⟨d,h1,e1,p⟩:=h;exact ⟨.nx,loc,h1,by rw [fW,e1],p⟩
theorem Aao (h:wD t loc mh fun k h1=>(k=true->wS m1 loc h1 P)/\(k=false->wS m2 loc h1 P)):wS (ifS t m1 m2) loc mh P:=by
 obtain ⟨k,h1,e1,a,b⟩:=h;cases k with
 | true =>
  obtain ⟨f,l,h',e,p⟩:=a rfl;exact ⟨f,l,h',by rw [fV,e1];exact e,p⟩
 | false =>
  obtain ⟨f,l,h',e,p⟩:=b rfl;exact ⟨f,l,h',by rw [fV,e1];exact e,p⟩
theorem Cu {i:Nat}{d:D}{R:DL.Loc->MH->Prop}(h:R (loc.set i (some d)) mh):wG (Bj i d loc mh) R:=⟨_,_,rfl,h⟩
theorem vY {mo mi:DM D}{v:D}{R:DL.Loc->MH->Prop}(h:wD mo loc mh fun o h1=>wD mi loc h1 fun i h2=>∃ h3,Im o i v h2=some h3/\R loc h3):wG (Dc mo mi v loc mh) R:=by
 obtain ⟨o,h1,e1,i,h2,e2,h3,e3,p⟩:=h;refine ⟨loc,h3,?_,p⟩;unfold Dc Qx;rw [e1];dsimp only;rw [e2];dsimp only;rw [e3]
theorem vZ {mo mi:DM D}{v:D}{R:DL.Loc->MH->Prop}(h:wD mo loc mh fun o h1=>wD mi loc h1 fun i h2=>∃ n kvs k,o=.ref n/\h2[n]?=some (.dct kvs)/\Qu i=some k/\kvs.length < 1000000/\R loc (h2.set n (.dct (putD kvs k v)))):wG (Dc mo mi v loc mh) R:=by
 obtain ⟨o,h1,e1,i,h2,e2,n,kvs,k,rfl,e3,e4,e5,p⟩:=h;refine ⟨loc,_,?_,p⟩;have e6:Im (.ref n) i v h2=none:=by
  unfold Im;cases i <;> simp only [e3]
 unfold Dc Qx;rw [e1];dsimp only;rw [e2];dsimp only;rw [e6];dsimp only;simp only [J6,e3,e4,if_pos e5]
theorem oF {P:D->MH->Prop}(h:P (.ref mh.length) (mh++[.dct []])):wD newD loc mh P:=⟨_,_,rfl,h⟩
theorem Uq {n:Nat}{ds:List D}{k:Nat}{v:D}{h:MH}(e:h[n]?=some (.lst ds)) (hk:k < ds.length):Im (.ref n) (.int k) v h=some (h.set n (.lst (ds.set k v))):=by
 have e2:ixN ds.length (k:Int)=some k:=by unfold ixN;rw [if_pos (by omega),if_pos (by omega)];simp
 simp only [Im,e,e2]
noncomputable def wA (J:DL.Loc->MH->Prop) (P:Fl->DL.Loc->MH->Prop) (f:Fl) (l:DL.Loc) (h:MH):Prop:=match f with
 | .nx=>J l h
 | .ct=>J l h
 | .bk=>P .nx l h
 | .rt d=>P (.rt d) l h
theorem Wm {src:Src}{ds:List D}{body:SM}(J:Nat->DL.Loc->MH->Prop) (keep:∀ i l h,J i l h->src.ok h=true/\src.items h=ds)
  (step:∀ i d l h,ds[i]?=some d->J i l h->wG (g d l h) fun l1 h1=>wS body l1 h1 (wA (J (i+1)) P)) (fin:∀ l h,J ds.length l h->P .nx l h) :
  ∀ (k i:Nat) (l:DL.Loc) (h:MH),i+k=ds.length->J i l h->wS (Kg src g body k i) l h P
 | 0,i,l,h,e,j=>by
  have e:i=ds.length:=by omega
  subst e;have s:src.stop h ds.length=true:=by
   unfold Src.stop;rw [(keep _ _ _ j).1,(keep _ _ _ j).2,Bool.true_and];exact decide_eq_true (Nat.le_refl _)
  exact ⟨.nx,l,h,by simp only [Kg,s,if_true],fin _ _ j⟩
 | k+1,i,l,h,e,j=>by
  have hi:i < ds.length:=by omega
  have eg:src.get h i=some ds[i]:=by
   unfold Src.get;rw [(keep _ _ _ j).2,List.getElem?_eq_getElem hi]
  obtain ⟨l1,h1,e1,f,l2,h2,e2,q⟩:=step i ds[i] l h (List.getElem?_eq_getElem hi) j;cases f with
  | nx =>
   obtain ⟨f',l',h',e',p⟩:=Wm J keep step fin k (i+1) l2 h2 (by omega) q;exact ⟨f',l',h',by simp only [Kg,eg,e1,e2];exact e',p⟩
  | ct =>
   obtain ⟨f',l',h',e',p⟩:=Wm J keep step fin k (i+1) l2 h2 (by omega) q;exact ⟨f',l',h',by simp only [Kg,eg,e1,e2];exact e',p⟩
  | bk=>exact ⟨.nx,l2,h2,by simp only [Kg,eg,e1,e2],q⟩
  | rt d=>exact ⟨.rt d,l2,h2,by simp only [Kg,eg,e1,e2],q⟩
theorem Rg {mi:DM Src}{body:SM}(h:wD mi loc mh fun src h0=>∃ ds,∃ J:Nat->DL.Loc->MH->Prop,J 0 loc h0/\(∀ i l h,J i l h->src.ok h=true/\src.items h=ds) /\
  (∀ i d l h,ds[i]?=some d->J i l h->wG (g d l h) fun l1 h1=>wS body l1 h1 (wA (J (i+1)) P))/\∀ l h,J ds.length l h->P .nx l h):wS (Hj mi g body) loc mh P:=by
 obtain ⟨src,h0,e,ds,J,j0,keep,step,fin⟩:=h;have el:(src.items h0).length=ds.length:=by rw [(keep _ _ _ j0).2]
 obtain ⟨f,l,h',e',p⟩:=Wm J keep step fin ds.length 0 loc h0 (by omega) j0;refine ⟨f,l,h',?_,p⟩;unfold Hj;rw [e];dsimp only;rw [el];exact e'
theorem Rh {src:Src}{ds:List D}{tc:DM Bool}{e:DM D}{R:List D->MH->Prop}(J:Nat->List D->MH->Prop) (keep:∀ i acc h,J i acc h->src.ok h=true/\src.items h=ds) (hz:ds.length<=1000000) (small:∀ i acc h,J i acc h->acc.length<=i)
  (step:∀ i d acc h,ds[i]?=some d->J i acc h->wG (g d loc h) fun l1 h1=>wD tc l1 h1 fun c h2=>(c=true->wD e l1 h2 fun y h3=>J (i+1) (acc++[y]) h3)/\(c=false->J (i+1) acc h2)) (fin:∀ acc h,J ds.length acc h->R acc h) :
  ∀ (k i:Nat) (acc:List D) (h:MH),i+k=ds.length->J i acc h->∃ acc' h',Ho src g tc e loc k i acc h=some (acc',h')/\R acc' h'
 | 0,i,acc,h,q,j=>by
  have q:i=ds.length:=by omega
  subst q;have s:src.stop h ds.length=true:=by
   unfold Src.stop;rw [(keep _ _ _ j).1,(keep _ _ _ j).2,Bool.true_and];exact decide_eq_true (Nat.le_refl _)
  exact ⟨acc,h,by simp only [Ho,s,if_true],fin _ _ j⟩
 | k+1,i,acc,h,q,j=>by
  have hi:i < ds.length:=by omega
  have eg:src.get h i=some ds[i]:=by
   unfold Src.get;rw [(keep _ _ _ j).2,List.getElem?_eq_getElem hi]
  obtain ⟨l1,h1,e1,c,h2,e2,a,b⟩:=step i ds[i] acc h (List.getElem?_eq_getElem hi) j;cases c with
  | true =>
   obtain ⟨y,h3,e3,j3⟩:=a rfl;obtain ⟨acc',h',e',p⟩:=Rh J keep hz small step fin k (i+1) _ h3 (by omega) j3;have hl:acc.length < sizeLine:=lt_size (by have:=small _ _ _ j;omega);exact ⟨acc',h',by simp only [Ho,eg,e1,e2,if_true,e3,if_pos hl];exact e',p⟩
  | false =>
   obtain ⟨acc',h',e',p⟩:=Rh J keep hz small step fin k (i+1) _ h2 (by omega) (b rfl);exact ⟨acc',h',by simp only [Ho,eg,e1,e2,Bool.false_eq_true,if_false];exact e',p⟩
theorem Kv {mi:DM Src}{cs:List (Option Nat)}{tc:DM Bool}{e:DM D}{Q:D->MH->Prop}(h:wD mi loc mh fun src h0=>∃ ds,∃ J:Nat->List D->MH->Prop,ds.length<=1000000/\J 0 [] h0/\(∀ i acc h,J i acc h->src.ok h=true/\src.items h=ds)/\(∀ i acc h,J i acc h->acc.length<=i) /\
  (∀ i d acc h,ds[i]?=some d->J i acc h->wG (g d (Tc cs loc) h) fun l1 h1=>wD tc l1 h1 fun c h2=>(c=true->wD e l1 h2 fun y h3=>J (i+1) (acc++[y]) h3)/\(c=false->J (i+1) acc h2)) /\
  ∀ acc h,J ds.length acc h->Q (.ref h.length) (h++[.lst acc])):wD (Ec mi cs g tc e) loc mh Q:=by
 obtain ⟨src,h0,e0,ds,J,hz,j0,keep,small,step,fin⟩:=h;have el:(src.items h0).length=ds.length:=by rw [(keep _ _ _ j0).2]
 obtain ⟨acc,h',e',p⟩:=Rh J keep hz small step fin ds.length 0 [] h0 (by omega) j0;refine ⟨.ref h'.length,h'++[.lst acc],?_,p⟩;unfold Ec;rw [e0];dsimp only;rw [el,e']
end
noncomputable def whK (J:Nat->DL.Loc->MH->Prop) (n:Nat) (P:Fl->DL.Loc->MH->Prop) (f:Fl) (l:DL.Loc) (h:MH):Prop:=match f with
 | .nx=>∃ m,m < n/\J m l h
 | .ct=>∃ m,m < n/\J m l h
 | .bk=>P .nx l h
 | .rt d=>P (.rt d) l h
theorem Mx {t:DM Bool}{body:SM}{P:Fl->DL.Loc->MH->Prop}{J:Nat->DL.Loc->MH->Prop}(step:∀ n l h,J n l h->wD t l h fun b h1=>(b=true->wS body l h1 (whK J n P))/\(b=false->P .nx l h1)):∀ (K n:Nat) (loc:DL.Loc) (mh:MH),n < K->J n loc mh->wS (Dz t body K) loc mh P
 | 0,_,_,_,h,_=>absurd h (Nat.not_lt_zero _)
 | K+1,n,loc,mh,hn,j=>by
  obtain ⟨b,h1,et,q⟩:=step n loc mh j;cases b with
  | false=>exact ⟨.nx,loc,h1,by simp only [Dz,et],q.2 rfl⟩
  | true =>
   obtain ⟨f,l,h2,eb,p⟩:=q.1 rfl;cases f with
   | nx =>
    obtain ⟨m,hm,jm⟩:=p;obtain ⟨f3,l3,h3,e3,p3⟩:=Mx step K m l h2 (by omega) jm;exact ⟨f3,l3,h3,by simp only [Dz,et,eb];exact e3,p3⟩
   | ct =>
    obtain ⟨m,hm,jm⟩:=p;obtain ⟨f3,l3,h3,e3,p3⟩:=Mx step K m l h2 (by omega) jm;exact ⟨f3,l3,h3,by simp only [Dz,et,eb];exact e3,p3⟩
   | bk=>exact ⟨.nx,l,h2,by simp only [Dz,et,eb],p⟩
   | rt d=>exact ⟨.rt d,l,h2,by simp only [Dz,et,eb],p⟩
theorem My {t:DM Bool}{body:SM}{loc:DL.Loc}{mh:MH}{P:Fl->DL.Loc->MH->Prop}(J:Nat->DL.Loc->MH->Prop) (n:Nat) (hn:n < 1000000) (j0:J n loc mh) (step:∀ n l h,J n l h->wD t l h fun b h1=>(b=true->wS body l h1 (whK J n P))/\(b=false->P .nx l h1)):wS (Hu t body) loc mh P :=
 Mx step _ n loc mh hn j0
noncomputable def gF (P:D->MH->Prop) (f:Fl) (_:DL.Loc) (h:MH):Prop:=match f with
 | .rt d=>P d h
 | .nx=>P .non h
 | _=>False
theorem Dd {G:Gb}{n:Nat}{I:FnI}{b:SM}{ds:List D}{mh:MH}{np m:Nat}{P:D->MH->Prop}(hb:iSs G n { N:=I.N,scope:=I.scope,own:=fun _=>true } I.body=b) (hp:I.ps.length=np) (hN:I.N.length=m) (hl:ds.length=np)
  (h:wS b (ds.map some++List.replicate (m - np) none) mh (gF P)):wV (Ba G n I ds mh) P:=by
 obtain ⟨f,l,h',e,p⟩:=h;cases f with
 | rt d=>exact ⟨d,h',by unfold Ba;rw [if_pos (by rw [hp];exact hl),hb,hN,hl,e],p⟩
 | nx=>exact ⟨.non,h',by unfold Ba;rw [if_pos (by rw [hp];exact hl),hb,hN,hl,e],p⟩
 | bk=>exact p.elim
 | ct=>exact p.elim
section
variable {mh:MH}{P:D->MH->Prop}
theorem Mz {C:Int->Int->Bool}{g:Int->Int->Int}{i j:Int}(hC:C i j=true) (h:P (.int (g i j)) mh):wV (iop C g (.int i) (.int j) mh) P:=⟨_,_,by rw [vK,if_pos hC],h⟩
theorem wB {i j:Int}(h:P (.int (i - j)) mh):wV (nF (.int i) (.int j) mh) P:=Mz rfl h
theorem Dp {i j:Int}(hj:j≠0) (h:P (.int (i.fmod j)) mh):wV (Ia (.int i) (.int j) mh) P:=Mz (decide_eq_true hj) h
theorem Gi {i j:Int}(hj:j≠0) (hb:j.natAbs < 10889035741470030830827987437816582766592) (h:P (.int (i.fdiv j)) mh):wV (Jh (.int i) (.int j) mh) P:=Mz (by rw [decide_eq_true hj,decide_eq_true hb];rfl) h
theorem Wn {i j:Int}(hb:(-(2 ^ 64) < i/\i < 2 ^ 64)\/(-(2 ^ 64) < j/\j < 2 ^ 64)) (h:P (.int (i * j)) mh):wV (nG (.int i) (.int j) mh) P:=show wV (iop Ua (fun i j=>i * j) (.int i) (.int j) mh) P from Mz (by unfold Ua;rw [Bool.or_eq_true,decide_eq_true_iff,decide_eq_true_iff];exact hb) h
theorem oG {g:Int->Int->Bool}{i j:Int}(h:P (.bl (g i j)) mh):wV (S5 g (.int i) (.int j) mh) P:=⟨_,_,rfl,h⟩
theorem wC {i j:Int}(h:P (.int (i+j)) mh):wV (Hg (.int i) (.int j) mh) P:=⟨_,_,rfl,h⟩
theorem wF {i j:Int}(h:P (.bl (i==j)) mh):wV (eqD (.int i) (.int j) mh) P:=⟨_,_,rfl,h⟩
theorem wH {i j:Int}(h:P (.bl (!(i==j))) mh):wV (neD (.int i) (.int j) mh) P:=⟨_,_,rfl,h⟩
theorem pY {x y:D}{k:Bool}(e:eqB mh x y=some k) (h:P (.bl k) mh):wV (eqD x y mh) P:=⟨_,_,by unfold eqD;rw [e],h⟩
theorem M4 {x y:D}{k:Bool}(e:eqB mh x y=some k) (h:P (.bl (!k)) mh):wV (neD x y mh) P:=⟨_,_,by unfold neD;rw [e],h⟩
theorem oH {n m:Nat}{xs ys:List D}(e1:mh[n]?=some (.lst xs)) (e2:mh[m]?=some (.lst ys)) (hz:xs.length+ys.length<=1000000) (h:P (.ref mh.length) (mh++[.lst (xs++ys)])):wV (Hg (.ref n) (.ref m) mh) P:=⟨_,_,gC e1 e2 hz,h⟩
theorem Js {ds:List D}{j:Nat}{d:D}(e:ds[j]?=some d) (h:P d mh):wV (ixD (.tup ds) (.int j) mh) P:=⟨d,mh,by simp only [ixD,Iz,Zh,Ff,Pz e],h⟩
theorem wI {ds:List D}{j:Nat}{d:D}(e:ds[j]?=some d) (h:P d mh):wV (ixD (.rol ds) (.int j) mh) P:=⟨d,mh,by simp only [ixD,Iz,Zh,Ff,Pz e],h⟩
theorem Cj {n:Nat}{ds:List D}{j:Nat}{d:D}(e1:mh[n]?=some (.lst ds)) (e:ds[j]?=some d) (h:P d mh):wV (ixD (.ref n) (.int j) mh) P:=⟨d,mh,by simp only [ixD,O7 e1,Zh,Ff,e1,Pz e],h⟩
theorem Bs {n:Nat}{ds:List D}{y:D}(e:mh[n]?=some (.lst ds)) (hz:ds.length<=1000000) (h:P .non (mh.set n (.lst (ds++[y])))):wV (Bo (.ref n) [y] mh) P:=⟨_,_,Wi e hz,h⟩
theorem gG {x:D}{ds:List D}(hx:∀ z,x≠.str z) (e:Ff x mh=some ds) (h:P (.int ds.length) mh):wV (Ft [x] mh) P:=by
 refine ⟨_,_,?_,h⟩;cases x with
 | str z=>exact (hx z rfl).elim
 | ref n =>
  have e':(match mh[n]? with | some (.lst o)=>some o | _=>none)=some ds:=e;cases q:mh[n]? with
  | none=>rw [q] at e';cases e'
  | some o=>cases o <;> first | (rw [q] at e';cases e';done) | simp only [Ft,q,Oo,e]
 | _=>simp only [Ft,Oo,e]
theorem aD {x:D}{ds:List D}(e:Ff x mh=some ds) (h:P (.ref mh.length) (mh++[.lst ds])):wV (Oq [x] mh) P:=⟨_,_,by simp only [Oq,e],h⟩
end
structure Ext (W:List Nat) (a b:MH):Prop where
 len:a.length<=b.length
 old:∀ i o,i ∉ W->a[i]?=some o->b[i]?=some o
theorem Ext.refl {W:List Nat}{a:MH}:Ext W a a:=⟨Nat.le_refl _,fun _ _ _ e=>e⟩
theorem Ext.trans {W:List Nat}{a b c:MH}(x:Ext W a b) (y:Ext W b c):Ext W a c:=⟨Nat.le_trans x.len y.len,fun i o h e=>y.old i o h (x.old i o h e)⟩
theorem Ext.weak {W:List Nat}{a b:MH}(x:Ext [] a b):Ext W a b:=⟨x.len,fun i o _ e=>x.old i o (by simp) e⟩
theorem Ext.more {W:List Nat}{a g:MH}:Ext W a (a++g):=⟨by rw [List.length_append];omega,fun i o _ e=>by rw [List.getElem?_append_left (List.getElem?_eq_some_iff.mp e).1];exact e⟩
theorem Ext.set {n:Nat}{a:MH}{o:MO}:Ext [n] a (a.set n o):=⟨by rw [List.length_set];exact Nat.le_refl _,fun i o' h e=>by rw [List.getElem?_set_ne (fun z=>h (by simp [z]))];exact e⟩
theorem Ext.setNew {W:List Nat}{n:Nat}{a b:MH}{o:MO}(x:Ext W a b) (h:a.length<=n):Ext W a (b.set n o):=⟨by rw [List.length_set];exact x.len,fun i o' hi e=>by
 have:i < a.length:=(List.getElem?_eq_some_iff.mp e).1
 rw [List.getElem?_set_ne (by omega)];exact x.old i o' hi e⟩
theorem Aq {a:MH}{o:MO}:(a++[o])[a.length]?=some o:=by rw [List.getElem?_append_right (Nat.le_refl _),Nat.sub_self];rfl
section
variable {loc:DL.Loc}{mh:MH}{ma:DM D}{mr:DM (List D)}{P:D->MH->Prop}
theorem oJ {ok:Str->Str->Bool}{f:Str}(h:wD ma loc mh fun x h1=>∃ c ks ds d,x=.obj c ks ds/\ok c f=true/\(ks.zip ds).lookup f=some d/\P d h1):wD (Bd ok f ma) loc mh P:=Bk (Ao h fun _ h1 ⟨c,ks,ds,d,e,o,l,q⟩=>by
 subst e;refine ⟨d,h1,?_,q⟩;show (if ok c f then Zl (Tr c f (.obj c ks ds)) else Zb) loc h1=_;rw [if_pos o];show Tr c f (.obj c ks ds) h1=_
 simp only [Tr,beq_self_eq_true,if_true,l])
theorem wJ {met:Str->Str->Option (List Str×Fn)}{m:Str}(h:wD ma loc mh fun x h1=>∃ c ks ds ps g,x=.obj c ks ds/\met c m=some (ps,g)/\ks.contains m=false/\wD mr loc h1 fun as h2=>wV (g (.obj c ks ds::as) h2) P):wD (Ea met m ma mr) loc mh P:=Bk (Ao h fun _ h1 ⟨c,ks,ds,ps,g,e,em,hk,q⟩=>by
 subst e;show wD (match met c m with | some (_,g)=>if ks.contains m then Zb else mr.bnd fun as=>Zl (g (.obj c ks ds::as)) | none=>Zb) _ _ _;rw [em];dsimp only;rw [if_neg (by rw [hk];simp)]
 exact Bk (Ao q fun _ _ z=>z))
theorem wK {i j:Int}(h1:0<=j) (h2:j<=1000000) (h3:i.natAbs < 2 ^ 64) (h:P (.int (i ^ j.toNat)) mh):wV (Aai (.int i) (.int j) mh) P:=Mz (by rw [decide_eq_true h1,decide_eq_true h2,decide_eq_true h3];rfl) h
end
section
variable {loc:DL.Loc}{mh:MH}{ma:DM D}{mr:DM (List D)}{P:D->MH->Prop}
theorem wL {neg:Bool}{x:D}{k:Key}{n:Nat}{kvs:List (Key×D)}(e:mh[n]?=some (.dct kvs)) (ek:Qu x=some k) (h:P (.bl (if neg then !(Ci kvs k).isSome else (Ci kvs k).isSome)) mh):wV (inD neg x (.ref n) mh) P :=
 ⟨_,_,by simp only [inD,O8 e,Tz,ek],h⟩
theorem wM {y:D}{k:Key}{n:Nat}{kvs:List (Key×D)}{d:D}(e:mh[n]?=some (.dct kvs)) (ek:Qu y=some k) (ed:Ci kvs k=some d) (h:P d mh):wV (ixD (.ref n) y mh) P :=
 ⟨_,_,by simp only [ixD,O8 e,Tz,ek,ed],h⟩
end
theorem Yk {k:Bool}{B:Bool->Prop}(h:B k):∃ j,D.bl k=.bl j/\B j:=⟨k,rfl,h⟩
theorem wN {i:Int}{B:Int->Prop}(h:B i):∃ j,D.int i=.int j/\B j:=⟨i,rfl,h⟩
theorem Ri {p q:Prop}(h:p):((true=true)->p)/\((true=false)->q):=⟨fun _=>h,fun z=>by cases z⟩
theorem gH {p q:Prop}(h:q):((false=true)->p)/\((false=false)->q):=⟨fun z=>(by cases z),fun _=>h⟩
theorem Jj {k:Bool}{p q:Prop}(e:k=true) (h:p):(k=true->p)/\(k=false->q):=⟨fun _=>h,fun z=>by rw [e] at z;cases z⟩
theorem Fb {k:Bool}{p q:Prop}(e:k=false) (h:q):(k=true->p)/\(k=false->q):=⟨fun z=>(by rw [e] at z;cases z),fun _=>h⟩
theorem Bw {k:Bool}{p q:Prop}(h1:k=true->p) (h2:k=false->q):(k=true->p)/\(k=false->q):=⟨h1,h2⟩
theorem wO {k:Bool}{h:MH}{B:Bool->Prop}(q:B k):∃ j,bZ (.bl k) h=some j/\B j:=⟨k,rfl,q⟩
theorem gJ {T t:String}{x:D}{b:Bool}{mh:MH}{P:D->MH->Prop}(e1:cG x mh=some t) (e2:uF t T=some b) (h:P (.bl b) mh):wV (Qn T x mh) P:=⟨_,_,by unfold Qn;rw [e1];dsimp only;rw [e2],h⟩
theorem Ur (l:List Nat):l.map Ad=(l.map fun n:Nat=>(n:Int)).map D.int:=by rw [List.map_map];rfl
theorem Us {a b:List Nat}:((a.map fun n:Nat=>(n:Int))=b.map fun n:Nat=>(n:Int)) ↔ a=b:=by
 constructor
 ·intro h;exact List.map_inj_right (fun x y e=>by omega) |>.mp h
 ·rintro rfl;rfl
theorem Ut {α:Type} [DecidableEq α]:∀ {l l':List α},l.Nodup->(∀ x∈l,x∈l')->l'.length<=l.length->l.Perm l'
 | [],l',_,_,h=>by
  have:l'=[]:=List.length_eq_zero_iff.mp (Nat.le_zero.mp h);rw [this]
 | a::r,l',nd,sub,h=>by
  obtain ⟨na,nr⟩:=List.nodup_cons.mp nd;have ha:=sub a (.head _);have pe:=List.perm_cons_erase ha;refine (List.Perm.cons a (Ut nr (fun x hx=>?_) ?_)).trans pe.symm
  ·rcases List.mem_cons.mp (pe.mem_iff.mp (sub x (.tail _ hx))) with q|q
   ·exact absurd (q ▸ hx) na
   ·exact q
  ·have:=pe.length_eq;simp at this h;omega
theorem wQ {q:List Nat}(nd:q.Nodup) {i j:Nat}(hi:i < q.length) (hj:j < q.length) (e:q[i]=q[j]):i=j:=(List.getElem_inj nd).mp e
theorem gK {p:List Nat}(nd:p.Nodup) {i:Nat}(h:i < p.length):p.idxOf p[i]=i:=wQ nd (List.idxOf_lt_length_iff.mpr (List.getElem_mem h)) h (List.getElem_idxOf _)
noncomputable def St3 (mh:MH) (n:Nat):Prop:=∃ a b c:Int,mh[n]?=some (.lst [.int a,.int b,.int c])
theorem St3.ext {mh mh':MH}{n:Nat}{W:List Nat}(h:St3 mh n) (e:Ext W mh mh') (hn:n ∉ W):St3 mh' n:=let ⟨a,b,c,q⟩:=h;⟨a,b,c,e.old _ _ hn q⟩
mutual
noncomputable def dat:Nat->D->Bool
 | _,.int _=>true
 | _,.bl _=>true
 | _,.non=>true
 | _,.str x=>PyData.strOk x
 | n+1,.tup ds=>aF n ds
 | _,_=>false
noncomputable def aF:Nat->List D->Bool
 | _,[]=>true
 | n,d::r=>dat n d&&aF n r
end
mutual
theorem gM (mh:MH):∀ (n:Nat) (d:D),dat n d=true->∃ a,py mh n d=some a/\a.canLay0=true
 | n,.int i,_=>⟨.int i,by cases n <;> rfl,rfl⟩
 | n,.bl i,_=>⟨.bool i,by cases n <;> rfl,rfl⟩
 | n,.non,_=>⟨.none,by cases n <;> rfl,rfl⟩
 | n,.str x,h=>by
  have h2:PyData.strOk x=true:=by cases n <;> exact h
  exact ⟨.str x,by cases n <;> (show (if PyData.strOk x=true then some (PyData.str x) else none)=_;rw [if_pos h2]),h2⟩
 | 0,.tup ds,h=>by simp [dat] at h
 | n+1,.tup ds,h=>by
  have h:aF n ds=true:=h;obtain ⟨as,e,l⟩:=Yl mh n ds h;exact ⟨.tuple as,by simp only [py,e],by simpa [PyData.canLay0] using l⟩
 | 0,.ref _,h=>by simp [dat] at h
 | _+1,.ref _,h=>by simp [dat] at h
 | 0,.rol _,h=>by simp [dat] at h
 | _+1,.rol _,h=>by simp [dat] at h
 | 0,.obj ..,h=>by simp [dat] at h
 | _+1,.obj ..,h=>by simp [dat] at h
 | 0,.fn _,h=>by simp [dat] at h
 | _+1,.fn _,h=>by simp [dat] at h
theorem Yl (mh:MH):∀ (n:Nat) (ds:List D),aF n ds=true->∃ as,Bx (py mh n) ds=some as/\PyData.canLayAll0 as=true
 | n,[],_=>⟨[],rfl,rfl⟩
 | n,d::r,h=>by
  have h:(dat n d&&aF n r)=true:=by simpa [aF] using h
  rw [Bool.and_eq_true] at h;obtain ⟨a,e1,l1⟩:=gM mh n d h.1;obtain ⟨as,e2,l2⟩:=Yl mh n r h.2;exact ⟨a::as,by simp only [Bx,e1,e2],by simp only [PyData.canLayAll0,l1,l2,Bool.and_self]⟩
end
theorem gO {x:D}(h:dat 60 x=true) (mh:MH):eqB mh x x=some true:=by
 obtain ⟨a,e,l⟩:=gM mh 60 x h;unfold eqB;rw [e];dsimp only;rw [SeqAt.eqv_refl a l]
theorem Ym {x y:D}{mh:MH}{P:D->MH->Prop}(e:x=y) (hx:dat 60 x=true) (h:P (.bl false) mh):wV (neD x y mh) P:=by
 subst e;exact M4 (gO hx mh) h
theorem gP {n:Nat}{ns:List Int}{mh:MH}{P:D->MH->Prop}(e:mh[n]?=some (.lst (ns.map D.int))) (hz:ns.length < 64) (h:P (.ref mh.length) (mh++[.lst ((sortI ns).map D.int)])):wV (G3 [.ref n] mh) P :=
 ⟨_,_,by show Gz [.ref n] mh=_;simp only [Gz,e,Hv,if_pos hz],h⟩
theorem gQ {a:Nat}{ds:List D}{mh:MH}{P:D->MH->Prop}(e:mh[a]?=some (.lst ds)) (h:P (.bl true) mh):wV (Qn "list" (.ref a) mh) P :=
 gJ (t := "list") (by show (match mh[a]? with | some (.lst _)=>some "list" | _=>none)=_;rw [e]) rfl h
theorem ty_list {a:Nat}{ds:List D}{mh:MH}(e:mh[a]?=some (.lst ds)):Zm "list" (.ref a) mh=true:=by
 show (true&&(match mh[a]? with | some (.lst _)=>true | _=>false))=true;rw [e];rfl
theorem src_list {a:Nat}{ds:List D}{mh:MH}(e:mh[a]?=some (.lst ds)):srcOf (.ref a) mh=some (.lref a):=by
 show (match mh[a]? with | some (.lst _)=>some (Src.lref a) | _=>none)=_;rw [e]
theorem Fw {a:Nat}{ds:List D}{mh:MH}(e:mh[a]?=some (.lst ds)):(Src.lref a).ok mh=true/\(Src.lref a).items mh=ds:=by
 refine ⟨?_,?_⟩
 ·show (match mh[a]? with | some (.lst _)=>true | _=>false)=true;rw [e]
 ·show (match mh[a]? with | some (.lst o)=>o | _=>[])=_;rw [e]
end DL
namespace Lw
open PySem L2 DL
noncomputable def top (i:Nat):Stmt:=PySem.Challenge.pw_letterall_k78_knots.main.body.getD i (.Pass ⟨0,0,0,0⟩)
noncomputable def Ke (s:Stmt) (j:Nat):Stmt:=match s with
 | .ClassDef _ _ _ b _ _ _ _ _ _ _=>b.getD j (.Pass ⟨0,0,0,0⟩)
 | _=>.Pass ⟨0,0,0,0⟩
noncomputable def f2:FnI:=Ew (top 2)
noncomputable def f4:FnI:=Ew (top 4)
noncomputable def f5:FnI:=Ew (top 5)
noncomputable def f6:FnI:=Ew (top 6)
noncomputable def f7:FnI:=Ew (top 7)
noncomputable def f8:FnI:=Ew (top 8)
noncomputable def f9:FnI:=Ew (top 9)
noncomputable def f10:FnI:=Ew (top 10)
noncomputable def f11:FnI:=Ew (top 11)
noncomputable abbrev Wo:Stmt:=Ke (top 1) 1
noncomputable def Rj:FnI:=Ew Wo
noncomputable abbrev Wq:Stmt:=Ke (top 1) 2
noncomputable def Rk:FnI:=Ew Wq
noncomputable abbrev Wr:Stmt:=Ke (top 1) 3
noncomputable def Rm:FnI:=Ew Wr
noncomputable abbrev Ws:Stmt:=Ke (top 1) 4
noncomputable def Ny:FnI:=Ew Ws
noncomputable def gR:List (Str×Stmt):=("knots",top 2)::("_law_cell_at",top 4)::("_law_mixed",top 5)::("_law_digit",top 6)::("_law_edges",top 7)::("_law_reached",top 8)::("_law_right",top 9)::("_law_row",top 10)::("law",top 11)::[]
noncomputable def tb (x:Str):Option FnI:=(gR.lookup x).map Ew
theorem gU:fP gR:=⟨Ji ⟨rfl,rfl,rfl,by decide +kernel,by decide +kernel,by decide +kernel,by decide +kernel⟩ fun _ _ _ _ _ _=>ln1 fun _=>rfl,Ji ⟨rfl,rfl,rfl,by decide +kernel,by decide +kernel,by decide +kernel,by decide +kernel⟩ fun _ _ _ _ _ _=>ln2 fun _ _=>rfl,Ji ⟨rfl,rfl,rfl,by decide +kernel,by decide +kernel,by decide +kernel,by decide +kernel⟩ fun _ _ _ _ _ _=>ln1 fun _=>rfl,Ji ⟨rfl,rfl,rfl,by decide +kernel,by decide +kernel,by decide +kernel,by decide +kernel⟩ fun _ _ _ _ _ _=>ln2 fun _ _=>rfl,Ji ⟨rfl,rfl,rfl,by decide +kernel,by decide +kernel,by decide +kernel,by decide +kernel⟩ fun _ _ _ _ _ _=>ln2 fun _ _=>rfl,Ji ⟨rfl,rfl,rfl,by decide +kernel,by decide +kernel,by decide +kernel,by decide +kernel⟩ fun _ _ _ _ _ _=>ln1 fun _=>rfl,Ji ⟨rfl,rfl,rfl,by decide +kernel,by decide +kernel,by decide +kernel,by decide +kernel⟩ fun _ _ _ _ _ _=>ln2 fun _ _=>rfl,Ji ⟨rfl,rfl,rfl,by decide +kernel,by decide +kernel,by decide +kernel,by decide +kernel⟩ fun _ _ _ _ _ _=>ln2 fun _ _=>rfl,Ji ⟨rfl,rfl,rfl,by decide +kernel,by decide +kernel,by decide +kernel,by decide +kernel⟩ fun _ _ _ _ _ _=>ln1 fun _=>rfl,trivial⟩
noncomputable def con (_:Str):Option D:=none
noncomputable def dic (_:Str):Option (List (Str×D)):=none
noncomputable def fld (c f:Str):Bool:=(c == "Knotter"&&f == "edges") || ((c == "Knotter"&&f == "order") || ((c == "Knotter"&&f == "lows") || ((c == "Knotter"&&f == "loose") || ((c == "Knotter"&&f == "tied") || ((c == "Knotter"&&f == "found"))))))
noncomputable def tbm (c m:Str):Option FnI:=if c == "Knotter"&&m == "go_from" then some Rj else if c == "Knotter"&&m == "come_to" then some Rk else if c == "Knotter"&&m == "sink" then some Rm else if c == "Knotter"&&m == "leave" then some Ny else none
noncomputable def mkr (c:Str):Option (List (Str×InF)):=if c == "Knotter" then some [("edges",.par),("order",.nd),("lows",.nd),("loose",.nl),("tied",.nd),("found",.nl)] else none
noncomputable def Tt:Tb:={ tb:=tb,con:=con,dic:=dic,fld:=fld,tbm:=tbm,mkr:=mkr }
theorem scq {N P:List Str}{sc:Scope}(a:sc.kind=.function)(b:sc.isCoroutine=false)(c:sc.isGenerator=false)(h:N.Nodup/\N.take P.length=P/\(∀ x∈P,sc.names.lookup x=some .local\/sc.names.lookup x=some .cell)/\∀ y∈sc.names,y.2≠.free):FnScope N P sc:=⟨a,b,c,h.1,h.2.1,h.2.2.1,h.2.2.2⟩
theorem Aap:FnScope Rj.N Rj.ps (Ag Wo):=scq rfl rfl rfl (by decide +kernel)
theorem Aaq:FnScope Rk.N Rk.ps (Ag Wq):=scq rfl rfl rfl (by decide +kernel)
theorem Aar:FnScope Rm.N Rm.ps (Ag Wr):=scq rfl rfl rfl (by decide +kernel)
theorem Aas:FnScope Ny.N Ny.ps (Ag Ws):=scq rfl rfl rfl (by decide +kernel)
theorem pZ:f2.ps.length=1/\f2.N.length=3:=by decide +kernel
theorem qC:f4.ps.length=2/\f4.N.length=2:=by decide +kernel
theorem qD:f5.ps.length=1/\f5.N.length=1:=by decide +kernel
theorem qF:f6.ps.length=2/\f6.N.length=3:=by decide +kernel
theorem qG:f7.ps.length=2/\f7.N.length=6:=by decide +kernel
theorem qH:f8.ps.length=1/\f8.N.length=6:=by decide +kernel
theorem qI:f9.ps.length=2/\f9.N.length=8:=by decide +kernel
theorem gW:f10.ps.length=2/\f10.N.length=4:=by decide +kernel
theorem gY:f11.ps.length=1/\f11.N.length=5:=by decide +kernel
theorem Yn:Rj.ps.length=2/\Rj.N.length=6:=by decide +kernel
theorem Yo:Rk.ps.length=2/\Rk.N.length=2:=by decide +kernel
theorem Yp:Rm.ps.length=3/\Rm.N.length=3:=by decide +kernel
theorem Kw:Ny.ps.length=2/\Ny.N.length=3:=by decide +kernel
theorem Ab4 {w:World}{K:W.Frag}{h:Heap}{mg:Str->Option Value}(X:K.In h) (G:h.Ns mainGlobals mg){C1:Addr}{f1_1':Addr} {od1_1 an1_1:Option Addr} {sl1_1:Array (Option Value)} {oc1_1 kV1_1 dc1_1 pm1_1 cd1_1 ct1_1:Value}{f1_2':Addr} {od1_2 an1_2:Option Addr} {sl1_2:Array (Option Value)} {oc1_2 kV1_2 dc1_2 pm1_2 cd1_2 ct1_2:Value}{f1_3':Addr} {od1_3 an1_3:Option Addr} {sl1_3:Array (Option Value)} {oc1_3 kV1_3 dc1_3 pm1_3 cd1_3 ct1_3:Value}{f1_4':Addr} {od1_4 an1_4:Option Addr} {sl1_4:Array (Option Value)} {oc1_4 kV1_4 dc1_4 pm1_4 cd1_4 ct1_4:Value}{f1_0':Addr} {od1_0 an1_0:Option Addr} {sl1_0:Array (Option Value)} {oc1_0 kV1_0 dc1_0 pm1_0 cd1_0 ct1_0:Value}(rf:Ul K gR)(rb:Um K Jf)(C1a:W.nsIn K mainGlobals "Knotter"=some (some (.ref C1)))(C1b:W.plainGet K C1 Str.empty=true)(C1c:W.hasDictIn K C1=true)(C1d:W.plainOver K C1=true)(C1e:W.findIn K (.ref C1) "__setattr__"=some (some (.builtin "object.__setattr__")))(C1f0:W.findIn K (.ref C1) "edges"=some none)(C1f1:W.findIn K (.ref C1) "order"=some none)(C1f2:W.findIn K (.ref C1) "lows"=some none)(C1f3:W.findIn K (.ref C1) "loose"=some none)(C1f4:W.findIn K (.ref C1) "tied"=some none)(C1f5:W.findIn K (.ref C1) "found"=some none)(a1_1:W.findIn K (.ref C1) "go_from"=some (some (.ref f1_1')))(Wt:W.isFn K (.ref f1_1')=true)(l1_1:K.lookup f1_1'=some ⟨oc1_1,od1_1,.func (W.fnOf "go_from" "Knotter.go_from" (Bu Wo) (Bb Wo) (Ag Wo) .none kV1_1 dc1_1 pm1_1 an1_1 cd1_1 ct1_1),sl1_1⟩)(c1_1:W.codeIn K cd1_1 "Knotter.go_from"=true)(k1_1:W.keepIn K (.ref f1_1')=true)(a1_2:W.findIn K (.ref C1) "come_to"=some (some (.ref f1_2')))(Wu:W.isFn K (.ref f1_2')=true)(l1_2:K.lookup f1_2'=some ⟨oc1_2,od1_2,.func (W.fnOf "come_to" "Knotter.come_to" (Bu Wq) (Bb Wq) (Ag Wq) .none kV1_2 dc1_2 pm1_2 an1_2 cd1_2 ct1_2),sl1_2⟩)(c1_2:W.codeIn K cd1_2 "Knotter.come_to"=true)(k1_2:W.keepIn K (.ref f1_2')=true)(a1_3:W.findIn K (.ref C1) "sink"=some (some (.ref f1_3')))(Wv:W.isFn K (.ref f1_3')=true)(l1_3:K.lookup f1_3'=some ⟨oc1_3,od1_3,.func (W.fnOf "sink" "Knotter.sink" (Bu Wr) (Bb Wr) (Ag Wr) .none kV1_3 dc1_3 pm1_3 an1_3 cd1_3 ct1_3),sl1_3⟩)(c1_3:W.codeIn K cd1_3 "Knotter.sink"=true)(k1_3:W.keepIn K (.ref f1_3')=true)(a1_4:W.findIn K (.ref C1) "leave"=some (some (.ref f1_4')))(Rn:W.isFn K (.ref f1_4')=true)(l1_4:K.lookup f1_4'=some ⟨oc1_4,od1_4,.func (W.fnOf "leave" "Knotter.leave" (Bu Ws) (Bb Ws) (Ag Ws) .none kV1_4 dc1_4 pm1_4 an1_4 cd1_4 ct1_4),sl1_4⟩)(c1_4:W.codeIn K cd1_4 "Knotter.leave"=true)(k1_4:W.keepIn K (.ref f1_4')=true)(a1_0:W.findIn K (.ref C1) "__init__"=some (some (.ref f1_0')))(b1_0:W.isFn K (.ref f1_0')=true)(l1_0:K.lookup f1_0'=some ⟨oc1_0,od1_0,.func (W.fnOf "__init__" "Knotter.__init__" (Bu (Ke (top 1) 0)) (Bb (Ke (top 1) 0)) (Ag (Ke (top 1) 0)) .none kV1_0 dc1_0 pm1_0 an1_0 cd1_0 ct1_0),sl1_0⟩)(c1_0:W.codeIn K cd1_0 "Knotter.__init__"=true)(k1_0:W.keepIn K (.ref f1_0')=true)(C1m:W.makesIn K C1=true)(C1k:W.keepIn K (.ref C1)=true):TbOk w K mg Tt:=by
 refine ⟨fun x I hx=>?_,fun x d hx=>?_,fun b hb=>?_,fun x kvs hx=>?_,fun c f hx=>?_,fun c m I hx=>?_,fun c f hx=>?_⟩
 ·exact Yg X G rf gU hx
 ·cases hx
 ·exact Uo X G rb b hb
 ·cases hx
 ·change fld c f=true at hx;unfold fld at hx;simp only [Bool.or_eq_true,Bool.and_eq_true,beq_iff_eq] at hx;rcases hx with ⟨rfl,rfl⟩|⟨rfl,rfl⟩|⟨rfl,rfl⟩|⟨rfl,rfl⟩|⟨rfl,rfl⟩|⟨rfl,rfl⟩
  ·exact ⟨_,C1a,⟨C1b,C1c,C1d,C1e⟩,C1f0⟩
  ·exact ⟨_,C1a,⟨C1b,C1c,C1d,C1e⟩,C1f1⟩
  ·exact ⟨_,C1a,⟨C1b,C1c,C1d,C1e⟩,C1f2⟩
  ·exact ⟨_,C1a,⟨C1b,C1c,C1d,C1e⟩,C1f3⟩
  ·exact ⟨_,C1a,⟨C1b,C1c,C1d,C1e⟩,C1f4⟩
  ·exact ⟨_,C1a,⟨C1b,C1c,C1d,C1e⟩,C1f5⟩
 ·change tbm c m=some I at hx;unfold tbm at hx;split at hx
  ·rename_i e;rw [Bool.and_eq_true] at e;rw [eq_of_beq e.1,eq_of_beq e.2];cases hx;exact ⟨_,Wo,_,_,_,C1a,⟨C1b,C1c,C1d,C1e⟩,⟨a1_1,Wt,k1_1⟩,(Jl (st:=Wo) l1_1 c1_1 k1_1),Aap,rfl,rfl,ln2 fun _ _=>rfl⟩
  ·
   split at hx
   ·rename_i e;rw [Bool.and_eq_true] at e;rw [eq_of_beq e.1,eq_of_beq e.2];cases hx;exact ⟨_,Wq,_,_,_,C1a,⟨C1b,C1c,C1d,C1e⟩,⟨a1_2,Wu,k1_2⟩,(Jl (st:=Wq) l1_2 c1_2 k1_2),Aaq,rfl,rfl,ln2 fun _ _=>rfl⟩
   ·
    split at hx
    ·rename_i e;rw [Bool.and_eq_true] at e;rw [eq_of_beq e.1,eq_of_beq e.2];cases hx;exact ⟨_,Wr,_,_,_,C1a,⟨C1b,C1c,C1d,C1e⟩,⟨a1_3,Wv,k1_3⟩,(Jl (st:=Wr) l1_3 c1_3 k1_3),Aar,rfl,rfl,ln3 fun _ _ _=>rfl⟩
    ·
     split at hx
     ·rename_i e;rw [Bool.and_eq_true] at e;rw [eq_of_beq e.1,eq_of_beq e.2];cases hx;exact ⟨_,Ws,_,_,_,C1a,⟨C1b,C1c,C1d,C1e⟩,⟨a1_4,Rn,k1_4⟩,(Jl (st:=Ws) l1_4 c1_4 k1_4),Aas,rfl,rfl,ln2 fun _ _=>rfl⟩
     ·cases hx
 ·change mkr c=some f at hx;unfold mkr at hx;split at hx
  ·rename_i e;rw [eq_of_beq e];cases hx;exact ⟨_,_,_,["self", "edges"],C1a,⟨C1m,a1_0,b1_0,C1k⟩,W.mg_of X G C1a,.all (ln2 fun _ _=>rfl),fun P w base=>eX (Jl (st:=Ke (top 1) 0) l1_0 c1_0 k1_0) ⟨rfl,rfl,rfl,by decide +kernel,by decide +kernel,by decide +kernel,by decide +kernel⟩ (.par (.nd (.nd (.nl (.nd (.nl .nil)))))) (.inl (by decide +kernel)) (.inl (by decide +kernel)) ⟨C1b,C1c,C1d,C1e⟩ (G4 C1f0 (G4 C1f1 (G4 C1f2 (G4 C1f3 (G4 C1f4 (G4 C1f5 (fun _ h=>nomatch h))))))) (by decide +kernel) (by decide) (by decide) (by decide)⟩
  ·cases hx
noncomputable def Gk (k:Nat):Gb:=GkN Tt k
noncomputable abbrev Bq (I:FnI) (k:Nat):SM:=iSs (Gk (k+1)) fuel {N:=I.N,scope:=I.scope,own:=fun _=>true} I.body
noncomputable def Nz (k:Nat):Str->Str->Option (List Str×Fn):=fun c m=>(match tbm c m with | some I=>some (I.ps,Ba (Gk k) fuel I) | none=>none)
noncomputable def b2 (k:Nat):SM :=
 (Ae (Ay (Yc "Knotter" [("edges",.par),("order",.nd),("lows",.nd),("loose",.nl),("tied",.nd),("found",.nl)] (vr 0)) (Bj 1))
 (Ae (Hj (Gn Hi (Aa (Bt Ft (Aa (vr 0) (Zr []))) (Zr []))) (Bj 2)
 (Ae (ifS (Am (dop (inD true) (vr 2) (Bd fld "order" (vr 1))))
  (Ae (Ca (Ea (Nz k) "go_from" (vr 1) (Aa (vr 2) (Zr []))))
   Zn)
  Zn)
  Zn))
 (Ae (retS (Bd fld "found" (vr 1)))
 Zn)))
theorem Aat (k:Nat):Bq f2 k=b2 k:=by kernel_rfl
noncomputable def b4 (k:Nat):SM :=
 (Ae (ifS (Am (dop ltD (vr 1) (Bt Ft (Aa (vr 0) (Zr [])))))
 (Ae (retS (dop ixD (vr 0) (vr 1)))
  Zn)
 Zn)
 (Ae (retS (Zr (.int 0)))
 Zn))
theorem Aau (k:Nat):Bq f4 k=b4 k:=by kernel_rfl
noncomputable def b5 (k:Nat):SM :=
 (Ae (Ay (dop Ia (dop nG (dop Hg (dop Ia (vr 0) (Zr (.int 2147483647))) (Zr (.int 1))) (Zr (.int 48271))) (Zr (.int 2147483647))) (Bj 0))
 (Ae (Ay (dop Ia (dop nG (vr 0) (dop Hg (dop Jh (vr 0) (Zr (.int 1009))) (Zr (.int 69621)))) (Zr (.int 2147483647))) (Bj 0))
 (Ae (retS (dop Ia (dop nG (dop Hg (vr 0) (Zr (.int 1))) (dop Hg (dop Jh (vr 0) (Zr (.int 757))) (Zr (.int 16807)))) (Zr (.int 2147483629))))
 Zn)))
theorem Aav (k:Nat):Bq f5 k=b5 k:=by kernel_rfl
noncomputable def b6 (k:Nat):SM :=
 (Ae (ifS (Ik (Am (dop eqD (dop ixD (vr 0) (Zr (.int 1))) (Zr (.int 0)))) (Am (dop gtD (dop ixD (vr 0) (Zr (.int 0))) (Zr (.int 0)))))
 (Ae (Ay (dop Ia (dop ixD (vr 0) (Zr (.int 0))) (vr 1)) (Bj 2))
  (Ae (Ay (dop Jh (dop ixD (vr 0) (Zr (.int 0))) (vr 1)) (Dc (vr 0) (Zr (.int 0))))
  (Ae (retS (vr 2))
  Zn)))
 Zn)
 (Ae (Ay (Bt (Ba (Gk k) fuel f5) (Aa (dop Hg (dop ixD (vr 0) (Zr (.int 2))) (Zr (.int 1))) (Zr []))) (Dc (vr 0) (Zr (.int 2))))
 (Ae (retS (dop Ia (dop Jh (dop ixD (vr 0) (Zr (.int 2))) (Zr (.int 7))) (vr 1)))
 Zn)))
theorem Aaw (k:Nat):Bq f6 k=b6 k:=by kernel_rfl
noncomputable def b7 (k:Nat):SM :=
 (Ae (Ay (Bt (Ba (Gk k) fuel f6) (Aa (vr 1) (Aa (Zr (.int 10)) (Zr [])))) (Bj 2))
 (Ae (Ay (lstM (Zr [])) (Bj 3))
 (Ae (Hj (Gn Hi (Aa (vr 2) (Zr []))) (Bj 4)
 (Ae (Ca (Bg "list" Bo (vr 3) (Aa (Ec (Gn Hi (Aa (Bt (Ba (Gk k) fuel f6) (Aa (vr 1) (Aa (Zr (.int 4)) (Zr [])))) (Zr []))) [none,none,some 2,some 1] (Bj 1) (Zr true) (Bt (Ba (Gk k) fuel f6) (Aa (vr 3) (Aa (vr 2) (Zr []))))) (Zr []))))
  Zn))
 (Ae (Hj (Fo (dSl (vr 0) (some (Zr (.int 1))) (some (Zr (.int 20))))) (Bj 5)
 (Ae (ifS (Am (dop gtD (vr 2) (Zr (.int 0))))
  (Ae (Ca (Bg "list" Bo (dop ixD (vr 3) (dop Ia (vr 5) (vr 2))) (Aa (dop Ia (dop Jh (vr 5) (vr 2)) (vr 2)) (Zr []))))
   Zn)
  Zn)
  Zn))
 (Ae (retS (vr 3))
 Zn)))))
theorem Aax (k:Nat):Bq f7 k=b7 k:=by kernel_rfl
noncomputable def b8 (k:Nat):SM :=
 (Ae (Ay (lstM (Zr [])) (Bj 1))
 (Ae (Hj (Gn Hi (Aa (Bt Ft (Aa (vr 0) (Zr []))) (Zr []))) (Bj 2)
 (Ae (Ay (Jp (vr 2) (Zr (.bl true))) (Bj 3))
  (Ae (Ay (lstM (Aa (vr 2) (Zr []))) (Bj 4))
  (Ae (Hu (Am (dop neD (vr 4) (lstM (Zr []))))
  (Ae (Hj (Fo (dop ixD (vr 0) (Bg "list" Qo (vr 4) (Zr [])))) (Bj 5)
   (Ae (ifS (Am (dop (inD true) (vr 5) (vr 3)))
    (Ae (Ay (Zr (.bl true)) (Dc (vr 3) (vr 5)))
     (Ae (Ca (Bg "list" Bo (vr 4) (Aa (vr 5) (Zr []))))
     Zn))
    Zn)
    Zn))
   Zn))
  (Ae (Ca (Bg "list" Bo (vr 1) (Aa (vr 3) (Zr []))))
  Zn)))))
 (Ae (retS (vr 1))
 Zn)))
theorem Aay (k:Nat):Bq f8 k=b8 k:=by kernel_rfl
noncomputable def b9 (k:Nat):SM :=
 (Ae (ifS (Nq (Sx (Zg (Aaj "list" (vr 1)))) (Am (dop neD (Ec (Fo (vr 1)) [none,none] (Bj 1) (Nq (Am (dop neD (vr 1) (Bt Bv (Aa (vr 1) (Zr []))))) (Am (dop eqD (vr 1) (lstM (Zr []))))) (vr 1)) (lstM (Zr [])))))
 (Ae (retS (Zr (.bl false)))
  Zn)
 Zn)
 (Ae (Ay newD (Bj 2))
 (Ae (Hj (Gn Hi (Aa (Bt Ft (Aa (vr 1) (Zr []))) (Zr []))) (Bj 3)
 (Ae (Hj (Fo (dop ixD (vr 1) (vr 3))) (Bj 4)
  (Ae (ifS (Am (dop (inD false) (vr 4) (vr 2)))
   (Ae (retS (Zr (.bl false)))
    Zn)
   Zn)
   (Ae (Ay (vr 3) (Dc (vr 2) (vr 4)))
   Zn)))
  Zn))
 (Ae (ifS (Am (dop neD (Bt Bv (Aa (vr 2) (Zr []))) (Uk (Bt Ft (Aa (vr 0) (Zr []))))))
 (Ae (retS (Zr (.bl false)))
  Zn)
 Zn)
 (Ae (Ay (Bt (Ba (Gk k) fuel f8) (Aa (vr 0) (Zr []))) (Bj 5))
 (Ae (Hj (Gn Hi (Aa (Bt Ft (Aa (vr 0) (Zr []))) (Zr []))) (Bj 6)
 (Ae (Hj (Gn Hi (Aa (Bt Ft (Aa (vr 0) (Zr []))) (Zr []))) (Bj 7)
  (Ae (ifS (Am (dop neD (dop eqD (dop ixD (vr 2) (vr 6)) (dop ixD (vr 2) (vr 7))) (Lg (dop (inD false) (vr 7) (dop ixD (vr 5) (vr 6))) (dop (inD false) (vr 6) (dop ixD (vr 5) (vr 7))))))
   (Ae (retS (Zr (.bl false)))
    Zn)
   Zn)
   (Ae (ifS (Ik (Am (dop (inD false) (vr 7) (dop ixD (vr 5) (vr 6)))) (Am (dop gtD (dop ixD (vr 2) (vr 7)) (dop ixD (vr 2) (vr 6)))))
   (Ae (retS (Zr (.bl false)))
    Zn)
   Zn)
   Zn)))
  Zn))
 (Ae (retS (Zr (.bl true)))
 Zn)))))))
theorem Aaz (k:Nat):Bq f9 k=b9 k:=by kernel_rfl
noncomputable def b10 (k:Nat):SM :=
 (Ae (Ay (Ec (Gn Hi (Aa (dop nF (vr 0) (Zr (.int 1))) (Zr []))) [none,none] (Bj 1) (Zr true) (lstM (Aa (dop Hg (vr 1) (Zr (.int 1))) (Zr [])))) (Bj 2))
 (Ae (Ca (Bg "list" Bo (vr 2) (Aa (dop ixD (lstM (Aa (lstM (Zr [])) (Aa (lstM (Aa (dop Ia (vr 1) (vr 0)) (Zr []))) (Zr [])))) (dop Ia (dop Jh (vr 1) (vr 0)) (Zr (.int 2)))) (Zr []))))
 (Ae (Ay (Ec (Gn Tw (Aa (dop nF (vr 0) (Zr (.int 1))) (Aa (Uj (Zr (.int 1))) (Aa (Uj (Zr (.int 1))) (Zr []))))) [none,none] (Bj 1) (Zr true) (lstM (Aa (vr 1) (Zr [])))) (Bj 3))
 (Ae (ifS (Am (dop neD (dop ixD (vr 2) (Uj (Zr (.int 1)))) (lstM (Zr []))))
 (Ae (Ay (dop Hg (lstM (Aa (Bt Dk (Aa (dop Ia (vr 1) (vr 0)) (Aa (vr 0) (Zr [])))) (Zr []))) (Ec (Gn Tw (Aa (dop nF (dop Ia (vr 1) (vr 0)) (Zr (.int 1))) (Aa (Uj (Zr (.int 1))) (Aa (Uj (Zr (.int 1))) (Zr []))))) [none,none] (Bj 1) (Zr true) (lstM (Aa (vr 1) (Zr []))))) (Bj 3))
  Zn)
 Zn)
 (Ae (retS (dop eqD (Bt (Ba (Gk k) fuel f2) (Aa (vr 2) (Zr []))) (vr 3)))
 Zn)))))
theorem wR (k:Nat):Bq f10 k=b10 k:=by kernel_rfl
noncomputable def b11 (k:Nat):SM :=
 (Ae (Ay (lstM (Aa (dop Jh (Bt (Ba (Gk k) fuel f4) (Aa (vr 0) (Aa (Zr (.int 0)) (Zr [])))) (Zr (.int 2))) (Aa (dop Ia (Bt (Ba (Gk k) fuel f4) (Aa (vr 0) (Aa (Zr (.int 0)) (Zr [])))) (Zr (.int 2))) (Aa (Bt (Ba (Gk k) fuel f4) (Aa (vr 0) (Aa (Zr (.int 0)) (Zr [])))) (Zr []))))) (Bj 1))
 (Ae (ifS (Am (dop eqD (Bt (Ba (Gk k) fuel f6) (Aa (vr 1) (Aa (Zr (.int 4)) (Zr [])))) (Zr (.int 1))))
 (Ae (retS (Bt (Ba (Gk k) fuel f10) (Aa (dop Hg (Zr (.int 1)) (Bt (Ba (Gk k) fuel f6) (Aa (vr 1) (Aa (Zr (.int 3000)) (Zr []))))) (Aa (Bt (Ba (Gk k) fuel f6) (Aa (vr 1) (Aa (dop Aai (Zr (.int 10)) (Zr (.int 7))) (Zr [])))) (Zr [])))))
  Zn)
 Zn)
 (Ae (Ay (Bt (Ba (Gk k) fuel f7) (Aa (vr 0) (Aa (vr 1) (Zr [])))) (Bj 2))
 (Ae (Ay (Ec (Fo (vr 2)) [none,none] (Bj 1) (Zr true) (Bt Oq (Aa (vr 1) (Zr [])))) (Bj 3))
 (Ae (Ay (Bt (Ba (Gk k) fuel f2) (Aa (vr 3) (Zr []))) (Bj 4))
 (Ae (ifS (Nq (Am (dop neD (vr 3) (vr 2))) (Sx (Zg (Bt (Ba (Gk k) fuel f9) (Aa (vr 2) (Aa (vr 4) (Zr [])))))))
 (Ae (retS (Zr (.bl false)))
  Zn)
 Zn)
 (Ae (Ca (Bg "list" Bo (vr 4) (Aa (lstM (Aa (Zr (.int 0)) (Zr []))) (Zr []))))
 (Ae (retS (Bt (Ba (Gk k) fuel f9) (Aa (vr 2) (Aa (Bt (Ba (Gk k) fuel f2) (Aa (vr 3) (Zr []))) (Zr [])))))
 Zn))))))))
theorem wU (k:Nat):Bq f11 k=b11 k:=by kernel_rfl
noncomputable def Wt (k:Nat):SM :=
 (Ae (Ca (Ea (Nz k) "come_to" (vr 0) (Aa (vr 1) (Zr []))))
 (Ae (Ay (lstM (Aa (nH (Aa (vr 1) (Aa (Zr (.int 0)) (Zr [])))) (Zr []))) (Bj 2))
 (Ae (Hu (Am (dop gtD (Bt Ft (Aa (vr 2) (Zr []))) (Zr (.int 0))))
 (Ae (Ay (Bg "list" Qo (vr 2) (Zr [])) (Bj 3))
  (Ae (Ay (dop ixD (vr 3) (Zr (.int 0))) (Bj 4))
  (Ae (ifS (Am (dop eqD (dop ixD (vr 3) (Zr (.int 1))) (Bt Ft (Aa (dop ixD (Bd fld "edges" (vr 0)) (vr 4)) (Zr [])))))
  (Ae (Ca (Ea (Nz k) "leave" (vr 0) (Aa (vr 4) (Zr []))))
   (Ae (ifS (Am (dop gtD (Bt Ft (Aa (vr 2) (Zr []))) (Zr (.int 0))))
   (Ae (Ca (Ea (Nz k) "sink" (vr 0) (Aa (dop ixD (dop ixD (vr 2) (Uj (Zr (.int 1)))) (Zr (.int 0))) (Aa (dop ixD (Bd fld "lows" (vr 0)) (vr 4)) (Zr [])))))
    Zn)
   Zn)
   (Ae (fun loc mh=>some (.ct,loc,mh))
   Zn)))
  Zn)
  (Ae (Ca (Bg "list" Bo (vr 2) (Aa (nH (Aa (vr 4) (Aa (dop Hg (dop ixD (vr 3) (Zr (.int 1))) (Zr (.int 1))) (Zr [])))) (Zr []))))
  (Ae (Ay (dop ixD (dop ixD (Bd fld "edges" (vr 0)) (vr 4)) (dop ixD (vr 3) (Zr (.int 1)))) (Bj 5))
  (Ae (ifS (Am (dop (inD true) (vr 5) (Bd fld "order" (vr 0))))
  (Ae (Ca (Ea (Nz k) "come_to" (vr 0) (Aa (vr 5) (Zr []))))
   (Ae (Ca (Bg "list" Bo (vr 2) (Aa (nH (Aa (vr 5) (Aa (Zr (.int 0)) (Zr [])))) (Zr []))))
   Zn))
  (Ae (ifS (Am (dop (inD true) (vr 5) (Bd fld "tied" (vr 0))))
   (Ae (Ca (Ea (Nz k) "sink" (vr 0) (Aa (vr 4) (Aa (dop ixD (Bd fld "order" (vr 0)) (vr 5)) (Zr [])))))
    Zn)
   Zn)
   Zn))
  Zn)))))))
 Zn)))
theorem oK (k:Nat):Bq Rj k=Wt k:=by kernel_rfl
noncomputable def Wu (k:Nat):SM :=
 (Ae (Ay (Bt Ft (Aa (Bd fld "order" (vr 0)) (Zr []))) (Dc (Bd fld "order" (vr 0)) (vr 1)))
 (Ae (Ay (dop ixD (Bd fld "order" (vr 0)) (vr 1)) (Dc (Bd fld "lows" (vr 0)) (vr 1)))
 (Ae (Ca (Bg "list" Bo (Bd fld "loose" (vr 0)) (Aa (vr 1) (Zr []))))
 Zn)))
theorem oM (k:Nat):Bq Rk k=Wu k:=by kernel_rfl
noncomputable def Wv (k:Nat):SM :=
 (Ae (Ay (Bt Xr (Aa (dop ixD (Bd fld "lows" (vr 0)) (vr 1)) (Aa (vr 2) (Zr [])))) (Dc (Bd fld "lows" (vr 0)) (vr 1)))
 Zn)
theorem oN (k:Nat):Bq Rm k=Wv k:=by kernel_rfl
noncomputable def Rn (k:Nat):SM :=
 (Ae (ifS (Am (dop neD (dop ixD (Bd fld "lows" (vr 0)) (vr 1)) (dop ixD (Bd fld "order" (vr 0)) (vr 1))))
 (Ae (fun loc mh=>some (.rt .non,loc,mh))
  Zn)
 Zn)
 (Ae (Ay (lstM (Zr [])) (Bj 2))
 (Ae (Hu (Am (dop (inD true) (vr 1) (Bd fld "tied" (vr 0))))
 (Ae (Ca (Bg "list" Bo (vr 2) (Aa (Bg "list" Qo (Bd fld "loose" (vr 0)) (Zr [])) (Zr []))))
  (Ae (Ay (Zr (.bl true)) (Dc (Bd fld "tied" (vr 0)) (dop ixD (vr 2) (Uj (Zr (.int 1))))))
  Zn)))
 (Ae (Ca (Bg "list" Bo (Bd fld "found" (vr 0)) (Aa (Bt Bv (Aa (vr 2) (Zr []))) (Zr []))))
 Zn))))
theorem Yq (k:Nat):Bq Ny k=Rn k:=by kernel_rfl
section
variable (E:Nat->List Nat)
inductive Rc:Nat->Nat->Prop
 | refl (u:Nat):Rc u u
 | step {u v w:Nat}:Rc u v->w∈E v->Rc u w
theorem Rc.trans {u v w:Nat}(h:Rc E u v) (k:Rc E v w):Rc E u w:=by
 induction k with
 | refl=>exact h
 | step _ e ih=>exact .step ih e
theorem Rc.one {u v:Nat}(h:v∈E u):Rc E u v:=.step (.refl u) h
noncomputable abbrev Fr:=Nat×Nat×List Nat
noncomputable def Ai:List Fr->List Nat
 | []=>[]
 | (v,_,R)::b=>Ai b++v::R
noncomputable def EOk (O S T:List Nat) (low:Nat->Nat) (u t:Nat):Prop:=t∈T\/(t∈S/\low u<=O.idxOf t)
noncomputable def Uu (O S T:List Nat) (low:Nat->Nat):List Nat->List Fr->Prop
 | _,[]=>True
 | A,(v,i,R)::b=>(i<=(E v).length/\(∀ u∈R++A,Rc E v u)/\(∀ t∈(E v).take i,EOk O S T low v t\/A.head?=some t)/\∀ u∈R,low u < O.idxOf u/\low v<=low u/\∀ t∈E u,EOk O S T low u t)/\Uu O S T low (v::R++A) b
structure KGrp (G:List (List Nat)) (T:List Nat):Prop where
 nd:G.flatten.Nodup
 mem:∀ u,u∈G.flatten ↔ u∈T
 ne:∀ g∈G,g≠[]
 rc:∀ g∈G,∀ u∈g,∀ w∈g,Rc E u w
 ed:∀ (k:Nat) (g:List Nat),G[k]?=some g->∀ u∈g,∀ t∈E u,∃ (j:Nat) (g':List Nat),j<=k/\G[j]?=some g'/\t∈g'
structure TInv (n:Nat) (O T:List Nat) (low:Nat->Nat) (G:List (List Nat)) (fr:List Fr):Prop where
 nd:O.Nodup
 sub:(Ai fr).Sublist O
 cov:∀ u,u∈O ↔ u∈Ai fr\/u∈T
 dis:∀ u∈Ai fr,u ∉ T
 lt:∀ u∈O,u < n
 lo:∀ u∈Ai fr,low u<=O.idxOf u/\∃ w∈Ai fr,O.idxOf w=low u/\Rc E u w
 fr:Uu E O (Ai fr) T low [] fr
 grp:KGrp E G T
end
section
variable {E:Nat->List Nat}
theorem M5 {O:List Nat}(nd:O.Nodup) {S:List Nat}(h:S.Sublist O):S.Pairwise fun a b=>O.idxOf a < O.idxOf b:=by
 have:O.Pairwise fun a b=>O.idxOf a < O.idxOf b:=List.pairwise_iff_getElem.mpr fun i j hi hj hij=>by
  rw [gK nd hi,gK nd hj];exact hij
 exact this.sublist h
theorem Ro {O:List Nat}{u t:Nat}(h:u∈O):(O++[t]).idxOf u=O.idxOf u:=by rw [List.idxOf_append,if_pos h]
theorem Ky {O:List Nat}{t:Nat}(h:t ∉ O):(O++[t]).idxOf t=O.length:=by
 rw [List.idxOf_append,if_neg h];simp
theorem Yr {O a:List Nat}{v:Nat}{R:List Nat}(nd:O.Nodup) (h:(a++v::R).Sublist O) {w:Nat}(hw:w∈a++v::R) (hl:O.idxOf v<=O.idxOf w):w∈v::R:=by
 have p:=M5 nd h;rw [List.pairwise_append] at p;rcases List.mem_append.mp hw with q|q
 ·have:=p.2.2 w q v List.mem_cons_self;omega
 ·exact q
theorem oO {O a:List Nat}{v:Nat}{R:List Nat}(nd:O.Nodup) (h:(a++v::R).Sublist O) {w:Nat}(hw:w∈a++v::R) (hl:O.idxOf w < O.idxOf v):w∈a:=by
 have p:=M5 nd h;rw [List.pairwise_append,List.pairwise_cons] at p;rcases List.mem_append.mp hw with q|q
 ·exact q
 ·rcases List.mem_cons.mp q with rfl|q
  ·omega
  ·have:=p.2.1.1 w q;omega
theorem Uu.mono {O O' S S' T T':List Nat}{low low':Nat->Nat}:∀ {A:List Nat}{b:List Fr},Uu E O S T low A b->(∀ u∈Ai b,low' u=low u/\O'.idxOf u=O.idxOf u)->(∀ u∈Ai b,∀ t,EOk O S T low u t->EOk O' S' T' low' u t)->Uu E O' S' T' low' A b
 | _,[],_,_,_=>trivial
 | A,(v,i,R)::b,⟨⟨h1,h2,h3,h4⟩,h5⟩,hl,he=>by
  have mv:v∈Ai ((v,i,R)::b):=List.mem_append.mpr (.inr List.mem_cons_self);have mR:∀ u∈R,u∈Ai ((v,i,R)::b):=fun u hu=>List.mem_append.mpr (.inr (List.mem_cons_of_mem _ hu))
  refine ⟨⟨h1,h2,fun t ht=>(h3 t ht).imp_left (he v mv t),fun u hu=>?_⟩,h5.mono (fun u hu=>hl u (List.mem_append.mpr (.inl hu))) fun u hu=>he u (List.mem_append.mpr (.inl hu))⟩;obtain ⟨a1,a2,a3⟩:=h4 u hu;have q:=hl u (mR u hu);rw [q.1,q.2,(hl v mv).1];exact ⟨a1,a2,fun t ht=>he u (mR u hu) t (a3 t ht)⟩
theorem Uu.above {O S T:List Nat}{low:Nat->Nat}:∀ {A A':List Nat}{b:List Fr},Uu E O S T low A b->(∀ u∈A',∃ w∈A,Rc E w u)->A'.head?=A.head?->Uu E O S T low A' b
 | _,_,[],_,_,_=>trivial
 | A,A',(v,i,R)::b,⟨⟨h1,h2,h3,h4⟩,h5⟩,hs,hh=>by
  refine ⟨⟨h1,fun u hu=>?_,fun t ht=>by rw [hh];exact h3 t ht,h4⟩,h5.above (fun u hu=>?_) rfl⟩
  ·rcases List.mem_append.mp hu with q|q
   ·exact h2 u (List.mem_append.mpr (.inl q))
   ·obtain ⟨w,hw,r⟩:=hs u q;exact (h2 w (List.mem_append.mpr (.inr hw))).trans E r
  ·rcases List.mem_append.mp hu with q|q
   ·exact ⟨u,List.mem_append.mpr (.inl q),.refl u⟩
   ·obtain ⟨w,hw,r⟩:=hs u q;exact ⟨w,List.mem_append.mpr (.inr hw),r⟩
theorem TInv.start {n:Nat}{O T:List Nat}{low:Nat->Nat}{G:List (List Nat)}(I:TInv E n O T low G []) {s:Nat}(hs:s ∉ O) (hn:s < n):TInv E n (O++[s]) T (fun u=>if u=s then O.length else low u) G [(s,0,[])]:=by
 have e1:=Ky hs;have cv:∀ u,u∈O ↔ u∈T:=fun u=>by
  have:=I.cov u
  simpa [Ai] using this
 refine ⟨?_,?_,fun u=>?_,fun u hu=>?_,fun u hu=>?_,fun u hu=>?_,⟨⟨Nat.zero_le _,fun u hu=>(by cases hu),fun t ht=>(by simp at ht),fun u hu=>(by cases hu)⟩,trivial⟩,I.grp⟩
 ·rw [List.nodup_append];exact ⟨I.nd,List.pairwise_singleton _ _,fun a ha b hb z=>hs (by rw [← List.mem_singleton.mp hb,← z];exact ha)⟩
 ·exact List.sublist_append_right O [s]
 ·rw [List.mem_append,cv u];show u∈T\/u∈[s] ↔ u∈[s]\/u∈T;exact Or.comm
 ·rw [List.mem_singleton.mp hu];exact fun z=>hs ((cv s).mpr z)
 ·rcases List.mem_append.mp hu with q|q
  ·exact I.lt u q
  ·rw [List.mem_singleton.mp q];exact hn
 ·have hu:u=s:=List.mem_singleton.mp hu;subst hu;rw [if_pos rfl,e1];exact ⟨Nat.le_refl _,u,List.mem_singleton.mpr rfl,e1,.refl u⟩
section
variable {n:Nat}{O T:List Nat}{low:Nat->Nat}{G:List (List Nat)}{b:List Fr}{v i:Nat}{R:List Nat}
theorem TInv.come (I:TInv E n O T low G ((v,i,R)::b)) {t:Nat}(et:(E v)[i]?=some t) (ht:t ∉ O) (hn:t < n):TInv E n (O++[t]) T (fun u=>if u=t then O.length else low u) G ((t,0,[])::(v,i+1,R)::b):=by
 have e1:=Ky ht;have so:∀ u,u∈Ai ((v,i,R)::b)->u∈O:=fun u hu=>(I.cov u).mpr (.inl hu)
 have S':Ai ((t,0,[])::(v,i+1,R)::b)=Ai ((v,i,R)::b)++[t]:=rfl;have tE:t∈E v:=List.mem_of_getElem? et;have il:i < (E v).length:=(List.getElem?_eq_some_iff.mp et).1;have ll:∀ u∈Ai ((v,i,R)::b),(if u=t then O.length else low u)=low u/\(O++[t]).idxOf u=O.idxOf u:=fun u hu=>⟨if_neg fun z=>ht (by rw [← z];exact so u hu),Ro (so u hu)⟩
 have ee:∀ u∈Ai ((v,i,R)::b),∀ x,EOk O (Ai ((v,i,R)::b)) T low u x->EOk (O++[t]) (Ai ((v,i,R)::b)++[t]) T (fun u=>if u=t then O.length else low u) u x:=fun u hu x h=>by
  rcases h with h|⟨h1,h2⟩
  ·exact .inl h
  ·refine .inr ⟨List.mem_append.mpr (.inl h1),?_⟩;dsimp only;rw [(ll u hu).1,Ro (so x h1)];exact h2
 obtain ⟨⟨f1,f2,f3,f4⟩,f5⟩:=I.fr;refine ⟨?_,?_,fun u=>?_,fun u hu=>?_,fun u hu=>?_,fun u hu=>?_,⟨⟨Nat.zero_le _,fun u hu=>(by cases hu),fun x hx=>(by simp at hx),fun u hu=>(by cases hu)⟩,?_⟩,I.grp⟩
 ·rw [List.nodup_append];exact ⟨I.nd,List.pairwise_singleton _ _,fun a ha b hb z=>ht (by rw [← List.mem_singleton.mp hb,← z];exact ha)⟩
 ·rw [S'];exact List.Sublist.append I.sub (List.Sublist.refl _)
 ·rw [S',List.mem_append,I.cov u,List.mem_append];constructor
  ·rintro ((q | q) | q)
   ·exact .inl (.inl q)
   ·exact .inr q
   ·exact .inl (.inr q)
  ·rintro ((q | q) | q)
   ·exact .inl (.inl q)
   ·exact .inr q
   ·exact .inl (.inr q)
 ·rw [S'] at hu;rcases List.mem_append.mp hu with q|q
  ·exact I.dis u q
  ·rw [List.mem_singleton.mp q];exact fun z=>ht ((I.cov t).mpr (.inr z))
 ·rcases List.mem_append.mp hu with q|q
  ·exact I.lt u q
  ·rw [List.mem_singleton.mp q];exact hn
 ·rw [S'] at hu ⊢;rcases List.mem_append.mp hu with q|q
  ·obtain ⟨a1,w,a2,a3,a4⟩:=I.lo u q;rw [(ll u q).1,(ll u q).2];exact ⟨a1,w,List.mem_append.mpr (.inl a2),by rw [(ll w a2).2];exact a3,a4⟩
  ·have q:u=t:=List.mem_singleton.mp q;subst q;rw [if_pos rfl,e1];exact ⟨Nat.le_refl _,u,List.mem_append.mpr (.inr (List.mem_singleton.mpr rfl)),e1,.refl u⟩
 ·rw [S'];have mv:v∈Ai ((v,i,R)::b):=List.mem_append.mpr (.inr List.mem_cons_self);refine ⟨⟨il,fun u hu=>?_,fun x hx=>?_,fun u hu=>?_⟩,?_⟩
  ·rcases List.mem_append.mp hu with q|q
   ·exact f2 u (List.mem_append.mpr (.inl q))
   ·have q:u=t:=by simpa using q
    rw [q];exact Rc.one E tE
  ·rw [List.take_add_one,et] at hx;rcases List.mem_append.mp hx with q|q
   ·rcases f3 x q with h|h
    ·exact .inl (ee v mv x h)
    ·cases h
   ·have q:x=t:=by simpa using q
    rw [q];exact .inr rfl
  ·have mu:u∈Ai ((v,i,R)::b):=List.mem_append.mpr (.inr (List.mem_cons_of_mem _ hu));obtain ⟨a1,a2,a3⟩:=f4 u hu;dsimp only;rw [(ll u mu).1,(ll u mu).2,(ll v mv).1];exact ⟨a1,a2,fun x hx=>ee u mu x (a3 x hx)⟩
  ·have f6:=f5.mono (O':=O++[t]) (S':=Ai ((v,i,R)::b)++[t]) (T':=T) (low':=fun u=>if u=t then O.length else low u) (fun u hu=>ll u (List.mem_append.mpr (.inl hu))) fun u hu=>ee u (List.mem_append.mpr (.inl hu))
   refine f6.above (fun u hu=>?_) rfl;rcases List.mem_append.mp hu with q|q
   ·exact ⟨u,List.mem_append.mpr (.inl q),.refl u⟩
   ·have q:u=t:=by simpa using q
    rw [q];exact ⟨v,List.mem_cons_self,Rc.one E tE⟩
end
end
section
variable {E:Nat->List Nat}{n:Nat}{O T:List Nat}{low:Nat->Nat}{G:List (List Nat)}{b:List Fr}{v i:Nat}{R:List Nat}
theorem TInv.snd (I:TInv E n O T low G b):(Ai b).Nodup:=I.nd.sublist I.sub
theorem TInv.apart (I:TInv E n O T low G ((v,i,R)::b)):v ∉ Ai b/\v ∉ R:=by
 have h:(Ai b++v::R).Nodup:=I.snd;rw [List.nodup_append,List.nodup_cons] at h;exact ⟨fun z=>h.2.2 v z v List.mem_cons_self rfl,h.2.1.1⟩
theorem TInv.edgeT (I:TInv E n O T low G ((v,i,R)::b)) {t:Nat}(et:(E v)[i]?=some t) (ht:t∈T):TInv E n O T low G ((v,i+1,R)::b):=by
 obtain ⟨⟨f1,f2,f3,f4⟩,f5⟩:=I.fr;have il:i < (E v).length:=(List.getElem?_eq_some_iff.mp et).1;refine ⟨I.nd,I.sub,I.cov,I.dis,I.lt,I.lo,⟨⟨il,f2,fun x hx=>?_,f4⟩,f5⟩,I.grp⟩;rw [List.take_add_one,et] at hx;rcases List.mem_append.mp hx with q|q
 ·exact f3 x q
 ·have q:x=t:=by simpa using q
  rw [q];exact .inl (.inl ht)
theorem TInv.edgeL (I:TInv E n O T low G ((v,i,R)::b)) {t:Nat}(et:(E v)[i]?=some t) (ht:t∈O) (hT:t ∉ T):TInv E n O T (fun u=>if u=v then min (low v) (O.idxOf t) else low u) G ((v,i+1,R)::b):=by
 obtain ⟨⟨f1,f2,f3,f4⟩,f5⟩:=I.fr;have il:i < (E v).length:=(List.getElem?_eq_some_iff.mp et).1;have tE:t∈E v:=List.mem_of_getElem? et;have tS:t∈Ai ((v,i,R)::b):=((I.cov t).mp ht).resolve_right hT;obtain ⟨vb,vR⟩:=I.apart;have lv:(if v=v then min (low v) (O.idxOf t) else low v)=min (low v) (O.idxOf t):=if_pos rfl;have le:min (low v) (O.idxOf t)<=low v:=Nat.min_le_left _ _;have e1:∀ u,u≠v->∀ x,EOk O (Ai ((v,i,R)::b)) T low u x->EOk O (Ai ((v,i,R)::b)) T (fun u=>if u=v then min (low v) (O.idxOf t) else low u) u x:=fun u hu x h=>by
  rcases h with h|⟨h1,h2⟩
  ·exact .inl h
  ·exact .inr ⟨h1,by dsimp only;rw [if_neg hu];exact h2⟩
 refine ⟨I.nd,I.sub,I.cov,I.dis,I.lt,fun u hu=>?_,⟨⟨il,f2,fun x hx=>?_,fun u hu=>?_⟩,?_⟩,I.grp⟩
 ·obtain ⟨a1,w,a2,a3,a4⟩:=I.lo u hu
  by_cases z:u=v
  ·subst z;rw [if_pos rfl];refine ⟨Nat.le_trans le a1,?_⟩;rcases Nat.le_total (low u) (O.idxOf t) with q|q
   ·rw [Nat.min_eq_left q];exact ⟨w,a2,a3,a4⟩
   ·rw [Nat.min_eq_right q];exact ⟨t,tS,rfl,Rc.one E tE⟩
  ·rw [if_neg z];exact ⟨a1,w,a2,a3,a4⟩
 ·rw [List.take_add_one,et] at hx;rcases List.mem_append.mp hx with q|q
  ·rcases f3 x q with (h|⟨h1,h2⟩)|h
   ·exact .inl (.inl h)
   ·exact .inl (.inr ⟨h1,by dsimp only;rw [if_pos rfl];omega⟩)
   ·exact .inr h
  ·have q:x=t:=by simpa using q
   rw [q];exact .inl (.inr ⟨tS,by dsimp only;rw [if_pos rfl];exact Nat.min_le_right _ _⟩)
 ·have uv:u≠v:=fun z=>vR (by rw [← z];exact hu)
  obtain ⟨a1,a2,a3⟩:=f4 u hu;dsimp only;rw [if_neg uv,if_pos rfl];exact ⟨a1,Nat.le_trans le a2,fun x hx=>e1 u uv x (a3 x hx)⟩
 ·exact f5.mono (fun u hu=>⟨if_neg fun z=>vb (by rw [← z];exact hu),rfl⟩) fun u hu=>e1 u fun z=>vb (by rw [← z];exact hu)
theorem TInv.stay {p j:Nat}{Q:List Nat}(I:TInv E n O T low G ((v,i,R)::(p,j,Q)::b)) (hi:i=(E v).length) (hl:low v≠O.idxOf v):TInv E n O T (fun u=>if u=p then min (low p) (low v) else low u) G ((p,j,Q++v::R)::b):=by
 obtain ⟨⟨f1,f2,f3,f4⟩,⟨g1,g2,g3,g4⟩,g5⟩:=I.fr;have eS:Ai ((p,j,Q++v::R)::b)=Ai ((v,i,R)::(p,j,Q)::b):=by
  show Ai b++p::(Q++v::R)=(Ai b++p::Q)++v::R;rw [List.append_assoc];rfl
 have nd:((Ai b++p::Q)++v::R).Nodup:=I.snd;have pS:p∈Ai ((v,i,R)::(p,j,Q)::b):=List.mem_append.mpr (.inl (List.mem_append.mpr (.inr List.mem_cons_self)));have vS:v∈Ai ((v,i,R)::(p,j,Q)::b):=List.mem_append.mpr (.inr List.mem_cons_self);rw [List.nodup_append,List.nodup_append,List.nodup_cons] at nd;have pQ:p ∉ Q:=nd.1.2.1.1;have pb:p ∉ Ai b:=fun z=>nd.1.2.2 p z p List.mem_cons_self rfl
 have pV:∀ u∈v::R,u≠p:=fun u hu z=>nd.2.2 p (List.mem_append.mpr (.inr List.mem_cons_self)) u hu z.symm
 have lm:min (low p) (low v)<=low p:=Nat.min_le_left _ _;have lv:min (low p) (low v)<=low v:=Nat.min_le_right _ _;have lov:=(I.lo v vS).1;have pv:Rc E p v:=g2 v (List.mem_append.mpr (.inr List.mem_cons_self));have e1:∀ u,u≠p->∀ x,EOk O (Ai ((v,i,R)::(p,j,Q)::b)) T low u x->EOk O (Ai ((v,i,R)::(p,j,Q)::b)) T (fun u=>if u=p then min (low p) (low v) else low u) u x:=fun u hu x h=>by
  rcases h with h|⟨h1,h2⟩
  ·exact .inl h
  ·exact .inr ⟨h1,by dsimp only;rw [if_neg hu];exact h2⟩
 refine ⟨I.nd,by rw [eS];exact I.sub,fun u=>by rw [eS];exact I.cov u,fun u hu=>I.dis u (by rw [← eS];exact hu),I.lt,fun u hu=>?_,?_,I.grp⟩
 ·rw [eS] at hu ⊢;obtain ⟨a1,w,a2,a3,a4⟩:=I.lo u hu
  by_cases z:u=p
  ·subst z;rw [if_pos rfl];refine ⟨Nat.le_trans lm a1,?_⟩;rcases Nat.le_total (low u) (low v) with q|q
   ·rw [Nat.min_eq_left q];exact ⟨w,a2,a3,a4⟩
   ·rw [Nat.min_eq_right q];obtain ⟨_,w',b2,b3,b4⟩:=I.lo v vS;exact ⟨w',b2,b3,pv.trans E b4⟩
  ·rw [if_neg z];exact ⟨a1,w,a2,a3,a4⟩
 ·rw [eS];refine ⟨⟨g1,fun u hu=>?_,fun x hx=>?_,fun u hu=>?_⟩,?_⟩
  ·rw [List.append_nil] at hu;rcases List.mem_append.mp hu with q|q
   ·exact g2 u (List.mem_append.mpr (.inl q))
   ·refine g2 u (List.mem_append.mpr (.inr ?_));rw [List.append_nil];exact q
  ·rcases g3 x hx with (h|⟨h1,h2⟩)|h
   ·exact .inl (.inl h)
   ·exact .inl (.inr ⟨h1,by dsimp only;rw [if_pos rfl];omega⟩)
   ·have h:v=x:=by
     have h:some v=some x:=h;injection h
    subst h;exact .inl (.inr ⟨vS,by dsimp only;rw [if_pos rfl];omega⟩)
  ·rcases List.mem_append.mp hu with q|q
   ·have up:u≠p:=fun z=>pQ (by rw [← z];exact q)
    obtain ⟨a1,a2,a3⟩:=g4 u q;dsimp only;rw [if_neg up,if_pos rfl];exact ⟨a1,Nat.le_trans lm a2,fun x hx=>e1 u up x (a3 x hx)⟩
   ·have up:=pV u q;dsimp only;rw [if_neg up,if_pos rfl];rcases List.mem_cons.mp q with rfl|q
    ·refine ⟨by omega,lv,fun x hx=>e1 u up x ?_⟩;rcases f3 x (by rw [hi,List.take_length];exact hx) with h | h
     ·exact h
     ·cases h
    ·obtain ⟨a1,a2,a3⟩:=f4 u q;exact ⟨a1,Nat.le_trans lv a2,fun x hx=>e1 u up x (a3 x hx)⟩
  ·have g6:=g5.mono (O':=O) (S':=Ai ((v,i,R)::(p,j,Q)::b)) (T':=T) (low':=fun u=>if u=p then min (low p) (low v) else low u) (fun u hu=>⟨if_neg fun z=>pb (by rw [← z];exact hu),rfl⟩) fun u hu=>e1 u fun z=>pb (by rw [← z];exact hu)
   refine g6.above (fun u hu=>⟨u,?_,.refl u⟩) rfl;rw [List.append_nil] at hu ⊢;rcases List.mem_cons.mp hu with q|q
   ·rw [q];exact List.mem_cons_self
   ·rcases List.mem_append.mp q with q|q
    ·exact List.mem_cons_of_mem _ (List.mem_append.mpr (.inl q))
    ·exact List.mem_cons_of_mem _ (List.mem_append.mpr (.inr q))
theorem TInv.knot (I:TInv E n O T low G ((v,i,R)::b)) (hl:low v=O.idxOf v):∀ (m u:Nat),O.idxOf u=m->u∈v::R->Rc E u v
 | m,u,e,hu=>by
  rcases List.mem_cons.mp hu with rfl|hu'
  ·exact .refl u
  ·obtain ⟨⟨_,_,_,f4⟩,_⟩:=I.fr;obtain ⟨a1,a2,_⟩:=f4 u hu';obtain ⟨_,w,b2,b3,b4⟩:=I.lo u (List.mem_append.mpr (.inr hu));have hw:w∈v::R:=Yr I.nd I.sub b2 (by omega);exact b4.trans E (I.knot hl (O.idxOf w) w rfl hw)
termination_by m=>m
decreasing_by omega
theorem TInv.tie (I:TInv E n O T low G ((v,i,R)::b)) (hi:i=(E v).length) (hl:low v=O.idxOf v) {K:List Nat}(hK:K.Perm (v::R)):TInv E n O (T++(v::R).reverse) low (G++[K]) b:=by
 obtain ⟨⟨f1,f2,f3,f4⟩,f5⟩:=I.fr;have km:∀ u,u∈K ↔ u∈v::R:=fun u=>hK.mem_iff
 have nd:(Ai b++v::R).Nodup:=I.snd;rw [List.nodup_append] at nd;have sub:(Ai b).Sublist O:=(List.sublist_append_left _ _).trans I.sub;have tm:∀ u,u∈T++(v::R).reverse ↔ u∈T\/u∈v::R:=fun u=>by rw [List.mem_append,List.mem_reverse]
 have spl:∀ u,u∈Ai ((v,i,R)::b) ↔ u∈Ai b\/u∈v::R:=fun u=>List.mem_append
 have ek:∀ u∈v::R,∀ t∈E u,t∈T\/t∈v::R:=fun u hu t ht=>by
  have ok:EOk O (Ai ((v,i,R)::b)) T low u t/\low v<=low u:=by
   rcases List.mem_cons.mp hu with rfl|hu'
   ·rcases f3 t (by rw [hi,List.take_length];exact ht) with h | h
    ·exact ⟨h,Nat.le_refl _⟩
    ·cases h
   ·obtain ⟨_,a2,a3⟩:=f4 u hu';exact ⟨a3 t ht,a2⟩
  rcases ok.1 with h|⟨h1,h2⟩
  ·exact .inl h
  ·exact .inr (Yr I.nd I.sub h1 (by have:=ok.2;omega))
 refine ⟨I.nd,sub,fun u=>?_,fun u hu z=>?_,I.lt,fun u hu=>?_,?_,⟨?_,fun u=>?_,fun g hg=>?_,fun g hg u hu w hw=>?_,fun k g hg u hu t ht=>?_⟩⟩
 ·rw [I.cov u,tm u,spl u];constructor
  ·rintro ((q | q) | q)
   ·exact .inl q
   ·exact .inr (.inr q)
   ·exact .inr (.inl q)
  ·rintro (q | q | q)
   ·exact .inl (.inl q)
   ·exact .inr q
   ·exact .inl (.inr q)
 ·rcases (tm u).mp z with q|q
  ·exact I.dis u ((spl u).mpr (.inl hu)) q
  ·exact nd.2.2 u hu u q rfl
 ·obtain ⟨a1,w,a2,a3,a4⟩:=I.lo u ((spl u).mpr (.inl hu));have p:=M5 I.nd I.sub;have p:(Ai b++v::R).Pairwise fun a c=>O.idxOf a < O.idxOf c:=p
  rw [List.pairwise_append] at p;have uv:=p.2.2 u hu v List.mem_cons_self;exact ⟨a1,w,oO I.nd I.sub a2 (by omega),a3,a4⟩
 ·have f6:=f5.mono (O':=O) (S':=Ai b) (T':=T++(v::R).reverse) (low':=low) (fun u hu=>⟨rfl,rfl⟩) fun u hu t h=>by
   rcases h with h|⟨h1,h2⟩
   ·exact .inl ((tm t).mpr (.inl h))
   ·rcases (spl t).mp h1 with q|q
    ·exact .inr ⟨q,h2⟩
    ·exact .inl ((tm t).mpr (.inr q))
  cases b with
  | nil=>trivial
  | cons fr b =>
   obtain ⟨p,j,Q⟩:=fr;obtain ⟨⟨g1,g2,g3,g4⟩,g5⟩:=f6;refine ⟨⟨g1,fun u hu=>g2 u (List.mem_append.mpr (.inl (by rw [List.append_nil] at hu;exact hu))),fun t ht=>?_,g4⟩,g5.above (fun u hu=>⟨u,?_,.refl u⟩) rfl⟩
   ·rcases g3 t ht with h|h
    ·exact .inl h
    ·have h:v=t:=by
      have h:some v=some t:=h;injection h
     exact .inl (.inl ((tm t).mpr (.inr (by rw [← h];exact List.mem_cons_self))))
   ·rw [List.append_nil] at hu;exact List.mem_append.mpr (.inl hu)
 ·rw [List.flatten_append,List.nodup_append];refine ⟨I.grp.nd,?_,fun a ha c hc z=>?_⟩
  ·rw [List.flatten_singleton];exact hK.nodup_iff.mpr nd.2.1
  ·rw [List.flatten_singleton,km c] at hc;rw [I.grp.mem a,z] at ha;exact I.dis c ((spl c).mpr (.inr hc)) ha
 ·rw [List.flatten_append,List.mem_append,List.flatten_singleton,I.grp.mem u,km u,tm u]
 ·rcases List.mem_append.mp hg with q|q
  ·exact I.grp.ne g q
  ·rw [List.mem_singleton.mp q];intro z;have:=hK.length_eq;rw [z] at this;simp at this
 ·rcases List.mem_append.mp hg with q|q
  ·exact I.grp.rc g q u hu w hw
  ·rw [List.mem_singleton.mp q] at hu hw;have hu:=(km u).mp hu;have hw:=(km w).mp hw;have vw:Rc E v w:=by
    rcases List.mem_cons.mp hw with z|z
    ·rw [z];exact .refl v
    ·exact f2 w (List.mem_append.mpr (.inl z))
   exact (I.knot hl _ u rfl hu).trans E vw
 ·rcases Nat.lt_or_ge k G.length with q|q
  ·rw [List.getElem?_append_left q] at hg;obtain ⟨j,g',a1,a2,a3⟩:=I.grp.ed k g hg u hu t ht;exact ⟨j,g',a1,by rw [List.getElem?_append_left (by omega)];exact a2,a3⟩
  ·rw [List.getElem?_append_right q] at hg;have k0:k - G.length=0:=by
    have:=(List.getElem?_eq_some_iff.mp hg).1;simp at this;omega
   rw [k0] at hg;have hg:K=g:=by
    have hg:some K=some g:=hg;injection hg
   subst hg;rcases ek u ((km u).mp hu) t ht with h|h
   ·obtain ⟨g',h1,h2⟩:=List.mem_flatten.mp ((I.grp.mem t).mpr h);obtain ⟨j,hj,e⟩:=List.getElem_of_mem h1;exact ⟨j,g',by omega,by rw [List.getElem?_append_left hj,List.getElem?_eq_getElem hj,e],h2⟩
   ·exact ⟨k,K,Nat.le_refl _,by rw [List.getElem?_append_right q,k0];rfl,(km t).mpr h⟩
theorem TInv.last (I:TInv E n O T low G [(v,i,R)]):low v=O.idxOf v:=by
 have vS:v∈Ai [(v,i,R)]:=List.mem_append.mpr (.inr List.mem_cons_self);obtain ⟨a1,w,a2,a3,_⟩:=I.lo v vS;have p:=M5 I.nd I.sub;have p:(v::R).Pairwise fun a c=>O.idxOf a < O.idxOf c:=p
 rw [List.pairwise_cons] at p;have a2:w∈v::R:=a2;rcases List.mem_cons.mp a2 with z|z
 ·rw [← a3,z]
 ·have:=p.1 w z;omega
end
local macro_rules | `(tactic| walk_at "s") => `(tactic| with_reducible first | refine Dm ?_ | refine Gh ?_ | refine vX ?_ | refine oE ?_ | refine Aao ?_ | refine Gv ?_ | refine Ce ?_ | refine nZ ?_ | refine Yi (by with_unfolding_all rfl) ?_ | refine Eb ?_ | refine Aam ?_ | refine nR ?_ | refine vL ?_ | refine vM ?_ | refine vN ?_ | refine vP ?_ | refine vQ ?_ | refine Wj ?_ | refine oJ ?_ | refine wJ ?_ | refine Yj ?_ | refine vU ?_ | refine nT ?_ | refine nU ?_ | refine vV ?_ | refine nW ?_ | refine nY ?_ | refine Aan ?_ | refine gD ?_ | refine Wk ?_ | refine Rf ?_ | refine Cu ?_ | refine vY ?_ | refine Yk ?_ | refine wN ?_ | refine Ri ?_ | refine gH ?_ | refine Jj (by with_unfolding_all rfl) ?_ | refine Fb (by with_unfolding_all rfl) ?_ | refine wO ?_ | refine wC ?_ | refine wB ?_ | refine oG ?_ | refine wF ?_ | refine wH ?_ | refine gJ (by with_unfolding_all rfl) (by with_unfolding_all rfl) ?_)
local macro_rules | `(tactic| walk_at "r") => `(tactic| repeat walk_at "s")
theorem G8 {ds:List D}{q:Prop}(h:ds.length<=1000000) (hq:q):ds.length<=1000000/\q:=⟨h,hq⟩
theorem Ck {h:MH}{j:Nat}{o:MO}(e:h[j]?=some o):j < h.length:=(List.getElem?_eq_some_iff.mp e).1
theorem Ys (i:Int) {j:Int}(h:0 < j):0<=i.fmod j:=Int.fmod_nonneg_of_pos i h
theorem Yt (i:Int) {j:Int}(h:0 < j):i.fmod j < j:=Int.fmod_lt_of_pos i h
theorem Rp (i:Int) (n:Nat) (h:0 < n):∃ r:Nat,r < n/\i.fmod (n:Int)=(r:Int):=by
 have l1:=Ys i (j:=(n:Int)) (by omega);have l2:=Yt i (j:=(n:Int)) (by omega);exact ⟨(i.fmod n).toNat,by omega,by omega⟩
theorem gZ {h:MH}{j:Nat}{ds:List D}(e:h[j]?=some (.lst ds)):Ff (.ref j) h=some ds:=by
 show (match h[j]? with | some (.lst o)=>some o | _=>none)=_;rw [e]
theorem M6 (n:Nat):Br 0 n=(List.range n).map Ad:=List.map_congr_left fun x _=>by show D.int (0+(x:Int))=D.int (x:Int);rw [Int.zero_add]
theorem Fd {m:Nat}(h:m<=1000000):Hi [.int m]=some (.seq ((List.range m).map Ad)):=by rw [fZ h,M6]
theorem Ac {mh:MH}{i j:Nat}{o x:MO}(e:mh[i]?=some x) (h:j≠i):(mh.set j o)[i]?=some x:=by rw [List.getElem?_set_ne h];exact e
theorem Bl {mh:MH}{i:Nat}{o x:MO}(e:mh[i]?=some x):(mh.set i o)[i]?=some o:=by
 obtain ⟨h,_⟩:=List.getElem?_eq_some_iff.mp e;rw [List.getElem?_set_self h]
theorem G9 {P:D->MH->Prop}{d:D}{l:DL.Loc}{h:MH}(q:P d h):gF P (.rt d) l h:=q
theorem Kz {P:D->MH->Prop}{l:DL.Loc}{h:MH}(q:P .non h):gF P .nx l h:=q
theorem Hf {ms:DM Src}{g:GM}{body:SM}{l0:DL.Loc}{mh:MH}{K:Fl->DL.Loc->MH->Prop}{α:Type}(xs:List α) (G:α->D) (J:Nat->DL.Loc->MH->Prop)
  (hm:wD ms l0 mh fun src h0=>src=.seq (xs.map G)/\J 0 l0 h0)
  (step:∀ i x l h,xs[i]?=some x->J i l h->wG (g (G x) l h) fun l1 h1=>wS body l1 h1 (wA (J (i+1)) K)) (fin:∀ l h,J xs.length l h->K .nx l h):wS (Hj ms g body) l0 mh K:=by
 refine Rg (Ao hm ?_);rintro src h0 ⟨rfl,j0⟩;refine ⟨xs.map G,J,j0,fun _ _ _ _=>⟨rfl,rfl⟩,fun i d l h ed j=>?_,fun l h j=>fin l h (by rw [List.length_map] at j;exact j)⟩;rw [List.getElem?_map] at ed;obtain ⟨x,ex,rfl⟩:=Option.map_eq_some_iff.mp ed;exact step i x l h ex j
theorem Rq {n:Nat}{xs:List D}{x:D}{mh:MH}{P:D->MH->Prop}(e:mh[n]?=some (.lst (xs++[x]))) (h:P x (mh.set n (.lst xs))):wV (Qo (.ref n) [] mh) P:=by
 refine ⟨_,_,?_,h⟩;have e2:(xs++[x])[(xs++[x]).length - 1]?=some x:=by simp
 show (match mh[n]? with | some (.lst ds)=>(match ds[ds.length - 1]? with | some y=>some (y,mh.set n (.lst ds.dropLast)) | none=>none) | _=>none)=_;rw [e];dsimp only;rw [e2,List.dropLast_concat]
theorem Rr {n:Nat}{ds:List D}{d:D}{mh:MH}{P:D->MH->Prop}(e1:mh[n]?=some (.lst (ds++[d]))) (h:P d mh):wV (ixD (.ref n) (.int (-1)) mh) P:=by
 refine ⟨d,mh,?_,h⟩;have ea:atI (ds++[d]) (-1)=some d:=by
  unfold atI ixN;have hl:(ds++[d]).length=ds.length+1:=by simp
  rw [if_neg (by decide),if_pos (by omega)];show (ds++[d])[(-1+((ds++[d]).length:Int)).toNat]?=_;have:(-1+((ds++[d]).length:Int)).toNat=ds.length:=by omega
  rw [this];simp
 simp only [ixD,O7 e1,Zh,Ff,e1,ea]
theorem Dv {n:Nat}{ds:List D}{mh:MH}{P:D->MH->Prop}(e:mh[n]?=some (.lst ds)) (h:P (.int ds.length) mh):wV (Ft [.ref n] mh) P:=gG (by intro z z';cases z') (gZ e) h
theorem oR {n:Nat}{kvs:List (Key×D)}{mh:MH}{P:D->MH->Prop}(e:mh[n]?=some (.dct kvs)) (h:P (.int kvs.length) mh):wV (Ft [.ref n] mh) P:=⟨_,_,by simp only [Ft,e],h⟩
theorem oU {a b:Nat}{mh:MH}{P:D->MH->Prop}(h:P (Ad (min a b)) mh):wV (Xr [.int a,.int b] mh) P:=by
 refine ⟨_,_,?_,h⟩;show some (D.int (if (b:Int) < (a:Int) then (b:Int) else (a:Int)),mh)=_;have:(if (b:Int) < (a:Int) then (b:Int) else (a:Int))=((min a b:Nat):Int):=by split <;> omega
 rw [this]
noncomputable def kN (u:Nat):Key:=.inl (u:Int)
theorem Jt {u v:Nat}:kN u=kN v ↔ u=v:=by
 constructor
 ·intro h;have h:(Sum.inl (u:Int):Sum Int Str)=.inl (v:Int):=h;injection h with h
  omega
 ·rintro rfl;rfl
theorem Rt (k:Key):∀ kvs:List (Key×D),(kvs.any fun kv=>keyB kv.1 k)=(Ci kvs k).isSome
 | []=>rfl
 | a::r=>by
  show (keyB a.1 k || r.any fun kv=>keyB kv.1 k)=(if keyB a.1 k=true then some a.2 else Ci r k).isSome;cases keyB a.1 k with
  | true=>rfl
  | false=>exact Rt k r
theorem Ru {k k':Key}{d:D}:∀ {kvs:List (Key×D)},Ci kvs k=none->Ci (kvs++[(k,d)]) k'=if k'=k then some d else Ci kvs k'
 | [],_=>by
  show (if keyB k k'=true then some d else none)=_;rw [Cm]
  by_cases h:k'=k
  ·rw [if_pos h,if_pos (decide_eq_true h.symm)]
  ·rw [if_neg h,if_neg (by rw [decide_eq_true_iff];exact fun z=>h z.symm)];rfl
 | a::r,h=>by
  have h:(if keyB a.1 k=true then some a.2 else Ci r k)=none:=h;show (if keyB a.1 k'=true then some a.2 else Ci (r++[(k,d)]) k')=if k'=k then some d else (if keyB a.1 k'=true then some a.2 else Ci r k')
  rw [Cm] at h ⊢
  by_cases e:a.1=k
  ·rw [if_pos (decide_eq_true e)] at h;cases h
  ·rw [if_neg (by rw [decide_eq_true_iff];exact e)] at h;rw [Ru h]
   by_cases e':a.1=k'
   ·rw [if_pos (decide_eq_true e'),if_neg (by rw [← e'];exact e),if_pos (decide_eq_true e')]
   ·rw [if_neg (by rw [decide_eq_true_iff];exact e'),if_neg (c:=decide (a.1=k')=true) (by rw [decide_eq_true_iff];exact e')]
theorem Yu {k k':Key}{d:D}:∀ {kvs:List (Key×D)},(Ci kvs k).isSome=true->Ci (kvs.map fun kv=>if keyB kv.1 k=true then (kv.1,d) else kv) k'=if k'=k then some d else Ci kvs k'
 | [],h=>by cases h
 | a::r,h=>by
  have h:(if keyB a.1 k=true then some a.2 else Ci r k).isSome=true:=h;show (if keyB (if keyB a.1 k=true then (a.1,d) else a).1 k'=true then some (if keyB a.1 k=true then (a.1,d) else a).2 else Ci (r.map fun kv=>if keyB kv.1 k=true then (kv.1,d) else kv) k')=if k'=k then some d else (if keyB a.1 k'=true then some a.2 else Ci r k')
  have hf:(if keyB a.1 k=true then (a.1,d) else a).1=a.1:=by split <;> rfl
  rw [hf,Cm a.1 k'];rw [Cm] at h ⊢;have gen:∀ (q:List (Key×D)),k'≠k->Ci (q.map fun kv=>if keyB kv.1 k=true then (kv.1,d) else kv) k'=Ci q k':=by
   intro q nk
   induction q with
   | nil=>rfl
   | cons b q ih =>
    show (if keyB (if keyB b.1 k=true then (b.1,d) else b).1 k'=true then some (if keyB b.1 k=true then (b.1,d) else b).2 else Ci (q.map fun kv=>if keyB kv.1 k=true then (kv.1,d) else kv) k')=(if keyB b.1 k'=true then some b.2 else Ci q k');have hf:(if keyB b.1 k=true then (b.1,d) else b).1=b.1:=by split <;> rfl
    rw [hf,ih]
    by_cases e:b.1=k'
    ·have b':keyB b.1 k'=true:=by rw [Cm];exact decide_eq_true e
     have bk:¬ keyB b.1 k=true:=by rw [Cm,decide_eq_true_iff,e];exact nk
     rw [if_pos b',if_pos b',if_neg bk]
    ·rw [if_neg (by rw [Cm,decide_eq_true_iff];exact e),if_neg (by rw [Cm,decide_eq_true_iff];exact e)]
  by_cases e':a.1=k'
  ·rw [if_pos (decide_eq_true e')]
   by_cases e:a.1=k
   ·rw [if_pos (decide_eq_true e),if_pos (by rw [← e',e])]
   ·rw [if_neg (by rw [decide_eq_true_iff];exact e),if_neg (by rw [← e'];exact e),if_pos (decide_eq_true e')]
  ·rw [if_neg (by rw [decide_eq_true_iff];exact e'),if_neg (c:=decide (a.1=k')=true) (by rw [decide_eq_true_iff];exact e')]
   by_cases n:k'=k
   ·rw [if_pos n];rw [if_neg (by rw [decide_eq_true_iff,← n];exact e')] at h;rw [Yu h,if_pos n]
   ·rw [if_neg n,gen r n]
structure DV (kvs:List (Key×D)) (f:Nat->Option D) (ks:List Nat):Prop where
 key:kvs.map (·.1)=ks.map kN
 val:∀ u,Ci kvs (kN u)=f u
theorem DV.nil:DV [] (fun _=>none) []:=⟨rfl,fun _=>rfl⟩
theorem DV.len {kvs:List (Key×D)}{f:Nat->Option D}{ks:List Nat}(h:DV kvs f ks):kvs.length=ks.length:=by
 have:=congrArg List.length h.key;rw [List.length_map,List.length_map] at this;exact this
theorem DV.new {kvs:List (Key×D)}{f:Nat->Option D}{ks:List Nat}(h:DV kvs f ks) {u:Nat}{d:D}(hu:f u=none) {g:Nat->Option D}(hg:∀ x,g x=if x=u then some d else f x):DV (putD kvs (kN u) d) g (ks++[u]):=by
 have hv:Ci kvs (kN u)=none:=by rw [h.val,hu]
 unfold putD;rw [Rt,hv,if_neg (by decide)];refine ⟨by rw [List.map_append,List.map_append,h.key];rfl,fun x=>?_⟩;rw [Ru hv,hg,h.val]
 by_cases e:x=u
 ·rw [if_pos e,if_pos (Jt.mpr e)]
 ·rw [if_neg e,if_neg (fun z=>e (Jt.mp z))]
theorem DV.old {kvs:List (Key×D)}{f:Nat->Option D}{ks:List Nat}(h:DV kvs f ks) {u:Nat}{d e:D}(hu:f u=some e) {g:Nat->Option D}(hg:∀ x,g x=if x=u then some d else f x):DV (putD kvs (kN u) d) g ks:=by
 have hv:(Ci kvs (kN u)).isSome=true:=by rw [h.val,hu];rfl
 unfold putD;rw [Rt,if_pos hv];refine ⟨?_,fun x=>?_⟩
 ·rw [← h.key,List.map_map];refine List.map_congr_left fun a _=>?_
  show (if keyB a.1 (kN u)=true then (a.1,d) else a).1=a.1;split <;> rfl
 ·rw [Yu hv,hg,h.val]
  by_cases e:x=u
  ·rw [if_pos e,if_pos (Jt.mpr e)]
  ·rw [if_neg e,if_neg (fun z=>e (Jt.mp z))]
section
variable {kvs:List (Key×D)}{f:Nat->Option D}{ks:List Nat}{j u:Nat}{mh:MH}{P:D->MH->Prop}
theorem DV.mem (h:DV kvs f ks) (g:mh[j]?=some (.dct kvs)) {neg:Bool}(q:P (.bl (if neg then !(f u).isSome else (f u).isSome)) mh):wV (inD neg (.int u) (.ref j) mh) P:=wL (k:=kN u) g rfl (by rw [h.val];exact q)
theorem DV.at (h:DV kvs f ks) (g:mh[j]?=some (.dct kvs)) {d:D}(e:f u=some d) (q:P d mh):wV (ixD (.ref j) (.int u) mh) P:=wM (k:=kN u) g rfl (by rw [h.val];exact e) q
theorem DV.put (h:DV kvs f ks) {loc:DL.Loc}{mo mi:DM D}{v:D}{R:DL.Loc->MH->Prop}(q:wD mo loc mh fun o h1=>wD mi loc h1 fun i h2=>o=.ref j/\i=.int u/\h2[j]?=some (.dct kvs)/\ks.length < 1000000/\R loc (h2.set j (.dct (putD kvs (kN u) v)))):wG (Dc mo mi v loc mh) R :=
 vZ (Ao q fun o h1 q1=>Ao q1 fun i h2 ⟨a,b,c,d,e⟩=>⟨j,kvs,kN u,a,c,by rw [b];rfl,by rw [h.len];exact d,e⟩)
end
noncomputable def Ib (L:List Nat):List Nat:=(sortI (L.map fun n:Nat=>(n:Int))).map Int.toNat
theorem M7 (L:List Nat):(Ib L).map (fun n:Nat=>(n:Int))=sortI (L.map fun n:Nat=>(n:Int)):=by
 unfold Ib;rw [List.map_map]
 conv=>rhs;rw [← List.map_id (sortI _)]
 refine List.map_congr_left fun x hx=>?_
 obtain ⟨n,_,rfl⟩:=List.mem_map.mp ((sortI_perm _).mem_iff.mp hx);rfl
theorem M8 (L:List Nat):(Ib L).Perm L:=by
 have:=(sortI_perm (L.map fun n:Nat=>(n:Int))).map Int.toNat;rw [List.map_map] at this;have e:L.map (Int.toNat ∘ fun n:Nat=>(n:Int))=L:=by
  conv=>rhs;rw [← List.map_id L]
  exact List.map_congr_left fun x _=>rfl
 rw [e] at this;exact this
theorem iB (L:List Nat):(Ib L).Pairwise (·<=·):=by
 have:=Tg (L.map fun n:Nat=>(n:Int));rw [← M7,List.pairwise_map] at this;exact this.imp fun h=>by omega
theorem aG {a b:List Nat}(h:(a.map fun n:Nat=>(n:Int))=b.map fun n:Nat=>(n:Int)):a=b:=Us.mp h
theorem Rv {l L:List Nat}(p:l.Perm L) (h:l.Pairwise (·<=·)):l=Ib L:=by
 refine aG ?_;rw [M7];exact Ir (p.map _) (List.pairwise_map.mpr (h.imp fun h=>by omega))
theorem Ph:∀ {L:List Nat},L.Pairwise (fun a b=>b < a)->Jd (L.map fun n:Nat=>(n:Int))=true
 | [],_=>rfl
 | [_],_=>rfl
 | a::b::r,h=>by
  rw [List.pairwise_cons] at h;show (decide ((b:Int) < (a:Int))&&Jd ((b::r).map fun n:Nat=>(n:Int)))=true;rw [Ph h.2,decide_eq_true (by have:=h.1 b List.mem_cons_self;omega)];rfl
theorem Ju (L:List Nat):L.map Ad=(L.map fun n:Nat=>(n:Int)).map D.int:=Ur L
theorem iC {n:Nat}{L:List Nat}{mh:MH}{P:D->MH->Prop}(e:mh[n]?=some (.lst (L.map Ad))) (hz:L.length < 64\/L.Pairwise (fun a b=>b < a)) (h:P (.ref mh.length) (mh++[.lst ((Ib L).map Ad)])):wV (Bv [.ref n] mh) P:=by
 rw [Ju,M7] at h;rw [Ju] at e;have ei:intsOf ((L.map fun n:Nat=>(n:Int)).map D.int)=some (L.map fun n:Nat=>(n:Int)):=Hv _
 by_cases q:64<=L.length/\Jd (L.map fun n:Nat=>(n:Int))=true
 ·refine ⟨_,_,?_,h⟩;have q':64<=(L.map fun n:Nat=>(n:Int)).length/\Jd (L.map fun n:Nat=>(n:Int))=true:=by rw [List.length_map];exact q
  have p:L.Pairwise (fun a b=>b < a):=hz.resolve_left (by omega);have er:(L.map fun n:Nat=>(n:Int)).reverse=sortI (L.map fun n:Nat=>(n:Int)):=by
   rw [← M7,← Rv (l:=L.reverse) (List.reverse_perm L) (List.pairwise_reverse.mpr (p.imp fun h=>by omega)),List.map_reverse]
  unfold Bv;simp only [e,ei,if_pos q',er]
 ·have q':¬ (64<=(L.map fun n:Nat=>(n:Int)).length/\Jd (L.map fun n:Nat=>(n:Int))=true):=by rw [List.length_map];exact q
  have hl:L.length < 64:=by
   rcases hz with z|z
   ·exact z
   ·rcases Nat.lt_or_ge L.length 64 with y|y
    ·exact y
    ·exact absurd ⟨y,Ph z⟩ q
  have e1:Bv [.ref n] mh=G3 [.ref n] mh:=by
   unfold Bv;simp only [e,ei,if_neg q'];unfold Ez;simp only [e];unfold Gg;simp only [e]
  rw [e1];exact gP e (by rw [List.length_map];exact hl) h
noncomputable def oj (e m:Nat):D:=.obj "Knotter" ["edges", "order", "lows", "loose", "tied", "found"] [.ref e,.ref m,.ref (m+1),.ref (m+2),.ref (m+3),.ref (m+4)]
section
variable {e m:Nat}{Q:D->Prop}
theorem M9 (h:Q (.ref e)):∃ c ks ds d,oj e m=.obj c ks ds/\fld c "edges"=true/\(ks.zip ds).lookup ("edges":Str)=some d/\Q d:=⟨_,_,_,_,rfl,by decide +kernel,by kernel_rfl,h⟩
theorem Nb (h:Q (.ref m)):∃ c ks ds d,oj e m=.obj c ks ds/\fld c "order"=true/\(ks.zip ds).lookup ("order":Str)=some d/\Q d:=⟨_,_,_,_,rfl,by decide +kernel,by kernel_rfl,h⟩
theorem Rw (h:Q (.ref (m+1))):∃ c ks ds d,oj e m=.obj c ks ds/\fld c "lows"=true/\(ks.zip ds).lookup ("lows":Str)=some d/\Q d:=⟨_,_,_,_,rfl,by decide +kernel,by kernel_rfl,h⟩
theorem Nf (h:Q (.ref (m+2))):∃ c ks ds d,oj e m=.obj c ks ds/\fld c "loose"=true/\(ks.zip ds).lookup ("loose":Str)=some d/\Q d:=⟨_,_,_,_,rfl,by decide +kernel,by kernel_rfl,h⟩
theorem Rx (h:Q (.ref (m+3))):∃ c ks ds d,oj e m=.obj c ks ds/\fld c "tied"=true/\(ks.zip ds).lookup ("tied":Str)=some d/\Q d:=⟨_,_,_,_,rfl,by decide +kernel,by kernel_rfl,h⟩
theorem Ng (h:Q (.ref (m+4))):∃ c ks ds d,oj e m=.obj c ks ds/\fld c "found"=true/\(ks.zip ds).lookup ("found":Str)=some d/\Q d:=⟨_,_,_,_,rfl,by decide +kernel,by kernel_rfl,h⟩
end
structure KS (h:MH) (m:Nat) (gs:List Nat) (O T S:List Nat) (low:Nat->Nat) (G:List (List Nat)):Prop where
 ord:∃ kvs,h[m]?=some (.dct kvs)/\DV kvs (fun u=>if u∈O then some (Ad (O.idxOf u)) else none) O
 lows:∃ kvs,h[m+1]?=some (.dct kvs)/\DV kvs (fun u=>if u∈O then some (Ad (low u)) else none) O
 loose:h[m+2]?=some (.lst (S.map Ad))
 tied:∃ kvs,h[m+3]?=some (.dct kvs)/\DV kvs (fun u=>if u∈T then some (.bl true) else none) T
 found:h[m+4]?=some (.lst (gs.map D.ref))
 len:gs.length=G.length
 grp:∀ (i r:Nat) (g:List Nat),gs[i]?=some r->G[i]?=some g->h[r]?=some (.lst (g.map Ad))
 far:∀ r∈gs,m+5<=r
local macro_rules | `(tactic| walk_at "x3") => `(tactic| repeat (first | walk_at "s" | with_reducible refine G9 ?_ | with_reducible refine G8 (by simp) ?_ | with_reducible refine M9 ?_ | with_reducible refine Nb ?_ | with_reducible refine Rw ?_ | with_reducible refine Nf ?_ | with_reducible refine Rx ?_ | with_reducible refine Ng ?_))
section
variable {h h':MH}{m:Nat}{gs:List Nat}{O T S:List Nat}{low:Nat->Nat}{G:List (List Nat)}{W:List Nat}
theorem KS.keep (K:KS h m gs O T S low G) (x:Ext W h h') (hw:∀ a∈W,m+5<=a/\a ∉ gs):KS h' m gs O T S low G:=by
 have nw:∀ a,a < m+5->a ∉ W:=fun a ha z=>by have:=(hw a z).1;omega
 obtain ⟨k1,a1,b1⟩:=K.ord;obtain ⟨k2,a2,b2⟩:=K.lows;obtain ⟨k3,a3,b3⟩:=K.tied;exact ⟨⟨k1,x.old _ _ (nw _ (by omega)) a1,b1⟩,⟨k2,x.old _ _ (nw _ (by omega)) a2,b2⟩,x.old _ _ (nw _ (by omega)) K.loose,⟨k3,x.old _ _ (nw _ (by omega)) a3,b3⟩,x.old _ _ (nw _ (by omega)) K.found,K.len,fun i r g e1 e2=>x.old _ _ (fun z=>(hw r z).2 (List.mem_of_getElem? e1)) (K.grp i r g e1 e2),K.far⟩
theorem KS.grp' (K:KS h m gs O T S low G) {h':MH}(hk:∀ a o,m+5<=a->h[a]?=some o->h'[a]?=some o):∀ (i r:Nat) (g:List Nat),gs[i]?=some r->G[i]?=some g->h'[r]?=some (.lst (g.map Ad)):=fun i r g e1 e2=>hk _ _ (K.far r (List.mem_of_getElem? e1)) (K.grp i r g e1 e2)
theorem wW {O:List Nat}{u:Nat}(hu:u ∉ O) (x:Nat):(if x∈O++[u] then some (Ad ((O++[u]).idxOf x)) else none)=if x=u then some (Ad O.length) else if x∈O then some (Ad (O.idxOf x)) else none:=by
 by_cases e:x=u
 ·subst e;rw [if_pos rfl,if_pos (List.mem_append.mpr (.inr (List.mem_singleton.mpr rfl))),Ky hu]
 ·rw [if_neg e]
  by_cases q:x∈O
  ·rw [if_pos q,if_pos (List.mem_append.mpr (.inl q)),Ro q]
  ·rw [if_neg q,if_neg fun z=>(List.mem_append.mp z).elim q fun y=>e (List.mem_singleton.mp y)]
theorem wX {O:List Nat}{u c:Nat}{low:Nat->Nat}(x:Nat):(if x∈O++[u] then some (Ad (if x=u then c else low x)) else none)=if x=u then some (Ad c) else if x∈O then some (Ad (low x)) else none:=by
 by_cases e:x=u
 ·subst e;rw [if_pos rfl,if_pos (List.mem_append.mpr (.inr (List.mem_singleton.mpr rfl))),if_pos rfl]
 ·rw [if_neg (c:=x=u) (t:=some (Ad c)) e]
  by_cases q:x∈O
  ·rw [if_pos q,if_pos (List.mem_append.mpr (.inl q)),if_neg e]
  ·rw [if_neg q,if_neg (c:=x∈O++[u]) fun z=>(List.mem_append.mp z).elim q fun y=>e (List.mem_singleton.mp y)]
variable {P:D->MH->Prop}
theorem Uv (k e:Nat) {u:Nat}(K:KS h m gs O T S low G) (hu:u ∉ O) (hz:O.length < 1000000) (hs:S.length<=1000000) (q:∀ h',KS h' m gs (O++[u]) T (S++[u]) (fun x=>if x=u then O.length else low x) G->Ext [m,m+1,m+2] h h'->h'.length=h.length->P .non h'):wV (Ba (Gk (k+1)) fuel Rk [oj e m,.int u] h) P:=by
 obtain ⟨k1,a1,b1⟩:=K.ord;obtain ⟨k2,a2,b2⟩:=K.lows;obtain ⟨k3,a3,b3⟩:=K.tied;have c1:=b1.new (u:=u) (d:=Ad O.length) (if_neg hu) (wW hu);have c2:=b2.new (u:=u) (d:=Ad O.length) (if_neg hu) (wX (c:=O.length));refine Dd (oM k) Yo.1 Yo.2 rfl ?_;show wS (Wu k) [some (oj e m),some (.int u)] h _;unfold Wu
 walk_at "x3"
 refine oR a1 ?_;rw [b1.len];refine b1.put (j:=m) (u:=u) ?_
 walk_at "x3"
 refine ⟨rfl,rfl,a1,hz,?_⟩;have h1:(h.set m (.dct (putD k1 (kN u) (Ad O.length))))[m]?=some (.dct (putD k1 (kN u) (Ad O.length))):=Bl a1;refine Ce (Dm (Gh ?_))
 walk_at "x3"
 refine c1.at (u:=u) h1 (d:=Ad O.length) ?_ ?_
 ·rw [if_pos (List.mem_append.mpr (.inr (List.mem_singleton.mpr rfl))),Ky hu]
 have a2':=Ac (o:=.dct (putD k1 (kN u) (Ad O.length))) a2 (show m≠m+1 by omega);refine b2.put (j:=m+1) (u:=u) ?_
 walk_at "x3"
 refine ⟨rfl,rfl,a2',hz,?_⟩;have s1:=Ac (o:=.dct (putD k2 (kN u) (Ad O.length))) (Ac (o:=.dct (putD k1 (kN u) (Ad O.length))) K.loose (show m≠m+2 by omega)) (show m+1≠m+2 by omega)
 walk_at "x3"
 refine ⟨ty_list s1,?_⟩
 walk_at "x3"
 refine Bs s1 (by rw [List.length_map];exact hs) ?_
 walk_at "x3"
 refine Kz (q _ ⟨⟨_,Ac (Ac h1 (by omega)) (by omega),c1⟩,⟨_,Ac (Bl a2') (by omega),c2⟩,?_,⟨k3,Ac (Ac (Ac a3 (by omega)) (by omega)) (by omega),b3⟩,Ac (Ac (Ac K.found (by omega)) (by omega)) (by omega),K.len,K.grp' fun a o ha g=>Ac (Ac (Ac g (by omega)) (by omega)) (by omega),K.far⟩ ⟨by simp,fun a o ha g=>?_⟩ (by simp))
 ·rw [Bl s1,List.map_append];rfl
 ·simp only [List.mem_cons,List.not_mem_nil,or_false,not_or] at ha;exact Ac (Ac (Ac g (by omega)) (by omega)) (by omega)
theorem Nh (k e:Nat) {u c:Nat}(K:KS h m gs O T S low G) (hu:u∈O) (hz:O.length < 1000000) (q:∀ h',KS h' m gs O T S (fun x=>if x=u then min (low u) c else low x) G->Ext [m+1] h h'->h'.length=h.length->P .non h'):wV (Ba (Gk (k+1)) fuel Rm [oj e m,.int u,.int c] h) P:=by
 obtain ⟨k1,a1,b1⟩:=K.ord;obtain ⟨k2,a2,b2⟩:=K.lows;obtain ⟨k3,a3,b3⟩:=K.tied;have c2:=b2.old (u:=u) (d:=Ad (min (low u) c)) (if_pos hu) (g:=fun x=>if x∈O then some (Ad (if x=u then min (low u) c else low x)) else none) fun x=>by
  by_cases z:x=u
  ·subst z;rw [if_pos rfl,if_pos hu,if_pos rfl]
  ·rw [if_neg z,if_neg z]
 refine Dd (oN k) Yp.1 Yp.2 rfl ?_;show wS (Wv k) [some (oj e m),some (.int u),some (.int c)] h _;unfold Wv
 walk_at "x3"
 refine b2.at (u:=u) a2 (if_pos hu) ?_
 walk_at "x3"
 refine oU ?_;refine b2.put (j:=m+1) (u:=u) ?_
 walk_at "x3"
 refine ⟨rfl,rfl,a2,hz,?_⟩
 walk_at "x3"
 exact Kz (q _ ⟨⟨k1,Ac a1 (by omega),b1⟩,⟨_,Bl a2,c2⟩,Ac K.loose (by omega),⟨k3,Ac a3 (by omega),b3⟩,Ac K.found (by omega),K.len,K.grp' fun a o ha g=>Ac g (by omega),K.far⟩ Ext.set (by simp))
end
section
variable {h h':MH}{m:Nat}{gs:List Nat}{O T S:List Nat}{low:Nat->Nat}{G:List (List Nat)}{W:List Nat}{P:D->MH->Prop}
theorem KS.gl (K:KS h m gs O T S low G):∀ r∈gs,r < h.length:=fun r hr=>by
 obtain ⟨i,hi,e⟩:=List.getElem_of_mem hr;have hg:i < G.length:=by rw [← K.len];exact hi
 exact Ck (K.grp i r G[i] (by rw [List.getElem?_eq_getElem hi,e]) (List.getElem?_eq_getElem hg))
theorem KS.hl (K:KS h m gs O T S low G):m+5<=h.length:=Ck K.found
theorem iD (k e:Nat) {v:Nat}(K:KS h m gs O T S low G) (hv:v∈O) (hl:low v≠O.idxOf v) (q:P .non h):wV (Ba (Gk (k+1)) fuel Ny [oj e m,.int v] h) P:=by
 obtain ⟨k1,a1,b1⟩:=K.ord;obtain ⟨k2,a2,b2⟩:=K.lows;refine Dd (Yq k) Kw.1 Kw.2 rfl ?_;show wS (Rn k) [some (oj e m),some (.int v),none] h _;unfold Rn
 walk_at "x3"
 refine b2.at (u:=v) a2 (if_pos hv) ?_
 walk_at "x3"
 refine b1.at (u:=v) a1 (if_pos hv) ?_
 walk_at "x3"
 refine Jj ?_ ?_
 ·rw [Bool.not_eq_true',beq_eq_false_iff_ne];intro z;exact hl (by omega)
 refine Dm (oA ?_);exact q
theorem oV (k e:Nat) {v:Nat}{a R:List Nat}(K:KS h m gs O T (a++v::R) low G) (hv:v∈O) (hl:low v=O.idxOf v) (nd:(v::R).Nodup) (hT:∀ u∈v::R,u ∉ T) (hz:T.length+(v::R).length < 1000000) (hg:gs.length < 1000000) (hs:(v::R).length < 64\/(v::R).Pairwise (· < ·))
  (q:∀ h' r,KS h' m (gs++[r]) O (T++(v::R).reverse) a low (G++[Ib (v::R).reverse])->h.length<=r->Ext [m+2,m+3,m+4] h h'->P .non h'):wV (Ba (Gk (k+1)) fuel Ny [oj e m,.int v] h) P:=by
 obtain ⟨k1,a1,b1⟩:=K.ord;obtain ⟨k2,a2,b2⟩:=K.lows;have gl:=K.gl;have hl5:=K.hl;refine Dd (Yq k) Kw.1 Kw.2 rfl ?_;show wS (Rn k) [some (oj e m),some (.int v),none] h _;unfold Rn
 walk_at "x3"
 refine b2.at (u:=v) a2 (if_pos hv) ?_
 walk_at "x3"
 refine b1.at (u:=v) a1 (if_pos hv) ?_
 walk_at "x3"
 refine Fb (by rw [hl];simp) ?_
 walk_at "x3"
 have x0:Ext [] h (h++[MO.lst []]):=Ext.more;have g0:(h++[MO.lst []])[h.length]?=some (.lst (([]:List Nat).map Ad)):=Aq;have K0:=K.keep x0 (by simp);have l0:(h++[MO.lst []]).length=h.length+1:=by simp
 have nj:h.length ∉ gs:=fun z=>by have:=gl _ z;omega
 generalize h++[MO.lst []]=h0 at x0 g0 K0 l0 ⊢;refine My (fun n l h1=>∃ L1 L2:List Nat,v::R=L1++L2/\n=L1.length/\l=[some (oj e m),some (.int v),some (.ref h.length)]/\KS h1 m gs O (T++L2.reverse) (a++L1) low G/\h1[h.length]?=some (.lst (L2.reverse.map Ad))/\Ext [m+2,m+3,h.length] h0 h1) (v::R).length (by omega) ⟨v::R,[],by simp,rfl,rfl,by simpa using K0,g0,Ext.refl⟩ ?_;rintro n l h1 ⟨L1,L2,eL,rfl,rfl,K1,g1,x1⟩;obtain ⟨k3,a3,b3⟩:=K1.tied
 walk_at "x3"
 refine b3.mem (u:=v) a3 ?_
 walk_at "x3"
 rw [eL] at nd;rw [List.nodup_append] at nd;refine Bw (fun hk=>?_) fun hk=>?_
 ·have hn:v ∉ T++L2.reverse:=fun z=>by rw [if_pos z] at hk;simp at hk
  rcases List.eq_nil_or_concat L1 with rfl|⟨L,x,rfl⟩
  ·exact absurd (List.mem_append.mpr (.inr (List.mem_reverse.mpr (by rw [← List.nil_append L2,← eL];exact List.mem_cons_self)))) hn
  rw [List.concat_eq_append] at *;have xT:x ∉ T:=hT x (by rw [eL];simp);have x2:x ∉ L2:=fun z=>nd.2.2 x (by simp) x z rfl
  have xn:x ∉ T++L2.reverse:=fun z=>(List.mem_append.mp z).elim xT fun y=>x2 (List.mem_reverse.mp y)
  have hz2:(T++L2.reverse).length < 1000000:=by
   have:=congrArg List.length eL;simp only [List.length_append,List.length_reverse,List.length_cons,List.length_nil] at this hz ⊢;omega
  have c3:=b3.new (u:=x) (d:=.bl true) (if_neg xn) (g:=fun u=>if u∈T++(x::L2).reverse then some (.bl true) else none) fun u=>by
   rw [List.reverse_cons,← List.append_assoc]
   by_cases z:u=x
   ·rw [if_pos z,if_pos (List.mem_append.mpr (.inr (List.mem_singleton.mpr z)))]
   ·rw [if_neg z]
    by_cases y:u∈T++L2.reverse
    ·rw [if_pos y,if_pos (List.mem_append.mpr (.inl y))]
    ·rw [if_neg y,if_neg fun w=>(List.mem_append.mp w).elim y fun w=>z (List.mem_singleton.mp w)]
  have lo:=K1.loose;rw [← List.append_assoc,List.map_append] at lo
  walk_at "x3"
  refine ⟨ty_list g1,?_⟩
  walk_at "x3"
  refine ⟨ty_list lo,?_⟩
  walk_at "x3"
  refine Rq lo ?_;have g2:=Ac (o:=.lst ((a++L).map Ad)) g1 (show m+2≠h.length by omega)
  walk_at "x3"
  refine Bs g2 (by
   have:=congrArg List.length eL;simp only [List.length_append,List.length_reverse,List.length_cons,List.length_nil,List.length_map] at this hz ⊢
   omega) ?_
  refine Ce (Dm (Gh (Eb ?_)));have g3:((h1.set (m+2) (.lst ((a++L).map Ad))).set h.length (.lst (L2.reverse.map Ad++[Ad x])))[h.length]?=some (.lst (L2.reverse.map Ad++[Ad x])):=Bl g2;have a3':=Ac (o:=.lst (L2.reverse.map Ad++[Ad x])) (Ac (o:=.lst ((a++L).map Ad)) a3 (show m+2≠m+3 by omega)) (show h.length≠m+3 by omega);refine b3.put (j:=m+3) (u:=x) ?_
  walk_at "x3"
  refine Rr g3 ?_;refine ⟨rfl,rfl,a3',hz2,?_⟩
  walk_at "x3"
  obtain ⟨k4,a4,b4⟩:=K1.ord;obtain ⟨k5,a5,b5⟩:=K1.lows;refine ⟨L.length,by simp,L,x::L2,by rw [eL];simp,rfl,rfl,⟨⟨k4,Ac (Ac (Ac a4 (by omega)) (by omega)) (by omega),b4⟩,⟨k5,Ac (Ac (Ac a5 (by omega)) (by omega)) (by omega),b5⟩,?_,⟨_,Bl a3',by rw [List.reverse_cons,← List.append_assoc] at *;exact c3⟩,Ac (Ac (Ac K1.found (by omega)) (by omega)) (by omega),K1.len,fun i r g e1 e2=>?_,K1.far⟩,?_,?_⟩
  ·exact Ac (Ac (Bl lo) (by omega)) (by omega)
  ·have:=K1.far r (List.mem_of_getElem? e1);exact Ac (Ac (Ac (K1.grp i r g e1 e2) (by omega)) (fun z=>nj (by rw [z];exact List.mem_of_getElem? e1))) (by omega)
  ·rw [Ac g3 (by omega),List.reverse_cons,List.map_append];rfl
  ·refine ⟨by simp;exact x1.len,fun i o hi ei=>?_⟩;have e1:=x1.old i o hi ei;simp only [List.mem_cons,List.not_mem_nil,or_false,not_or] at hi;exact Ac (Ac (Ac e1 (fun z=>hi.1 z.symm)) (fun z=>hi.2.2 z.symm)) (fun z=>hi.2.1 z.symm)
 ·have hn:v∈T++L2.reverse:=by
   by_cases z:v∈T++L2.reverse
   ·exact z
   ·rw [if_neg z] at hk;simp at hk
  have L10:L1=[]:=by
   cases L1 with
   | nil=>rfl
   | cons y L1 =>
    injection eL with e1 e2
    subst e1;rcases List.mem_append.mp hn with z|z
    ·exact absurd z (hT v List.mem_cons_self)
    ·exact absurd rfl (nd.2.2 v List.mem_cons_self v (List.mem_reverse.mp z))
  subst L10;rw [List.nil_append] at eL;subst eL;rw [List.append_nil] at K1
  walk_at "x3"
  refine ⟨ty_list K1.found,?_⟩
  walk_at "x3"
  refine iC g1 ?_ ?_
  ·rcases hs with z|z
   ·exact .inl (by rw [List.length_reverse];exact z)
   ·exact .inr (List.pairwise_reverse.mpr z)
  have x2:Ext [] h1 (h1++[MO.lst ((Ib (v::R).reverse).map Ad)]):=Ext.more;have g2:(h1++[MO.lst ((Ib (v::R).reverse).map Ad)])[h1.length]?=some (.lst ((Ib (v::R).reverse).map Ad)):=Aq;have K2:=K1.keep x2 (by simp);have le:=x1.len;have hl1:=K1.hl;generalize h1++[MO.lst ((Ib (v::R).reverse).map Ad)]=h2 at x2 g2 K2 ⊢
  walk_at "x3"
  refine Bs K2.found (by rw [List.length_map];omega) ?_
  walk_at "x3"
  obtain ⟨k4,a4,b4⟩:=K2.ord;obtain ⟨k5,a5,b5⟩:=K2.lows;obtain ⟨k6,a6,b6⟩:=K2.tied;refine Kz (q _ h1.length ⟨⟨k4,Ac a4 (by omega),b4⟩,⟨k5,Ac a5 (by omega),b5⟩,Ac K2.loose (by omega),⟨k6,Ac a6 (by omega),b6⟩,?_,by rw [List.length_append,List.length_append,K2.len];rfl,fun i r g e1 e2=>?_,fun r hr=>?_⟩ (by omega) ⟨by rw [List.length_set];have:=x2.len;omega,fun i o hi ei=>?_⟩)
  ·rw [Bl K2.found,List.map_append];rfl
  ·rcases Nat.lt_or_ge i gs.length with z|z
   ·rw [List.getElem?_append_left z] at e1;rw [List.getElem?_append_left (by rw [← K2.len];exact z)] at e2;have:=K2.far r (List.mem_of_getElem? e1);exact Ac (K2.grp i r g e1 e2) (by omega)
   ·rw [List.getElem?_append_right z] at e1;rw [List.getElem?_append_right (by rw [← K2.len];exact z),← K2.len] at e2;have i0:i - gs.length=0:=by
     have:=(List.getElem?_eq_some_iff.mp e1).1;simp at this;omega
    rw [i0] at e1 e2;cases e1;cases e2;exact Ac g2 (by omega)
  ·rcases List.mem_append.mp hr with z|z
   ·exact K2.far r z
   ·rw [List.mem_singleton.mp z];exact hl1
  ·have lt:=Ck ei;simp only [List.mem_cons,List.not_mem_nil,or_false,not_or] at hi;refine Ac (x2.old _ _ (by simp) (x1.old _ _ ?_ (x0.old _ _ (by simp) ei))) (fun z=>hi.2.2 z.symm);simp only [List.mem_cons,List.not_mem_nil,or_false,not_or];exact ⟨hi.1,hi.2.1,by omega⟩
end
theorem Ww {α:Type} [DecidableEq α]:∀ {l l':List α},l.Nodup->(∀ x∈l,x∈l')->l.length<=l'.length
 | [],_,_,_=>Nat.zero_le _
 | a::r,l',nd,h=>by
  rw [List.nodup_cons] at nd;have ha:=h a List.mem_cons_self;have ih:=Ww (l':=l'.erase a) nd.2 fun x hx=>(List.mem_erase_of_ne fun z=>nd.1 (by rw [← z];exact hx)).mpr (h x (List.mem_cons_of_mem _ hx))
  rw [List.length_erase_of_mem ha] at ih;have:=List.length_pos_of_mem ha;rw [List.length_cons];omega
theorem Gj {l:List Nat}{n:Nat}(nd:l.Nodup) (h:∀ x∈l,x < n):l.length<=n:=by
 have:=Ww (l':=List.range n) nd fun x hx=>List.mem_range.mpr (h x hx)
 rw [List.length_range] at this;exact this
theorem Gw:∀ {G:List (List Nat)},(∀ g∈G,g≠[])->G.length<=G.flatten.length
 | [],_=>Nat.zero_le _
 | g::G,h=>by
  have:=Gw fun x hx=>h x (List.mem_cons_of_mem _ hx)
  have:=List.length_pos_iff.mpr (h g List.mem_cons_self);rw [List.flatten_cons,List.length_append,List.length_cons];omega
structure GC (mh:MH) (e n d:Nat) (E:Nat->List Nat) (re:List Nat):Prop where
 lst:mh[e]?=some (.lst (re.map D.ref))
 len:re.length=n
 row:∀ (i r:Nat),re[i]?=some r->mh[r]?=some (.lst ((E i).map Ad))
 deg:∀ v,v < n->(E v).length<=d
 lt:∀ v,v < n->∀ t∈E v,t < n
 few:n<=3000
 meas:(n+1) * (d+2) < 1000000
 asc:n < 64\/∀ v t,t∈E v->t<=v+1
structure ST (mh h:MH) (n:Nat) (E:Nat->List Nat) (gs O T:List Nat) (low:Nat->Nat) (G:List (List Nat)) (fr:List Fr):Prop where
 K:KS h mh.length gs O T (Ai fr) low G
 I:TInv E n O T low G fr
 A:n < 64\/O=List.range O.length
 N:T.Nodup
 X:Ext [] mh h
 L:∀ g∈G,g.Pairwise (·<=·)
noncomputable def frM (d:Nat):List Fr->Nat
 | []=>0
 | (_,i,_)::b=>(d+1 - i)+frM d b
noncomputable def Ms (d n:Nat) (O:List Nat) (fr:List Fr):Nat:=(n - O.length) * (d+2)+frM d fr
noncomputable def frD (f:Fr):D:=.tup [Ad f.1,Ad f.2.1]
section
variable {mh h h':MH}{e n d:Nat}{E:Nat->List Nat}{re gs O T:List Nat}{low:Nat->Nat}{G:List (List Nat)}{fr b:List Fr}{v i:Nat}{R:List Nat}
theorem Cv {W:List Nat}(x:Ext [] mh h) (y:Ext W h h') (hw:∀ a∈W,mh.length<=a):Ext [] mh h':=⟨Nat.le_trans x.len y.len,fun a o _ g=>y.old a o (fun z=>by have:=hw a z;have:=Ck g;omega) (x.old a o (by simp) g)⟩
theorem TInv.ol (I:TInv E n O T low G fr):O.length<=n:=Gj I.nd I.lt
theorem TInv.sl (I:TInv E n O T low G fr):(Ai fr).length<=n:=Nat.le_trans I.sub.length_le I.ol
theorem TInv.gl (I:TInv E n O T low G fr):G.length<=n:=Nat.le_trans (Gw I.grp.ne) (Gj I.grp.nd fun x hx=>I.lt x ((I.cov x).mpr (.inr ((I.grp.mem x).mp hx))))
theorem TInv.vO (I:TInv E n O T low G ((v,i,R)::b)):v∈O:=(I.cov v).mpr (.inl (List.mem_append.mpr (.inr List.mem_cons_self)))
theorem TInv.room (I:TInv E n O T low G ((v,i,R)::b)) (N:T.Nodup):(T++(v::R).reverse).Nodup/\T.length+(v::R).length<=n:=by
 have sn:(Ai b++v::R).Nodup:=I.snd;rw [List.nodup_append] at sn;have dj:∀ x∈v::R,x ∉ T:=fun x hx=>I.dis x (List.mem_append.mpr (.inr hx))
 have nd:(T++(v::R).reverse).Nodup:=by
  rw [List.nodup_append];exact ⟨N,(List.reverse_perm _).nodup_iff.mpr sn.2.1,fun a ha c hc z=>dj a (by rw [z];exact List.mem_reverse.mp hc) ha⟩
 refine ⟨nd,?_⟩;have:=Gj nd (n:=n) fun x hx=>(List.mem_append.mp hx).elim (fun z=>I.lt x ((I.cov x).mpr (.inr z))) fun z=>I.lt x ((I.cov x).mpr (.inl (List.mem_append.mpr (.inr (List.mem_reverse.mp z)))))
 rw [List.length_append,List.length_reverse] at this;exact this
theorem Yv (A:n < 64\/O=List.range O.length) {t:Nat}(ht:n < 64\/t=O.length):n < 64\/O++[t]=List.range (O++[t]).length:=by
 rcases A with A|A
 ·exact .inl A
 rcases ht with ht|ht
 ·exact .inl ht
 refine .inr ?_;rw [List.length_append,List.length_singleton,List.range_succ,← A,ht]
theorem Aa0 (A:n < 64\/O=List.range O.length) (ha:n < 64\/∀ v t,t∈E v->t<=v+1) {t:Nat}(hv:v∈O) (hE:t∈E v) (ht:t ∉ O):n < 64\/t=O.length:=by
 rcases A with A|A
 ·exact .inl A
 rcases ha with ha|ha
 ·exact .inl ha
 refine .inr ?_;have h1:=ha v t hE;rw [A] at hv ht;have h2:=List.mem_range.mp hv;have h3:¬ t < O.length:=fun z=>ht (List.mem_range.mpr z)
 omega
theorem Aa1 (I:TInv E n O T low G ((v,i,R)::b)) (A:n < 64\/O=List.range O.length):(v::R).length < 64\/(v::R).Pairwise (· < ·):=by
 rcases A with A|A
 ·refine .inl ?_;have:=I.sl;have e:(Ai ((v,i,R)::b)).length=(Ai b).length+(v::R).length:=List.length_append;omega
 ·refine .inr ?_;have s:(v::R).Sublist O:=(List.sublist_append_right (Ai b) (v::R)).trans I.sub;rw [A] at s;exact List.pairwise_lt_range.sublist s
theorem GC.at (g:GC mh e n d E re) (x:Ext [] mh h):h[e]?=some (.lst (re.map D.ref))/\∀ v,v < n->∃ r,(re.map D.ref)[v]?=some (.ref r)/\h[r]?=some (.lst ((E v).map Ad)):=by
 refine ⟨x.old _ _ (by simp) g.lst,fun v hv=>?_⟩;have hv':v < re.length:=by rw [g.len];exact hv
 exact ⟨re[v],by rw [List.getElem?_map,List.getElem?_eq_getElem hv'];rfl,x.old _ _ (by simp) (g.row v _ (List.getElem?_eq_getElem hv'))⟩
theorem oW {t:Nat}(h1:(O++[t]).length<=n) (hi:i < d+1):Ms d n (O++[t]) ((t,0,[])::(v,i+1,R)::b) < Ms d n O ((v,i,R)::b):=by
 rw [List.length_append,List.length_singleton] at h1;unfold Ms;rw [List.length_append,List.length_singleton];obtain ⟨q,e⟩:∃ q,n - O.length=q+1:=⟨n - O.length - 1,by omega⟩;rw [e,show n - (O.length+1)=q by omega,Nat.add_mul,Nat.one_mul];show _+((d+1 - 0)+((d+1 - (i+1))+frM d b)) < _+((d+1 - i)+frM d b);omega
theorem Yw (hi:i < d+1):Ms d n O ((v,i+1,R)::b) < Ms d n O ((v,i,R)::b):=by
 unfold Ms;show _+((d+1 - (i+1))+frM d b) < _+((d+1 - i)+frM d b);omega
theorem iH (hi:i < d+1):Ms d n O b < Ms d n O ((v,i,R)::b):=by
 unfold Ms;show _+frM d b < _+((d+1 - i)+frM d b);omega
theorem oX {p j:Nat}{Q Q':List Nat}(hi:i < d+1):Ms d n O ((p,j,Q')::b) < Ms d n O ((v,i,R)::(p,j,Q)::b):=by
 unfold Ms;show _+((d+1 - j)+frM d b) < _+((d+1 - i)+((d+1 - j)+frM d b));omega
theorem iJ {s:Nat}(h1:(O++[s]).length<=n) (hm:(n+1) * (d+2) < 1000000):Ms d n (O++[s]) [(s,0,[])] < 1000000:=by
 rw [List.length_append,List.length_singleton] at h1;unfold Ms;rw [List.length_append,List.length_singleton];show _+((d+1 - 0)+0) < _;have:(n - (O.length+1)) * (d+2)<=n * (d+2):=Nat.mul_le_mul_right _ (by omega);rw [Nat.add_mul,Nat.one_mul] at hm;omega
end
section
variable {k e m:Nat}{Q:Str->List Str->List D->Fn->Prop}
theorem qJ (h:Q "Knotter" ["edges", "order", "lows", "loose", "tied", "found"] [.ref e,.ref m,.ref (m+1),.ref (m+2),.ref (m+3),.ref (m+4)] (Ba (Gk k) fuel Rj)):∃ c ks ds ps g,oj e m=.obj c ks ds/\Nz k c "go_from"=some (ps,g)/\ks.contains "go_from"=false/\Q c ks ds g:=⟨_,_,_,Rj.ps,_,rfl,by kernel_rfl,by decide +kernel,h⟩
theorem oY (h:Q "Knotter" ["edges", "order", "lows", "loose", "tied", "found"] [.ref e,.ref m,.ref (m+1),.ref (m+2),.ref (m+3),.ref (m+4)] (Ba (Gk k) fuel Rk)):∃ c ks ds ps g,oj e m=.obj c ks ds/\Nz k c "come_to"=some (ps,g)/\ks.contains "come_to"=false/\Q c ks ds g:=⟨_,_,_,Rk.ps,_,rfl,by kernel_rfl,by decide +kernel,h⟩
theorem oZ (h:Q "Knotter" ["edges", "order", "lows", "loose", "tied", "found"] [.ref e,.ref m,.ref (m+1),.ref (m+2),.ref (m+3),.ref (m+4)] (Ba (Gk k) fuel Rm)):∃ c ks ds ps g,oj e m=.obj c ks ds/\Nz k c "sink"=some (ps,g)/\ks.contains "sink"=false/\Q c ks ds g:=⟨_,_,_,Rm.ps,_,rfl,by kernel_rfl,by decide +kernel,h⟩
theorem iK (h:Q "Knotter" ["edges", "order", "lows", "loose", "tied", "found"] [.ref e,.ref m,.ref (m+1),.ref (m+2),.ref (m+3),.ref (m+4)] (Ba (Gk k) fuel Ny)):∃ c ks ds ps g,oj e m=.obj c ks ds/\Nz k c "leave"=some (ps,g)/\ks.contains "leave"=false/\Q c ks ds g:=⟨_,_,_,Ny.ps,_,rfl,by kernel_rfl,by decide +kernel,h⟩
end
theorem iM:∀ fr:List Fr,fr.length<=(Ai fr).length
 | []=>Nat.zero_le _
 | (v,i,R)::b=>by
  have:=iM b;show b.length+1<=(Ai b++v::R).length;rw [List.length_append,List.length_cons];omega
local macro_rules | `(tactic| walk_at "x1") => `(tactic| repeat (first | walk_at "s" | with_reducible refine G9 ?_ | with_reducible refine G8 (by simp) ?_ | with_reducible refine M9 ?_ | with_reducible refine Nb ?_ | with_reducible refine Rw ?_ | with_reducible refine Nf ?_ | with_reducible refine Rx ?_ | with_reducible refine Ng ?_ | with_reducible refine qJ ?_ | with_reducible refine oY ?_ | with_reducible refine oZ ?_ | with_reducible refine iK ?_))
section
variable {mh h:MH}{e n d:Nat}{E:Nat->List Nat}{re gs O T:List Nat}{low:Nat->Nat}{G:List (List Nat)}{P:D->MH->Prop}
theorem wY (k:Nat) {s:Nat}(g:GC mh e n d E re) (Z:ST mh h n E gs O T low G []) (hs:s ∉ O) (hn:s < n) (ha:n < 64\/s=O.length)
  (q:∀ h' gs' O' T' low' G',ST mh h' n E gs' O' T' low' G' []->(∀ u∈O,u∈O')->s∈O'->P .non h'):wV (Ba (Gk (k+2)) fuel Rj [oj e mh.length,.int s] h) P:=by
 have few:=g.few;refine Dd (oK (k+1)) Yn.1 Yn.2 rfl ?_;show wS (Wt (k+1)) [some (oj e mh.length),some (.int s),none,none,none,none] h _;unfold Wt
 walk_at "x1"
 refine Uv k e Z.K hs (by have:=Z.I.ol;omega) (by have:=Z.I.sl;omega) fun h1 K1 x1 l1=>?_
 walk_at "x1"
 have I1:=Z.I.start hs hn;have x2:Ext [] h1 (h1++[MO.lst [.tup [.int s,.int 0]]]):=Ext.more;have g2:(h1++[MO.lst [.tup [.int s,.int 0]]])[h1.length]?=some (.lst (([(s,0,[])]:List Fr).reverse.map frD)):=Aq;have hj:=K1.hl;have nj:h1.length ∉ gs:=fun z=>by have:=K1.gl _ z;omega
 have Z2:ST mh (h1++[MO.lst [.tup [.int s,.int 0]]]) n E gs (O++[s]) T (fun u=>if u=s then O.length else low u) G [(s,0,[])]:=⟨K1.keep x2 (by simp),I1,Yv Z.A ha,Z.N,Cv (Cv Z.X x1 (by simp)) x2 (by simp),Z.L⟩;generalize h1++[MO.lst [.tup [.int s,.int 0]]]=h2 at x2 g2 Z2 ⊢;generalize h1.length=j at g2 hj nj ⊢;refine My (fun N l h3=>∃ gs O' T low G fr y3 y4 y5,l=[some (oj e mh.length),some (.int s),some (.ref j),y3,y4,y5]/\N=Ms d n O' fr/\ST mh h3 n E gs O' T low G fr/\h3[j]?=some (.lst (fr.reverse.map frD))/\j ∉ gs/\(∀ u∈O,u∈O')/\s∈O') _ (iJ I1.ol g.meas) ⟨_,_,_,_,_,_,_,_,_,rfl,rfl,Z2,g2,nj,fun u hu=>List.mem_append.mpr (.inl hu),by simp⟩ ?_
 clear Z2 g2 nj I1 K1 x1 l1 x2
 clear h1 h2
 rintro N l h3 ⟨gs,O',T,low,G,fr,y3,y4,y5,rfl,rfl,Z3,g3,nj,up,sO⟩
 walk_at "x1"
 refine Dv g3 ?_
 walk_at "x1"
 refine Bw (fun hk=>?_) fun hk=>?_
 case refine_2 =>
  cases fr with
  | cons f b=>rw [decide_eq_false_iff_not] at hk;simp at hk
  | nil =>
   walk_at "x1"
   exact Kz (q _ _ _ _ _ _ Z3 up sO)
 cases fr with
 | nil=>rw [decide_eq_true_iff] at hk;simp at hk
 | cons f b =>
 obtain ⟨v,i,R⟩:=f;have I:=Z3.I;have vO:=I.vO;have vn:v < n:=I.lt v vO;have ol:=I.ol;have sl:=I.sl;have fl:=iM ((v,i,R)::b);have bl:b.length+1<=n:=Nat.le_trans fl sl;have deg:=g.deg v vn;have iL:=I.fr.1.1;have hi:i < d+1:=by omega
 have g3':h3[j]?=some (.lst (b.reverse.map frD++[.tup [.int v,.int i]])):=by rw [g3,List.reverse_cons,List.map_append];rfl
 walk_at "x1"
 refine ⟨ty_list g3,?_⟩
 walk_at "x1"
 refine Rq g3' ?_;have x4:Ext [j] h3 (h3.set j (.lst (b.reverse.map frD))):=Ext.set;have g4:(h3.set j (.lst (b.reverse.map frD)))[j]?=some (.lst (b.reverse.map frD)):=Bl g3;have wj:∀ a∈[j],mh.length+5<=a/\a ∉ gs:=fun a ha'=>by rw [List.mem_singleton.mp ha'];exact ⟨hj,nj⟩
 have wm:∀ a∈[j],mh.length<=a:=fun a ha'=>by rw [List.mem_singleton.mp ha'];omega
 have K4:=Z3.K.keep x4 wj;have X4:=Cv Z3.X x4 wm;generalize h3.set j (.lst (b.reverse.map frD))=h4 at x4 g4 K4 X4 ⊢
 walk_at "x1"
 refine Js (j:=0) rfl ?_
 walk_at "x1"
 refine Js (j:=1) rfl ?_
 walk_at "x1"
 obtain ⟨r,er,gr⟩:=(g.at X4).2 v vn;refine Cj (g.at X4).1 er ?_
 walk_at "x1"
 refine Dv gr ?_
 walk_at "x1"
 refine Bw (fun hk=>?_) fun hk=>?_
 ·have iE:i=(E v).length:=by
   rw [beq_iff_eq,List.length_map] at hk;omega
  walk_at "x1"
  by_cases hl:low v=O'.idxOf v
  ·obtain ⟨N5,tr⟩:=I.room Z3.N;have sn:(Ai b++v::R).Nodup:=I.snd;rw [List.nodup_append] at sn;refine oV k e K4 vO hl sn.2.1 (fun u hu=>I.dis u (List.mem_append.mpr (.inr hu))) (by omega) (by have:=I.gl;have:=K4.len;omega) (Aa1 I Z3.A) fun h5 r5 K5 hr x5=>?_
   have I5:=I.tie iE hl (K:=Ib (v::R).reverse) ((M8 _).trans (List.reverse_perm _));have X5:=Cv X4 x5 (by simp);have L5:∀ g∈G++[Ib (v::R).reverse],g.Pairwise (·<=·):=fun g hg=>by
    rcases List.mem_append.mp hg with z|z
    ·exact Z3.L g z
    ·rw [List.mem_singleton.mp z];exact iB _
   have g5:=x5.old _ _ (by simp only [List.mem_cons,List.not_mem_nil,or_false,not_or];exact ⟨by omega,by omega,by omega⟩) g4;have nj5:j ∉ gs++[r5]:=fun z=>by
    rcases List.mem_append.mp z with z|z
    ·exact nj z
    ·have:=List.mem_singleton.mp z;have:=Ck g4;omega
   walk_at "x1"
   refine Dv g5 ?_
   walk_at "x1"
   cases b with
   | nil =>
    refine Fb rfl ?_
    walk_at "x1"
    refine Wl ?_;exact ⟨_,iH hi,gs++[r5],O',_,low,_,[],_,_,_,rfl,rfl,⟨K5,I5,Z3.A,N5,X5,L5⟩,g5,nj5,up,sO⟩
   | cons f b =>
    obtain ⟨p,i',Q⟩:=f;have g5':h5[j]?=some (.lst (b.reverse.map frD++[.tup [.int p,.int i']])):=by rw [g5,List.reverse_cons,List.map_append];rfl
    have pO:=I5.vO;refine Jj (by rw [decide_eq_true_iff];simp) ?_
    walk_at "x1"
    refine Rr g5' ?_
    walk_at "x1"
    refine Js (j:=0) rfl ?_
    walk_at "x1"
    obtain ⟨k2,a2,b2⟩:=K5.lows;refine b2.at (u:=v) a2 (if_pos vO) ?_
    walk_at "x1"
    refine Nh k e K5 (u:=p) (c:=low v) pO (by omega) fun h6 K6 x6 l6=>?_
    have pv:O'.idxOf p < O'.idxOf v:=by
     have z:=M5 I.nd I.sub;have z:((Ai b++p::Q)++v::R).Pairwise fun a c=>O'.idxOf a < O'.idxOf c:=z
     rw [List.pairwise_append] at z;exact z.2.2 p (by simp) v (by simp)
    have lp:=(I5.lo p (List.mem_append.mpr (.inr List.mem_cons_self))).1;have el:(fun x=>if x=p then min (low p) (low v) else low x)=low:=by
     funext x;split
     ·rename_i z;rw [z];omega
     ·rfl
    rw [el] at K6;have g6:=x6.old _ _ (by simp only [List.mem_cons,List.not_mem_nil,or_false];omega) g5
    walk_at "x1"
    refine Wl ?_;exact ⟨_,iH hi,gs++[r5],O',_,low,_,(p,i',Q)::b,_,_,_,rfl,rfl,⟨K6,I5,Z3.A,N5,Cv X5 x6 (by simp),L5⟩,g6,nj5,up,sO⟩
  ·refine iD k e K4 vO hl ?_;cases b with
   | nil=>exact absurd I.last hl
   | cons f b =>
    obtain ⟨p,i',Q⟩:=f;have g4':h4[j]?=some (.lst (b.reverse.map frD++[.tup [.int p,.int i']])):=by rw [g4,List.reverse_cons,List.map_append];rfl
    have pO:p∈O':=(I.cov p).mpr (.inl (List.mem_append.mpr (.inl (List.mem_append.mpr (.inr List.mem_cons_self)))))
    walk_at "x1"
    refine Dv g4 ?_
    walk_at "x1"
    refine Jj (by rw [decide_eq_true_iff];simp) ?_
    walk_at "x1"
    refine Rr g4' ?_
    walk_at "x1"
    refine Js (j:=0) rfl ?_
    walk_at "x1"
    obtain ⟨k2,a2,b2⟩:=K4.lows;refine b2.at (u:=v) a2 (if_pos vO) ?_
    walk_at "x1"
    refine Nh k e K4 (u:=p) (c:=low v) pO (by omega) fun h6 K6 x6 l6=>?_
    have g6:=x6.old _ _ (by simp only [List.mem_cons,List.not_mem_nil,or_false];omega) g4;have eS:Ai ((v,i,R)::(p,i',Q)::b)=Ai ((p,i',Q++v::R)::b):=by
     show (Ai b++p::Q)++v::R=Ai b++p::(Q++v::R);rw [List.append_assoc];rfl
    rw [eS] at K6
    walk_at "x1"
    refine Wl ?_;exact ⟨_,oX hi,gs,O',_,_,_,(p,i',Q++v::R)::b,_,_,_,rfl,rfl,⟨K6,I.stay iE hl,Z3.A,Z3.N,Cv X4 x6 (by simp),Z3.L⟩,(by rw [List.reverse_cons,List.map_append] at g6 ⊢;exact g6),nj,up,sO⟩
 ·have iE:i < (E v).length:=by
   rw [beq_eq_false_iff_ne,List.length_map] at hk;omega
  walk_at "x1"
  refine ⟨ty_list g4,?_⟩
  walk_at "x1"
  refine Js (j:=1) rfl ?_
  walk_at "x1"
  refine Bs g4 (by rw [List.length_map,List.length_reverse];omega) ?_;have x5:Ext [j] h4 (h4.set j (.lst (b.reverse.map frD++[.tup [.int v,.int ((i:Int)+1)]]))):=Ext.set;have g5:(h4.set j (.lst (b.reverse.map frD++[.tup [.int v,.int ((i:Int)+1)]])))[j]?=some (.lst (((v,i+1,R)::b).reverse.map frD)):=by
   rw [Bl g4,List.reverse_cons,List.map_append];rfl
  have K5:=K4.keep x5 wj;have X5:=Cv X4 x5 wm;generalize h4.set j (.lst (b.reverse.map frD++[.tup [.int v,.int ((i:Int)+1)]]))=h5 at x5 g5 K5 X5 ⊢
  walk_at "x1"
  obtain ⟨r',er',gr'⟩:=(g.at X5).2 v vn;refine Cj (g.at X5).1 er' ?_
  walk_at "x1"
  refine Js (j:=1) rfl ?_;obtain ⟨t,et⟩:∃ t,(E v)[i]?=some t:=⟨_,List.getElem?_eq_getElem iE⟩;have tE:t∈E v:=List.mem_of_getElem? et;have tn:=g.lt v vn t tE;refine Cj (d:=Ad t) gr' (by rw [List.getElem?_map,et];rfl) ?_
  walk_at "x1"
  obtain ⟨k1,a1,b1⟩:=K5.ord;refine b1.mem (u:=t) a1 ?_
  walk_at "x1"
  refine Bw (fun hk=>?_) fun hk=>?_
  ·have tO:t ∉ O':=fun z=>by rw [if_pos z] at hk;simp at hk
   have I6:=I.come et tO tn
   walk_at "x1"
   refine Uv k e K5 tO (by omega) (by omega) fun h6 K6 x6 l6=>?_
   have g6:=x6.old _ _ (by simp only [List.mem_cons,List.not_mem_nil,or_false,not_or];exact ⟨by omega,by omega,by omega⟩) g5;have X6:=Cv X5 x6 (by simp)
   walk_at "x1"
   refine ⟨ty_list g6,?_⟩
   walk_at "x1"
   refine Bs g6 (by rw [List.length_map,List.length_reverse,List.length_cons];omega) ?_;have x7:Ext [j] h6 (h6.set j (.lst (((v,i+1,R)::b).reverse.map frD++[.tup [.int t,.int 0]]))):=Ext.set
   walk_at "x1"
   refine ⟨_,oW I6.ol hi,gs,O'++[t],T,_,G,(t,0,[])::(v,i+1,R)::b,_,_,_,rfl,rfl,⟨K6.keep x7 wj,I6,Yv Z3.A (Aa0 Z3.A g.asc vO tE tO),Z3.N,Cv X6 x7 wm,Z3.L⟩,?_,nj,fun u hu=>List.mem_append.mpr (.inl (up u hu)),List.mem_append.mpr (.inl sO)⟩;rw [Bl g6,List.reverse_cons (as:=(v,i+1,R)::b),List.map_append];rfl
  ·have tO:t∈O':=by
    by_cases z:t∈O'
    ·exact z
    ·rw [if_neg z] at hk;simp at hk
   obtain ⟨k3,a3,b3⟩:=K5.tied
   walk_at "x1"
   refine b3.mem (u:=t) a3 ?_
   walk_at "x1"
   refine Bw (fun hk=>?_) fun hk=>?_
   ·have tT:t ∉ T:=fun z=>by rw [if_pos z] at hk;simp at hk
    walk_at "x1"
    refine b1.at (u:=t) a1 (if_pos tO) ?_
    walk_at "x1"
    refine Nh k e K5 (u:=v) (c:=O'.idxOf t) vO (by omega) fun h6 K6 x6 l6=>?_
    have g6:=x6.old _ _ (by simp only [List.mem_cons,List.not_mem_nil,or_false];omega) g5
    walk_at "x1"
    exact ⟨_,Yw hi,gs,O',T,_,G,(v,i+1,R)::b,_,_,_,rfl,rfl,⟨K6,I.edgeL et tO tT,Z3.A,Z3.N,Cv X5 x6 (by simp),Z3.L⟩,g6,nj,up,sO⟩
   ·have tT:t∈T:=by
     by_cases z:t∈T
     ·exact z
     ·rw [if_neg z] at hk;simp at hk
    walk_at "x1"
    exact ⟨_,Yw hi,gs,O',T,low,G,(v,i+1,R)::b,_,_,_,rfl,rfl,⟨K5,I.edgeT et tT,Z3.A,Z3.N,X5,Z3.L⟩,g5,nj,up,sO⟩
end
structure Kn (E:Nat->List Nat) (n:Nat) (G:List (List Nat)):Prop where
 nd:G.flatten.Nodup
 mem:∀ u,u∈G.flatten ↔ u < n
 ne:∀ g∈G,g≠[]
 rc:∀ g∈G,∀ u∈g,∀ w∈g,Rc E u w
 ed:∀ (k:Nat) (g:List Nat),G[k]?=some g->∀ u∈g,∀ t∈E u,∃ (j:Nat) (g':List Nat),j<=k/\G[j]?=some g'/\t∈g'
 so:∀ g∈G,g.Pairwise (·<=·)
structure Fnd (h:MH) (f:Nat) (gs:List Nat) (G:List (List Nat)):Prop where
 lst:h[f]?=some (.lst (gs.map D.ref))
 len:gs.length=G.length
 row:∀ (i r:Nat) (g:List Nat),gs[i]?=some r->G[i]?=some g->h[r]?=some (.lst (g.map Ad))
local macro_rules | `(tactic| walk_at "x5") => `(tactic| repeat (first | walk_at "s" | with_reducible refine G9 ?_ | with_reducible refine G8 (by simp) ?_ | with_reducible refine M9 ?_ | with_reducible refine Nb ?_ | with_reducible refine Rw ?_ | with_reducible refine Nf ?_ | with_reducible refine Rx ?_ | with_reducible refine Ng ?_ | with_reducible refine qJ ?_))
section
variable {mh h:MH}{e n d:Nat}{E:Nat->List Nat}{re gs O T:List Nat}{low:Nat->Nat}{G:List (List Nat)}{P:D->MH->Prop}
theorem Wx {ma:DM D}{loc:DL.Loc}(h:wD ma loc mh fun x h1=>∃ e,x=.ref e/\P (oj e h1.length) (h1++[.dct [],.dct [],.lst [],.dct [],.lst []])):wD (Yc "Knotter" [("edges",.par),("order",.nd),("lows",.nd),("loose",.nl),("tied",.nd),("found",.nl)] ma) loc mh P:=by
 obtain ⟨x,h1,ex,e,rfl,p⟩:=h;refine Bk ⟨_,_,ex,_,_,?_,p⟩;simp [Mp,oj]
theorem wZ (g:GC mh e n d E re):ST mh (mh++[.dct [],.dct [],.lst [],.dct [],.lst []]) n E [] [] [] (fun _=>0) [] []:=by
 have at_:∀ (i:Nat) (o:MO),([.dct [],.dct [],.lst [],.dct [],.lst []]:MH)[i]?=some o->(mh++[.dct [],.dct [],.lst [],.dct [],.lst []])[mh.length+i]?=some o:=fun i o h=>by
  rw [List.getElem?_append_right (by omega),Nat.add_sub_cancel_left];exact h
 refine ⟨⟨⟨[],at_ 0 _ rfl,DV.nil⟩,⟨[],at_ 1 _ rfl,DV.nil⟩,at_ 2 _ rfl,⟨[],at_ 3 _ rfl,DV.nil⟩,at_ 4 _ rfl,rfl,fun i r g h=>?_,fun r hr=>?_⟩,⟨List.nodup_nil,List.Sublist.refl _,fun u=>?_,fun u hu=>?_,fun u hu=>?_,fun u hu=>?_,trivial,⟨List.nodup_nil,fun u=>Iff.rfl,fun g hg=>?_,fun g hg=>?_,fun k g hg=>?_⟩⟩,.inr rfl,List.nodup_nil,Ext.more,fun g hg=>?_⟩
 ·cases h
 ·cases hr
 ·exact ⟨fun z=>(by cases z),fun z=>z.elim (fun z=>by cases z) fun z=>by cases z⟩
 ·cases hu
 ·cases hu
 ·cases hu
 ·cases hg
 ·cases hg
 ·cases hg
 ·cases hg
theorem Jv (k:Nat) (g:GC mh e n d E re) (q:∀ h' f gs G,Ext [] mh h'->Fnd h' f gs G->mh.length<=f->(∀ r∈gs,mh.length<=r/\r≠f)->Kn E n G->P (.ref f) h'):wV (Ba (Gk (k+3)) fuel f2 [.ref e] mh) P:=by
 have few:=g.few;refine Dd (Aat (k+2)) pZ.1 pZ.2 rfl ?_;show wS (b2 (k+2)) [some (.ref e),none,none] mh _;unfold b2;refine Dm (Gh (Wx ?_))
 walk_at "x5"
 refine ⟨e,rfl,?_⟩
 walk_at "x5"
 have Z0:=wZ g;generalize mh++[MO.dct [],.dct [],.lst [],.dct [],.lst []]=h0 at Z0 ⊢;refine Hf (List.range n) Ad (fun i l h1=>∃ gs O T low G y2,l=[some (.ref e),some (oj e mh.length),y2]/\ST mh h1 n E gs O T low G []/\∀ u,u < i->u∈O) ?_ ?_ ?_
 ·walk_at "x5"
  refine Dv (g.at Z0.X).1 ?_
  walk_at "x5"
  rw [List.length_map,g.len];exact ⟨_,Fd (by omega),rfl,_,_,_,_,_,_,rfl,Z0,fun u hu=>by omega⟩
 ·rintro i x l h1 ex ⟨gs,O,T,low,G,y2,rfl,Z1,up⟩;have hi:i < n:=by have:=(List.getElem?_eq_some_iff.mp ex).1;rw [List.length_range] at this;exact this
  have ex:x=i:=by rw [List.getElem?_range hi] at ex;cases ex;rfl
  subst ex;obtain ⟨k1,a1,b1⟩:=Z1.K.ord;refine Cu ?_
  walk_at "x5"
  refine b1.mem (u:=x) a1 ?_
  walk_at "x5"
  refine Bw (fun hk=>?_) fun hk=>?_
  ·have xO:x ∉ O:=fun z=>by rw [if_pos z] at hk;simp at hk
   have ha:n < 64\/x=O.length:=by
    rcases Z1.A with A|A
    ·exact .inl A
    refine .inr ?_;have h1:¬ x < O.length:=fun z=>xO (by rw [A];exact List.mem_range.mpr z)
    rcases Nat.lt_or_ge O.length x with z|z
    ·have:=up O.length z;rw [A] at this;have:=List.mem_range.mp this;simp at this
    ·omega
   walk_at "x5"
   refine wY k g Z1 xO hi ha fun h2 gs2 O2 T2 low2 G2 Z2 u2 s2=>?_
   walk_at "x5"
   exact ⟨gs2,O2,T2,low2,G2,_,rfl,Z2,fun u hu=>by
    rcases Nat.lt_or_ge u x with z|z
    ·exact u2 u (up u z)
    ·rw [show u=x by omega];exact s2⟩
  ·have xO:x∈O:=by
    by_cases z:x∈O
    ·exact z
    ·rw [if_neg z] at hk;simp at hk
   walk_at "x5"
   exact ⟨gs,O,T,low,G,_,rfl,Z1,fun u hu=>by
    rcases Nat.lt_or_ge u x with z|z
    ·exact up u z
    ·rw [show u=x by omega];exact xO⟩
 ·rintro l h1 ⟨gs,O,T,low,G,y2,rfl,Z1,up⟩;rw [List.length_range] at up
  walk_at "x5"
  refine q _ _ gs G Z1.X ⟨Z1.K.found,Z1.K.len,Z1.K.grp⟩ (by omega) (fun r hr=>?_) ⟨Z1.I.grp.nd,fun u=>?_,Z1.I.grp.ne,Z1.I.grp.rc,Z1.I.grp.ed,Z1.L⟩
  ·have:=Z1.K.far r hr;exact ⟨by omega,by omega⟩
  ·rw [Z1.I.grp.mem u];constructor
   ·intro z;exact Z1.I.lt u ((Z1.I.cov u).mpr (.inr z))
   ·intro z;rcases (Z1.I.cov u).mp (up u z) with y|y
    ·cases y
    ·exact y
end
theorem Pj {G:List (List Nat)}(nd:G.flatten.Nodup) {i j:Nat}{g g':List Nat}{u:Nat}(ei:G[i]?=some g) (ej:G[j]?=some g') (hu:u∈g) (hu':u∈g'):i=j:=by
 have p:=(List.pairwise_flatten.mp nd).2;rw [List.pairwise_iff_getElem] at p;obtain ⟨hi,ei⟩:=List.getElem?_eq_some_iff.mp ei;obtain ⟨hj,ej⟩:=List.getElem?_eq_some_iff.mp ej;rcases Nat.lt_trichotomy i j with z|z|z
 ·exact absurd rfl (p i j hi hj z u (by rw [ei];exact hu) u (by rw [ej];exact hu'))
 ·exact z
 ·exact absurd rfl (p j i hj hi z u (by rw [ej];exact hu') u (by rw [ei];exact hu))
noncomputable def pl (G:List (List Nat)) (u:Nat):Nat:=G.findIdx fun g=>g.contains u
section
variable {E:Nat->List Nat}{n:Nat}{G:List (List Nat)}{u w:Nat}
theorem Kn.at (K:Kn E n G) (hu:u < n):∃ (k:Nat) (g:List Nat),G[k]?=some g/\u∈g:=by
 obtain ⟨g,hg,h⟩:=List.mem_flatten.mp ((K.mem u).mpr hu);obtain ⟨k,hk,e⟩:=List.getElem_of_mem hg;exact ⟨k,g,by rw [List.getElem?_eq_getElem hk,e],h⟩
theorem Kn.lt (K:Kn E n G) {k:Nat}{g:List Nat}(hk:G[k]?=some g) (hu:u∈g):u < n:=(K.mem u).mp (List.mem_flatten.mpr ⟨g,List.mem_of_getElem? hk,hu⟩)
theorem Kn.pl_eq (K:Kn E n G) {k:Nat}{g:List Nat}(hk:G[k]?=some g) (hu:u∈g):pl G u=k:=by
 have ex:∃ x∈G,(x.contains u)=true:=⟨g,List.mem_of_getElem? hk,List.contains_iff_mem.mpr hu⟩;have hl:pl G u < G.length:=List.findIdx_lt_length_of_exists ex;have hp:(G[pl G u]).contains u=true:=List.findIdx_getElem (w:=hl);exact Pj K.nd (List.getElem?_eq_getElem hl) hk (List.contains_iff_mem.mp hp) hu
theorem Kn.pl_at (K:Kn E n G) (hu:u < n):∃ g,G[pl G u]?=some g/\u∈g:=by
 obtain ⟨k,g,h1,h2⟩:=K.at hu;rw [K.pl_eq h1 h2];exact ⟨g,h1,h2⟩
theorem Kn.le (K:Kn E n G) (hu:u < n) (h:Rc E u w):w < n/\pl G w<=pl G u:=by
 induction h with
 | refl=>exact ⟨hu,Nat.le_refl _⟩
 | step _ e ih =>
  obtain ⟨g,h1,h2⟩:=K.pl_at ih.1;obtain ⟨j,g',h3,h4,h5⟩:=K.ed _ _ h1 _ h2 _ e;refine ⟨K.lt h4 h5,?_⟩;rw [K.pl_eq h4 h5];exact Nat.le_trans h3 ih.2
theorem Kn.same (K:Kn E n G) (hu:u < n) (hw:w < n):pl G u=pl G w ↔ Rc E u w/\Rc E w u:=by
 constructor
 ·intro h;obtain ⟨g,h1,h2⟩:=K.pl_at hu;obtain ⟨g',h3,h4⟩:=K.pl_at hw;rw [h,h3] at h1;cases h1;have m:=List.mem_of_getElem? h3;exact ⟨K.rc _ m u h2 w h4,K.rc _ m w h4 u h2⟩
 ·rintro ⟨h1,h2⟩;have:=(K.le hu h1).2;have:=(K.le hw h2).2;omega
theorem Ni {l l':List Nat}(h:l.Pairwise (·<=·)) (h':l'.Pairwise (·<=·)) (nd:l.Nodup) (nd':l'.Nodup) (e:∀ x,x∈l ↔ x∈l'):l=l':=by
 have p:l.Perm l':=Ut nd (fun x hx=>(e x).mp hx) (Ww nd' fun x hx=>(e x).mpr hx);rw [Rv p h,← Rv (List.Perm.refl l') h']
theorem Kn.gnd (K:Kn E n G) {g:List Nat}(hg:g∈G):g.Nodup:=(List.pairwise_flatten.mp K.nd).1 g hg
theorem iQ (K:Kn E n G) {b:Nat}(hb:b < n) (h1:∀ u,u+1 < n->E u=[u+1]) (h2:E (n - 1)=[b]\/(E (n - 1)=[]/\b+1=n)):G=List.range' b (n - b)::(List.range b).reverse.map (fun u=>[u]):=by
 have up:∀ k u,u+k < n->Rc E u (u+k):=by
  intro k
  induction k with
  | zero=>exact fun u _=>.refl u
  | succ k ih =>
   intro u hk;refine .step (ih u (by omega)) ?_;rw [h1 (u+k) (by omega)];exact List.mem_singleton.mpr rfl
 have up':∀ u w,u<=w->w < n->Rc E u w:=fun u w h hw=>by
  have:=up (w - u) u (by omega);rw [show u+(w - u)=w by omega] at this;exact this
 have back:∀ u w,b<=u->u < n->b<=w->w < n->Rc E w u:=fun u w hu hun hw hwn=>by
  rcases h2 with h|⟨_,h⟩
  ·exact ((up' w (n - 1) (by omega) (by omega)).trans E (Rc.one E (by rw [h];exact List.mem_singleton.mpr rfl))).trans E (up' b u hu hun)
  ·rw [show w=u by omega];exact .refl u
 have no:∀ u w,u < b->u < w->w < n->∀ x,Rc E w x->u < x/\x < n:=fun u w hu hw hn x r=>by
  induction r with
  | refl=>exact ⟨hw,hn⟩
  | @step y x _ e ih =>
   rcases Nat.lt_or_ge (y+1) n with z|z
   ·rw [h1 y z] at e;have:=List.mem_singleton.mp e;omega
   ·have z:y=n - 1:=by omega
    rw [z] at e;rcases h2 with h|⟨h,_⟩
    ·rw [h] at e;have:=List.mem_singleton.mp e;omega
    ·rw [h] at e;cases e
 have le:∀ u w,u<=w->w < n->pl G w<=pl G u:=fun u w h hw=>(K.le (by omega) (up' u w h hw)).2
 have lt:∀ u w,u < b->u < w->w < n->pl G w < pl G u:=fun u w h hu hw=>by
  have a:=le u w (by omega) hw;rcases Nat.lt_or_ge (pl G w) (pl G u) with z|z
  ·exact z
  ·have:=(K.same (by omega) hw).mp (show pl G u=pl G w by omega);have:=no u w h hu hw u this.2;omega
 have eq:∀ u w,b<=u->u < n->b<=w->w < n->pl G u=pl G w:=fun u w a1 a2 a3 a4=>(K.same a2 a4).mpr ⟨back w u a3 a4 a1 a2,back u w a1 a2 a3 a4⟩
 have hit:∀ k,k < G.length->∃ x,x < n/\pl G x=k:=fun k hk=>by
  obtain ⟨x,r,e⟩:∃ x r,G[k]=x::r:=by
   cases e:G[k] with
   | nil=>exact absurd e (K.ne _ (List.getElem_mem hk))
   | cons x r=>exact ⟨x,r,rfl⟩
  have hx:x∈G[k]:=by rw [e];exact List.mem_cons_self
  exact ⟨x,K.lt (List.getElem?_eq_getElem hk) hx,K.pl_eq (List.getElem?_eq_getElem hk) hx⟩
 have pll:∀ u,u < n->pl G u < G.length:=fun u hu=>by
  obtain ⟨g,e,_⟩:=K.pl_at hu;exact (List.getElem?_eq_some_iff.mp e).1
 have p0:∀ k,k<=b->pl G (b - k)=k:=by
  intro k
  induction k with
  | zero =>
   intro _;obtain ⟨x,hx,e⟩:=hit 0 (by have:=pll b hb;omega);rw [Nat.sub_zero];rcases Nat.lt_or_ge x b with z|z
   ·have:=lt x b z z hb;omega
   ·rw [eq b x (Nat.le_refl _) hb z hx,e]
  | succ k ih =>
   intro hk;have ih:=ih (by omega);have a:=lt (b - (k+1)) (b - k) (by omega) (by omega) (by omega);rcases Nat.lt_or_ge (k+1) (pl G (b - (k+1))) with z|z
   ·obtain ⟨x,hx,e⟩:=hit (k+1) (by have:=pll (b - (k+1)) (by omega);omega);rcases Nat.lt_trichotomy x (b - (k+1)) with y|y|y
    ·have:=lt x (b - (k+1)) (by omega) y (by omega);omega
    ·rw [← y,e] at z;omega
    ·have:=le (b - k) x (by omega) hx;omega
   ·omega
 have gl:G.length=b+1:=by
  have a:=pll 0 (by omega);have c:=p0 b (Nat.le_refl _);rw [Nat.sub_self] at c;rcases Nat.lt_or_ge (b+1) G.length with z|z
  ·obtain ⟨x,hx,e⟩:=hit (b+1) z;have:=le 0 x (by omega) hx;omega
  ·omega
 have mem:∀ k (hk:k < G.length) x,x∈G[k] ↔ x < n/\pl G x=k:=fun k hk x=>by
  constructor
  ·intro hx;exact ⟨K.lt (List.getElem?_eq_getElem hk) hx,K.pl_eq (List.getElem?_eq_getElem hk) hx⟩
  ·rintro ⟨hx,e⟩;obtain ⟨g,e1,e2⟩:=K.pl_at hx;rw [e,List.getElem?_eq_getElem hk] at e1;cases e1;exact e2
 refine List.ext_getElem (by rw [gl];simp) fun k hk hk'=>?_
 have m:=List.getElem_mem hk;cases k with
 | zero =>
  refine Ni (K.so _ m) ?_ (K.gnd m) ?_ fun x=>?_
  ·show (List.range' b (n - b)).Pairwise (·<=·);exact (List.pairwise_lt_range' (s:=b) (n:=n - b)).imp Nat.le_of_lt
  ·show (List.range' b (n - b)).Nodup;exact List.nodup_range'
  ·rw [mem 0 hk x];show _ ↔ x∈List.range' b (n - b);rw [List.mem_range'_1];constructor
   ·rintro ⟨hx,e⟩;rcases Nat.lt_or_ge x b with z|z
    ·have:=lt x b z z hb;omega
    ·omega
   ·rintro ⟨a1,a2⟩;have c:=p0 0 (Nat.zero_le _);rw [Nat.sub_zero] at c;exact ⟨by omega,by rw [eq x b a1 (by omega) (Nat.le_refl _) hb,c]⟩
 | succ k =>
  have kb:k < b:=by omega
  have er:(List.range' b (n - b)::(List.range b).reverse.map (fun u=>[u]))[k+1]=[b - (k+1)]:=by
   simp only [List.getElem_cons_succ,List.getElem_map,List.getElem_reverse,List.getElem_range,List.length_range];congr 1;omega
  rw [er];refine Ni (K.so _ m) (List.pairwise_singleton _ _) (K.gnd m) (List.pairwise_singleton _ _) fun x=>?_
  rw [mem (k+1) hk x,List.mem_singleton];have c:=p0 (k+1) (by omega);constructor
  ·rintro ⟨hx,e⟩;rcases Nat.lt_trichotomy x (b - (k+1)) with y|y|y
   ·have:=lt x (b - (k+1)) (by omega) y (by omega);omega
   ·exact y
   ·have:=lt (b - (k+1)) x (by omega) y hx;omega
  ·rintro rfl;exact ⟨by omega,c⟩
end
theorem Ry {h:MH}{a:Nat}{l:List Nat}(e:h[a]?=some (.lst (l.map Ad))) (n:Nat):py h (n+1) (.ref a)=some (.list ((l.map fun n:Nat=>(n:Int)).map PyData.int)):=by
 show (match h[a]? with | some (.lst o)=>(match Bx (py h n) o with | some xs=>some (PyData.list xs) | none=>none) | _=>none)=_;rw [e];dsimp only;rw [Ur,Pg]
theorem Fx {h:MH}{a b:Nat}{x y:List Nat}(e1:h[a]?=some (.lst (x.map Ad))) (e2:h[b]?=some (.lst (y.map Ad))):eqB h (.ref a) (.ref b)=some (decide (x=y)):=by
 unfold eqB;rw [Ry e1,Ry e2];dsimp only;rw [PyData.eqv,Kd];congr 1;rw [Bool.eq_iff_iff,beq_iff_eq,decide_eq_true_iff];exact Us
theorem Pk {h:MH}{n:Nat}:∀ {gs:List Nat}{G:List (List Nat)},gs.length=G.length->(∀ (i r:Nat) (g:List Nat),gs[i]?=some r->G[i]?=some g->h[r]?=some (.lst (g.map Ad)))->Bx (py h (n+1)) (gs.map D.ref)=some (G.map fun l=>PyData.list ((l.map fun n:Nat=>(n:Int)).map PyData.int))
 | [],[],_,_=>rfl
 | r::gs,g::G,hl,hr=>by
  have i1:=Ry (hr 0 r g rfl rfl) n;have i2:=Pk (n:=n) (gs:=gs) (G:=G) (by simpa using hl) fun i=>hr (i+1)
  rw [List.map_cons];simp only [Bx,i1,i2];rfl
theorem iR:∀ G:List (List Nat),PyData.canLayAll0 (G.map fun l=>PyData.list ((l.map fun n:Nat=>(n:Int)).map PyData.int))=true:=by
 have one:∀ l:List Int,PyData.canLayAll0 (l.map PyData.int)=true:=fun l=>by
  induction l with
  | nil=>rfl
  | cons a r ih=>simp [PyData.canLayAll0,PyData.canLay0,ih]
 intro G
 induction G with
 | nil=>rfl
 | cons a r ih =>
  have:=one (a.map fun n:Nat=>(n:Int));rw [List.map_cons];simp only [PyData.canLayAll0,PyData.canLay0,this,ih,Bool.and_self]
theorem Uw {h:MH}{f f':Nat}{gs gs':List Nat}{G:List (List Nat)}(F:Fnd h f gs G) (F':Fnd h f' gs' G):eqB h (.ref f) (.ref f')=some true:=by
 have p:∀ {f gs},Fnd h f gs G->py h 60 (.ref f)=some (.list (G.map fun l=>PyData.list ((l.map fun n:Nat=>(n:Int)).map PyData.int))):=fun {f gs} F=>by
  show (match h[f]? with | some (.lst o)=>(match Bx (py h 59) o with | some xs=>some (PyData.list xs) | none=>none) | _=>none)=_;rw [F.lst];dsimp only;rw [Pk (n:=58) F.len F.row]
 unfold eqB;rw [p F,p F'];dsimp only;rw [SeqAt.eqv_refl _ (by simpa [PyData.canLay0] using iR G)]
structure Bf (E:Nat->List Nat) (n s:Nat) (ks ws:List Nat) (ex:Nat->Prop):Prop where
 nd:ks.Nodup
 lt:∀ u∈ks,u < n
 rc:∀ u∈ks,Rc E s u
 st:s∈ks
 wk:∀ u∈ws,u∈ks
 cl:∀ u∈ks,u∈ws\/ex u\/∀ t∈E u,t∈ks
 wl:ws.length<=ks.length
noncomputable def sn (ks:List Nat):Nat->Option D:=fun u=>if u∈ks then some (.bl true) else none
noncomputable def Seen (h:MH) (r:Nat) (E:Nat->List Nat) (i:Nat):Prop:=∃ kvs ks,h[r]?=some (.dct kvs)/\DV kvs (sn ks) ks/\∀ u,u∈ks ↔ Rc E i u
theorem Seen.ext {h h':MH}{r i:Nat}{E:Nat->List Nat}{W:List Nat}(s:Seen h r E i) (x:Ext W h h') (hr:r ∉ W):Seen h' r E i:=let ⟨kvs,ks,a,b,c⟩:=s;⟨kvs,ks,x.old _ _ hr a,b,c⟩
theorem xG {ks:List Nat}{t:Nat}(x:Nat):sn (ks++[t]) x=if x=t then some (.bl true) else sn ks x:=by
 unfold sn
 by_cases z:x=t
 ·rw [if_pos z,if_pos (List.mem_append.mpr (.inr (List.mem_singleton.mpr z)))]
 ·rw [if_neg z]
  by_cases y:x∈ks
  ·rw [if_pos y,if_pos (List.mem_append.mpr (.inl y))]
  ·rw [if_neg y,if_neg fun w=>(List.mem_append.mp w).elim y fun w=>z (List.mem_singleton.mp w)]
section
variable {mh:MH}{P:D->MH->Prop}
theorem xH {loc:DL.Loc}{mk mv:DM D}(h:wD mk loc (mh++[.dct []]) fun k m1=>wD mv loc m1 fun v m2=>∃ u:Nat,k=.int u/\m2[mh.length]?=some (.dct [])/\P (.ref mh.length) (m2.set mh.length (.dct [(kN u,v)]))):wD (Jp mk mv) loc mh P:=by
 obtain ⟨k,m1,e1,v,m2,e2,u,rfl,e3,p⟩:=h;refine ⟨_,_,?_,p⟩;have kn:Qu (.int (u:Int))=some (kN u):=rfl;unfold Jp;rw [e1];dsimp only;rw [e2];dsimp only;rw [e3];dsimp only;simp only [J6,e3,kn,List.length_nil,if_pos (show 0 < 1000000 by decide)];rfl
end
local macro_rules | `(tactic| walk_at "x0") => `(tactic| repeat (first | walk_at "s" | with_reducible refine G9 ?_ | with_reducible refine G8 (by simp) ?_))
section
variable {mh:MH}{e n d:Nat}{E:Nat->List Nat}{re:List Nat}{P:D->MH->Prop}
theorem Wy {h1:MH}{s js jw f0:Nat}{Q:Fl->DL.Loc->MH->Prop}{y5:Option D}(g:GC mh e n d E re) (hs:s < n) (X:Ext [] mh h1) (lj:mh.length<=js) (lw:mh.length<=jw) (jj:js≠jw) (gj:h1[js]?=some (.dct [(kN s,.bl true)])) (gw:h1[jw]?=some (.lst ([s].map Ad)))
    (fin:∀ h' y5,Ext [js,jw] h1 h'->Seen h' js E s->Q .nx [some (.ref e),some (.ref f0),some (.int s),some (.ref js),some (.ref jw),y5] h') :
    wS (Hu (Am (dop neD (vr 4) (lstM (Zr []))))
  (Ae (Hj (Fo (dop ixD (vr 0) (Bg "list" Qo (vr 4) (Zr [])))) (Bj 5)
   (Ae (ifS (Am (dop (inD true) (vr 5) (vr 3)))
    (Ae (Ay (Zr (.bl true)) (Dc (vr 3) (vr 5)))
     (Ae (Ca (Bg "list" Bo (vr 4) (Aa (vr 5) (Zr []))))
     Zn))
    Zn)
    Zn))
   Zn)) [some (.ref e),some (.ref f0),some (.int s),some (.ref js),some (.ref jw),y5] h1 Q:=by
  have few:=g.few;have ww:∀ a∈[js,jw],mh.length<=a:=fun a ha=>by
    simp only [List.mem_cons,List.not_mem_nil,or_false] at ha;rcases ha with rfl|rfl
    · exact lj
    · exact lw
  refine My (fun N l h=>∃ (kvs:List (Key×D)) (ks ws:List Nat) (y5:Option D),l=[some (.ref e),some (.ref f0),some (.int s),some (.ref js),some (.ref jw),y5]/\Bf E n s ks ws (fun _=>False)/\h[js]?=some (.dct kvs)/\DV kvs (sn ks) ks/\h[jw]?=some (.lst (ws.map Ad))/\Ext [js,jw] h1 h/\N=ws.length+2 * (n - ks.length)) (1+2 * (n - 1)) (by omega) ⟨_,[s],[s],y5,rfl,⟨List.pairwise_singleton _ _,fun u hu=>by rw [List.mem_singleton.mp hu];exact hs,fun u hu=>by rw [List.mem_singleton.mp hu];exact .refl s,List.mem_singleton.mpr rfl,fun u hu=>hu,fun u hu=>.inl hu,Nat.le_refl _⟩,gj,⟨rfl,fun u=>?_⟩,gw,Ext.refl,rfl⟩ ?_
  · have:=Ru (kvs:=[]) (k:=kN s) (k':=kN u) (d:=.bl true) rfl;rw [List.nil_append] at this;rw [this];unfold sn
    by_cases z:u=s
    · rw [if_pos (Jt.mpr z),if_pos (List.mem_singleton.mpr z)]
    · rw [if_neg fun y=>z (Jt.mp y),if_neg fun y=>z (List.mem_singleton.mp y)];rfl
  rintro N l h ⟨kvs,ks,ws,y5,rfl,B,gk,dv,gw,x,rfl⟩;have x0:Ext [] h (h++[MO.lst []]):=Ext.more;have g0:(h++[MO.lst []])[h.length]?=some (.lst (([]:List Nat).map Ad)):=Aq;have gk0:=x0.old _ _ (by simp) gk;have gw0:=x0.old _ _ (by simp) gw
  walk_at "x0"
  generalize h++[MO.lst []]=h0 at x0 g0 gk0 gw0 ⊢;refine M4 (Fx gw0 g0) ?_
  walk_at "x0"
  have X0:Ext [js,jw] h1 h0:=x.trans x0.weak;refine Bw (fun hk=>?_) fun hk=>?_
  · have wn:ws≠[]:=fun z=>by rw [decide_eq_true z] at hk;cases hk
    obtain ⟨w',v,rfl⟩:∃ w' v,ws=w'++[v]:=by
      rcases List.eq_nil_or_concat ws with z|⟨L,x,z⟩
      · exact absurd z wn
      · exact ⟨L,x,by rw [z,List.concat_eq_append]⟩
    have vk:v∈ks:=B.wk v (by simp);have vn:=B.lt v vk;rw [List.map_append] at gw0;refine Dm (Rg ?_)
    walk_at "x0"
    refine ⟨ty_list gw0,?_⟩
    walk_at "x0"
    refine Rq gw0 ?_;have x2:Ext [js,jw] h0 (h0.set jw (.lst (w'.map Ad))):=⟨by simp,fun i o hi ei=>Ac ei (fun z=>hi (by rw [← z];simp))⟩;have gw2:(h0.set jw (.lst (w'.map Ad)))[jw]?=some (.lst (w'.map Ad)):=Bl gw0;have gk2:=Ac (o:=.lst (w'.map Ad)) gk0 (fun z=>jj z.symm);generalize h0.set jw (.lst (w'.map Ad))=h2 at x2 gw2 gk2 ⊢;have X2:=X0.trans x2;obtain ⟨r,er,gr⟩:=(g.at (Cv X X2 ww)).2 v vn;refine Cj (g.at (Cv X X2 ww)).1 er ?_;have hr:r < mh.length:=by
      rw [List.getElem?_map] at er;obtain ⟨r',e1,e2⟩:=Option.map_eq_some_iff.mp er;injection e2 with e2
      have:=Ck (g.row v r' e1);omega
    refine ⟨_,src_list gr,(E v).map Ad,fun i l h=>∃ (kvs:List (Key×D)) (ks' ws:List Nat) (y5:Option D),l=[some (.ref e),some (.ref f0),some (.int s),some (.ref js),some (.ref jw),y5]/\Bf E n s ks' ws (fun u=>u=v/\∀ t∈(E v).take i,t∈ks')/\v∈ks'/\h[js]?=some (.dct kvs)/\DV kvs (sn ks') ks'/\h[jw]?=some (.lst (ws.map Ad))/\Ext [js,jw] h1 h/\h[r]?=some (.lst ((E v).map Ad))/\ws.length+2 * (n - ks'.length) < (w'++[v]).length+2 * (n - ks.length),⟨kvs,ks,w',_,rfl,⟨B.nd,B.lt,B.rc,B.st,fun u hu=>B.wk u (by simp [hu]),fun u hu=>?_,by have:=B.wl;rw [List.length_append] at this;omega⟩,vk,gk2,dv,gw2,X2,gr,by rw [List.length_append,List.length_singleton];omega⟩,?_,?_,?_⟩
    · rcases B.cl u hu with z|z|z
      · rcases List.mem_append.mp z with z|z
        · exact .inl z
        · exact .inr (.inl ⟨List.mem_singleton.mp z,fun t ht=>(by simp at ht)⟩)
      · exact z.elim
      · exact .inr (.inr z)
    · rintro i l h ⟨_,_,_,_,_,_,_,_,_,_,_,q,_⟩;exact Fw q
    · rintro i t' l h3 ed ⟨kvs3,ks3,ws3,z5,rfl,B3,vk3,gk3,dv3,gw3,x3,gr3,ms⟩;rw [List.getElem?_map] at ed;obtain ⟨t,et,rfl⟩:=Option.map_eq_some_iff.mp ed;have tE:=List.mem_of_getElem? et;have tn:=g.lt v vn t tE;have kl:=Gj B3.nd B3.lt;have wl:ws3.length<=1000000:=by
        have:=B3.wl;omega
      refine Cu ?_
      walk_at "x0"
      refine dv3.mem (u:=t) gk3 ?_
      walk_at "x0"
      refine Bw (fun hk=>?_) fun hk=>?_
      · have tk:t ∉ ks3:=fun z=>by unfold sn at hk;rw [if_pos z] at hk;simp at hk
        have c3:=dv3.new (u:=t) (d:=.bl true) (if_neg tk) (fun x=>xG (ks:=ks3) (t:=t) x);have nd4:(ks3++[t]).Nodup:=by
          rw [List.nodup_append];exact ⟨B3.nd,List.pairwise_singleton _ _,fun a ha b hb z=>tk (by rw [← List.mem_singleton.mp hb,← z];exact ha)⟩
        have lt4:∀ u∈ks3++[t],u < n:=fun u hu=>(List.mem_append.mp hu).elim (B3.lt u) fun z=>by rw [List.mem_singleton.mp z];exact tn
        have k4:=Gj nd4 lt4;rw [List.length_append,List.length_singleton] at k4;refine Dm (Gh (Eb (dv3.put (j:=js) (u:=t) ?_)))
        walk_at "x0"
        refine ⟨rfl,rfl,gk3,by omega,?_⟩;have gw4:=Ac (o:=.dct (putD kvs3 (kN t) (.bl true))) gw3 jj
        walk_at "x0"
        refine ⟨ty_list gw4,?_⟩
        walk_at "x0"
        refine Bs gw4 (by rw [List.length_map];exact wl) ?_
        walk_at "x0"
        refine ⟨_,ks3++[t],ws3++[t],_,rfl,⟨nd4,lt4,fun u hu=>?_,List.mem_append.mpr (.inl B3.st),fun u hu=>?_,fun u hu=>?_,by have:=B3.wl;simp;omega⟩,List.mem_append.mpr (.inl vk3),Ac (Bl gk3) (fun z=>jj z.symm),c3,?_,⟨by simp;exact x3.len,fun i o hi ei=>?_⟩,Ac (Ac gr3 (by omega)) (by omega),?_⟩
        · rcases List.mem_append.mp hu with z|z
          · exact B3.rc u z
          · rw [List.mem_singleton.mp z];exact .step (B3.rc v vk3) tE
        · rcases List.mem_append.mp hu with z|z
          · exact List.mem_append.mpr (.inl (B3.wk u z))
          · exact List.mem_append.mpr (.inr z)
        · rcases List.mem_append.mp hu with z|z
          · rcases B3.cl u z with y|⟨y1,y2⟩|y
            · exact .inl (List.mem_append.mpr (.inl y))
            · refine .inr (.inl ⟨y1,fun t' ht=>?_⟩);rw [List.take_add_one,et] at ht;rcases List.mem_append.mp ht with w|w
              · exact List.mem_append.mpr (.inl (y2 t' w))
              · have w:t'=t:=by simpa using w
                rw [w];simp
            · exact .inr (.inr fun t' ht=>List.mem_append.mpr (.inl (y t' ht)))
          · exact .inl (List.mem_append.mpr (.inr z))
        · rw [Bl gw4,List.map_append];rfl
        · have e1:=x3.old i o hi ei;simp only [List.mem_cons,List.not_mem_nil,or_false,not_or] at hi;exact Ac (Ac e1 (fun z=>hi.1 z.symm)) (fun z=>hi.2 z.symm)
        · rw [List.length_append,List.length_singleton,List.length_append (as:=ks3),List.length_singleton];omega
      · have tk:t∈ks3:=by
          by_cases z:t∈ks3
          · exact z
          · unfold sn at hk;rw [if_neg z] at hk;simp at hk
        walk_at "x0"
        refine ⟨kvs3,ks3,ws3,_,rfl,⟨B3.nd,B3.lt,B3.rc,B3.st,B3.wk,fun u hu=>?_,B3.wl⟩,vk3,gk3,dv3,gw3,x3,gr3,ms⟩;rcases B3.cl u hu with y|⟨y1,y2⟩|y
        · exact .inl y
        · refine .inr (.inl ⟨y1,fun t' ht=>?_⟩);rw [List.take_add_one,et] at ht;rcases List.mem_append.mp ht with w|w
          · exact y2 t' w
          · have w:t'=t:=by simpa using w
            rw [w];exact tk
        · exact .inr (.inr y)
    · rintro l h3 ⟨kvs3,ks3,ws3,z5,rfl,B3,vk3,gk3,dv3,gw3,x3,gr3,ms⟩;rw [List.length_map,List.take_length] at B3
      walk_at "x0"
      refine ⟨_,ms,kvs3,ks3,ws3,_,rfl,⟨B3.nd,B3.lt,B3.rc,B3.st,B3.wk,fun u hu=>?_,B3.wl⟩,gk3,dv3,gw3,x3,rfl⟩;rcases B3.cl u hu with y|⟨y1,y2⟩|y
      · exact .inl y
      · exact .inr (.inr (by rw [y1];exact y2))
      · exact .inr (.inr y)
  · have wn:ws=[]:=by
      by_cases z:ws=[]
      · exact z
      · rw [decide_eq_false z] at hk;cases hk
    subst wn;refine fin h0 y5 X0 ⟨kvs,ks,gk0,dv,fun u=>⟨B.rc u,fun r=>?_⟩⟩
    induction r with
    | refl=>exact B.st
    | step _ e ih =>
      rcases B.cl _ ih with y|y|y
      · cases y
      · exact y.elim
      · exact y _ e
theorem Ux (k:Nat) (g:GC mh e n d E re) (q:∀ (h':MH) (f:Nat) (rs:List Nat),Ext [] mh h'->h'[f]?=some (.lst (rs.map D.ref))->rs.length=n->(∀ i r,rs[i]?=some r->Seen h' r E i)->P (.ref f) h'):wV (Ba (Gk (k+1)) fuel f8 [.ref e] mh) P:=by
 have few:=g.few;refine Dd (Aay k) qH.1 qH.2 rfl ?_;show wS (b8 k) [some (.ref e),none,none,none,none,none] mh _;unfold b8
 walk_at "x0"
 have x0:Ext [] mh (mh++[MO.lst []]):=Ext.more;have g0:(mh++[MO.lst []])[mh.length]?=some (.lst (([]:List Nat).map D.ref)):=Aq;generalize mh++[MO.lst []]=h0 at x0 g0 ⊢;refine Hf (List.range n) Ad (fun i l h1=>∃ (rs:List Nat) (y2 y3 y4 y5:Option D),l=[some (.ref e),some (.ref mh.length),y2,y3,y4,y5]/\Ext [] mh h1/\h1[mh.length]?=some (.lst (rs.map D.ref))/\rs.length=i/\(∀ i r,rs[i]?=some r->Seen h1 r E i)/\∀ r∈rs,mh.length < r) ?_ ?_ ?_
 ·walk_at "x0"
  refine Dv (g.at x0).1 ?_
  walk_at "x0"
  rw [List.length_map,g.len];exact ⟨_,Fd (by omega),rfl,[],_,_,_,_,rfl,x0,g0,rfl,fun i r z=>(by cases z),fun r z=>by cases z⟩
 ·rintro i x l h1 ex ⟨rs,y2,y3,y4,y5,rfl,x1,g1,rl,sr,rf⟩;have hi:i < n:=by have:=(List.getElem?_eq_some_iff.mp ex).1;rw [List.length_range] at this;exact this
  have ex:x=i:=by rw [List.getElem?_range hi] at ex;cases ex;rfl
  subst ex;have l1:=Ck g1;refine Cu (Dm (Gh (xH ?_)))
  walk_at "x0"
  refine ⟨x,rfl,Aq,?_⟩;have g2:((h1++[MO.dct []]).set h1.length (.dct [(kN x,.bl true)]))[h1.length]?=some (.dct [(kN x,.bl true)]):=Bl Aq;have x2:Ext [] h1 ((h1++[MO.dct []]).set h1.length (.dct [(kN x,.bl true)])):=Ext.more.setNew (Nat.le_refl _);have l2:((h1++[MO.dct []]).set h1.length (.dct [(kN x,.bl true)])).length=h1.length+1:=by simp
  generalize (h1++[MO.dct []]).set h1.length (.dct [(kN x,.bl true)])=h2 at g2 x2 l2 ⊢
  walk_at "x0"
  have g3:(h2++[MO.lst [.int x]])[h2.length]?=some (.lst ([x].map Ad)):=Aq;have x3:Ext [] h2 (h2++[MO.lst [.int x]]):=Ext.more;have g2':=x3.old _ _ (by simp) g2;generalize h2++[MO.lst [.int x]]=h3 at g3 x3 g2' ⊢;have x23:=x2.trans x3;refine Wy g hi (x1.trans x23) (by omega) (by omega) (by omega) g2' g3 fun h4 z5 x4 s4=>?_
  have g4:=x4.old _ _ (by simp only [List.mem_cons,List.not_mem_nil,or_false,not_or];exact ⟨by omega,by omega⟩) (x23.old _ _ (by simp) g1);have x14:Ext [] h1 h4:=⟨Nat.le_trans x23.len x4.len,fun a o _ ea=>x4.old _ _ (by simp only [List.mem_cons,List.not_mem_nil,or_false,not_or];have:=Ck ea;exact ⟨by omega,by omega⟩) (x23.old _ _ (by simp) ea)⟩
  walk_at "x0"
  refine ⟨ty_list g4,?_⟩
  walk_at "x0"
  refine Bs g4 (by rw [List.length_map];omega) ?_
  walk_at "x0"
  have x5:Ext [mh.length] h4 (h4.set mh.length (.lst (rs.map D.ref++[.ref h1.length]))):=Ext.set;refine ⟨rs++[h1.length],_,_,_,_,rfl,Cv (x1.trans x14) x5 (by simp),?_,by rw [List.length_append,rl];rfl,fun a r ea=>?_,fun r hr=>?_⟩
  ·rw [Bl g4,List.map_append];rfl
  ·rcases Nat.lt_or_ge a rs.length with z|z
   ·rw [List.getElem?_append_left z] at ea;have:=rf r (List.mem_of_getElem? ea);exact ((sr a r ea).ext x14 (by simp)).ext x5 (by intro z;have:=List.mem_singleton.mp z;omega)
   ·rw [List.getElem?_append_right z] at ea;have a0:a - rs.length=0:=by
     have:=(List.getElem?_eq_some_iff.mp ea).1;simp at this;omega
    rw [a0] at ea;cases ea;rw [show a=x by omega];exact s4.ext x5 (by intro z;have:=List.mem_singleton.mp z;omega)
  ·rcases List.mem_append.mp hr with z|z
   ·exact rf r z
   ·rw [List.mem_singleton.mp z];exact l1
 ·rintro l h1 ⟨rs,y2,y3,y4,y5,rfl,x1,g1,rl,sr,rf⟩;rw [List.length_range] at rl
  walk_at "x0"
  exact q _ _ rs x1 g1 rl sr
end
noncomputable def pf (G:List (List Nat)) (ks:List Nat):Nat->Option D:=fun u=>if u∈ks then some (Ad (pl G u)) else none
theorem xJ {G:List (List Nat)}{ks:List Nat}{t k:Nat}(e:pl G t=k) (x:Nat):pf G (ks++[t]) x=if x=t then some (Ad k) else pf G ks x:=by
 unfold pf
 by_cases z:x=t
 ·rw [if_pos z,if_pos (List.mem_append.mpr (.inr (List.mem_singleton.mpr z))),z,e]
 ·rw [if_neg z]
  by_cases y:x∈ks
  ·rw [if_pos y,if_pos (List.mem_append.mpr (.inl y))]
  ·rw [if_neg y,if_neg fun w=>(List.mem_append.mp w).elim y fun w=>z (List.mem_singleton.mp w)]
theorem Uy:∀ {kvs:List (Key×D)}{ks:List Nat},kvs.map (·.1)=ks.map kN->O9 kvs=some (ks.map fun n:Nat=>(n:Int))
 | [],[],_=>rfl
 | (k,d)::kvs,u::ks,h=>by
  rw [List.map_cons,List.map_cons] at h;injection h with h1 h2
  have h1:k=.inl (u:Int):=h1;subst h1;simp only [O9,Uy h2,List.map_cons]
section
variable {mh:MH}{P:D->MH->Prop}
theorem pA {j:Nat}{kvs:List (Key×D)}{f:Nat->Option D}{ks:List Nat}(e:mh[j]?=some (.dct kvs)) (dv:DV kvs f ks) (hz:ks.length < 64) (h:P (.ref mh.length) (mh++[.lst ((Ib ks).map Ad)])):wV (Bv [.ref j] mh) P:=by
 rw [Ju,M7] at h;refine ⟨_,_,?_,h⟩;have e1:Bv [.ref j] mh=Gg [.ref j] mh:=by
  unfold Bv;simp only [e];unfold Ez;simp only [e]
 rw [e1];unfold Gg;simp only [e,Uy dv.key,List.length_map,if_pos hz]
theorem pB {n:Nat}(hn:n<=1000000) (h:P (.ref mh.length) (mh++[.lst ((List.range n).map Ad)])):wV (Dy (.int n) mh) P:=by
 refine ⟨_,_,?_,h⟩;unfold Dy;dsimp only;rw [if_pos (by omega),Int.toNat_natCast,M6]
end
section
variable {mh:MH}{e f n d:Nat}{E:Nat->List Nat}{re gs:List Nat}{G:List (List Nat)}{P:D->MH->Prop}
theorem Fnd.ext {h h':MH}{W:List Nat}(F:Fnd h f gs G) (x:Ext W h h') (hf:f ∉ W) (hg:∀ r∈gs,r ∉ W):Fnd h' f gs G:=⟨x.old _ _ hf F.lst,F.len,fun i r g e1 e2=>x.old _ _ (hg r (List.mem_of_getElem? e1)) (F.row i r g e1 e2)⟩
theorem Fnd.at (F:Fnd mh f gs G) {i:Nat}{g:List Nat}(h:G[i]?=some g):∃ r,gs[i]?=some r/\mh[r]?=some (.lst (g.map Ad)):=by
 have hi:i < gs.length:=by rw [F.len];exact (List.getElem?_eq_some_iff.mp h).1
 exact ⟨gs[i],List.getElem?_eq_getElem hi,F.row i _ g (List.getElem?_eq_getElem hi) h⟩
theorem Wz {loc:DL.Loc}{Q:D->MH->Prop}(hl:loc[1]?=some (some (.ref f))) (F:Fnd mh f gs G) (K:Kn E n G) (hn:n < 64) (q:∀ h',Ext [] mh h'->Q (.ref h'.length) (h'++[.lst (([]:List Nat).map Ad)])) :
  wD (Ec (Fo (vr 1)) [none,none] (Bj 1) (Nq (Am (dop neD (vr 1) (Bt Bv (Aa (vr 1) (Zr []))))) (Am (dop eqD (vr 1) (lstM (Zr []))))) (vr 1)) loc mh Q:=by
 have gl:G.length<=n:=Nat.le_trans (Gw K.ne) (Gj K.nd fun x hx=>(K.mem x).mp hx);refine Kv ?_;refine Wk (Yi hl ?_);refine ⟨_,src_list F.lst,gs.map D.ref,fun i acc h=>acc=[]/\Ext [] mh h,by rw [List.length_map,F.len];omega,⟨rfl,Ext.refl⟩,fun i acc h z=>Fw (z.2.old _ _ (by simp) F.lst),fun i acc h z=>by rw [z.1];exact Nat.zero_le _,?_,?_⟩
 ·rintro i x acc h ed ⟨rfl,xh⟩;rw [List.getElem?_map] at ed;obtain ⟨r,er,rfl⟩:=Option.map_eq_some_iff.mp ed;have hi:i < G.length:=by rw [← F.len];exact (List.getElem?_eq_some_iff.mp er).1
  have mg:G[i]∈G:=List.getElem_mem hi;have gr:=xh.old _ _ (by simp) (F.row i r G[i] er (List.getElem?_eq_getElem hi));have so:=K.so _ mg;have ne:=K.ne _ mg;have lg:(G[i]).length<=n:=Gj (K.gnd mg) fun x hx=>K.lt (List.getElem?_eq_getElem hi) hx
  generalize G[i]=g at gr so ne lg;refine Cu ?_;show wD _ [none,some (.ref r)] h _
  walk_at "x0"
  refine iC gr (.inl (by omega)) ?_;rw [← Rv (List.Perm.refl g) so];have x1:Ext [] h (h++[MO.lst (g.map Ad)]):=Ext.more;have g1:(h++[MO.lst (g.map Ad)])[h.length]?=some (.lst (g.map Ad)):=Aq;have gr1:=x1.old _ _ (by simp) gr;generalize h++[MO.lst (g.map Ad)]=h1 at x1 g1 gr1 ⊢;refine M4 (Fx gr1 g1) ?_;rw [decide_eq_true rfl]
  walk_at "x0"
  have x2:Ext [] h1 (h1++[MO.lst []]):=Ext.more;have g2:(h1++[MO.lst []])[h1.length]?=some (.lst (([]:List Nat).map Ad)):=Aq;have gr2:=x2.old _ _ (by simp) gr1;generalize h1++[MO.lst []]=h2 at x2 g2 gr2 ⊢;refine pY (Fx gr2 g2) ?_;rw [decide_eq_false ne]
  walk_at "x0"
  exact ⟨rfl,(xh.trans x1).trans x2⟩
 ·rintro acc h ⟨rfl,xh⟩;exact q h xh
end
section
variable {mh:MH}{e f n d:Nat}{E:Nat->List Nat}{re gs:List Nat}{G:List (List Nat)}{P:D->MH->Prop}
theorem W0 (K:Kn E n G) {k i x:Nat}{g:List Nat}(hk:G[k]?=some g) (hx:g[i]?=some x):x ∉ (G.take k).flatten++g.take i/\pl G x=k:=by
 have xg:=List.mem_of_getElem? hx;refine ⟨fun z=>?_,K.pl_eq hk xg⟩;rcases List.mem_append.mp z with z|z
 ·obtain ⟨g',h1,h2⟩:=List.mem_flatten.mp z;obtain ⟨j,hj,ej⟩:=List.getElem_of_mem h1;have jk:j < k:=by rw [List.length_take] at hj;omega
  have e1:G[j]?=some g':=by
   rw [← ej,List.getElem_take];exact List.getElem?_eq_getElem _
  have:=Pj K.nd e1 hk h2 xg;omega
 ·have nd:=K.gnd (List.mem_of_getElem? hk);obtain ⟨j,hj,ej⟩:=List.getElem_of_mem z;have hl:=hj;rw [List.length_take] at hl;rw [List.getElem_take] at ej;obtain ⟨hi,ei⟩:=List.getElem?_eq_some_iff.mp hx;have:=(List.getElem_inj nd).mp (ej.trans ei.symm);omega
theorem W2 (K:Kn E n G):Ib G.flatten=List.range n:=by
 refine Ni (iB _) (List.pairwise_lt_range.imp Nat.le_of_lt) ((M8 _).nodup_iff.mpr K.nd) List.nodup_range fun x=>?_
 rw [(M8 _).mem_iff,K.mem,List.mem_range]
theorem Pn (k:Nat) (g:GC mh e n d E re) (F:Fnd mh f gs G) (K:Kn E n G) (hn:n < 64) (q:∀ h',Ext [] mh h'->P (.bl true) h'):wV (Ba (Gk (k+2)) fuel f9 [.ref e,.ref f] mh) P:=by
 have gl:G.length<=n:=Nat.le_trans (Gw K.ne) (Gj K.nd fun x hx=>(K.mem x).mp hx);have fl:G.flatten.length<=n:=Gj K.nd fun x hx=>(K.mem x).mp hx
 refine Dd (Aaz (k+1)) qI.1 qI.2 rfl ?_;show wS (b9 (k+1)) [some (.ref e),some (.ref f),none,none,none,none,none,none] mh _;unfold b9
 walk_at "x0"
 refine gQ F.lst ?_
 walk_at "x0"
 refine Wz rfl F K hn fun h1 x1=>?_
 have g1:(h1++[MO.lst (([]:List Nat).map Ad)])[h1.length]?=some (.lst (([]:List Nat).map Ad)):=Aq;have y1:Ext [] h1 (h1++[MO.lst (([]:List Nat).map Ad)]):=Ext.more;generalize h1++[MO.lst (([]:List Nat).map Ad)]=h2 at g1 y1 ⊢;have x2:=x1.trans y1
 walk_at "x0"
 have g2:(h2++[MO.lst []])[h2.length]?=some (.lst (([]:List Nat).map Ad)):=Aq;have y2:Ext [] h2 (h2++[MO.lst []]):=Ext.more;have g1':=y2.old _ _ (by simp) g1;generalize h2++[MO.lst []]=h3 at g2 y2 g1' ⊢;have x3:=x2.trans y2;refine M4 (Fx g1' g2) ?_;rw [decide_eq_true rfl]
 walk_at "x0"
 refine oF ?_;have gp:(h3++[MO.dct []])[h3.length]?=some (.dct []):=Aq;have y3:Ext [] h3 (h3++[MO.dct []]):=Ext.more;have x4:=x3.trans y3;have lp:=x3.len;generalize h3.length=jp at gp lp ⊢;generalize h3++[MO.dct []]=h4 at gp y3 x4 ⊢
 walk_at "x0"
 have wm:∀ a∈[jp],mh.length<=a:=fun a ha=>by rw [List.mem_singleton.mp ha];exact lp
 refine Hf (List.range G.length) Ad (fun i l h=>∃ (kvs:List (Key×D)) (y3 y4:Option D),l=[some (.ref e),some (.ref f),some (.ref jp),y3,y4,none,none,none]/\Ext [] mh h/\h[jp]?=some (.dct kvs)/\DV kvs (pf G (G.take i).flatten) (G.take i).flatten) ?_ ?_ ?_
 ·refine Rf ?_
  walk_at "x0"
  refine Dv (x4.old _ _ (by simp) F.lst) ?_
  walk_at "x0"
  rw [List.length_map,F.len];exact ⟨_,Fd (by omega),rfl,[],_,_,rfl,x4,gp,DV.nil⟩
 ·rintro i x l h5 ex ⟨kvs,z3,z4,rfl,x5,g5,d5⟩;have hi:i < G.length:=by have:=(List.getElem?_eq_some_iff.mp ex).1;rw [List.length_range] at this;exact this
  have ex:x=i:=by rw [List.getElem?_range hi] at ex;cases ex;rfl
  subst ex;have eg:=List.getElem?_eq_getElem hi;obtain ⟨r,er,gr⟩:=F.at eg;have hr:=Ck gr;have et:(G.take (x+1)).flatten=(G.take x).flatten++G[x]:=by rw [List.take_add_one,eg,List.flatten_append];simp
  generalize G[x]=gg at eg gr et;have lg:gg.length<=n:=Gj (K.gnd (List.mem_of_getElem? eg)) fun u hu=>K.lt eg hu
  have lt1:((G.take x).flatten).length<=n:=by
   refine Gj (K.nd.sublist ?_) fun u hu=>?_
   ·have:=List.sublist_append_left (G.take x).flatten (G.drop x).flatten;rw [← List.flatten_append,List.take_append_drop] at this;exact this
   ·obtain ⟨g',h1,h2⟩:=List.mem_flatten.mp hu;exact (K.mem u).mp (List.mem_flatten.mpr ⟨g',List.mem_of_mem_take h1,h2⟩)
  refine Cu (Dm (Rg ?_))
  walk_at "x0"
  refine Cj (d:=.ref r) (x5.old _ _ (by simp) F.lst) (by rw [List.getElem?_map,er];rfl) ?_;refine ⟨_,src_list (x5.old _ _ (by simp) gr),gg.map Ad,fun i l h=>∃ (kvs:List (Key×D)) (y4:Option D),l=[some (.ref e),some (.ref f),some (.ref jp),some (.int x),y4,none,none,none]/\Ext [] mh h/\h[jp]?=some (.dct kvs)/\DV kvs (pf G ((G.take x).flatten++gg.take i)) ((G.take x).flatten++gg.take i),⟨kvs,_,rfl,x5,g5,by rw [List.take_zero,List.append_nil];exact d5⟩,?_,?_,?_⟩
  ·rintro i l h ⟨_,_,_,xh,_⟩;exact Fw (xh.old _ _ (by simp) gr)
  ·rintro i t' l h6 ed ⟨kvs6,z4,rfl,x6,g6,d6⟩;rw [List.getElem?_map] at ed;obtain ⟨t,et',rfl⟩:=Option.map_eq_some_iff.mp ed;obtain ⟨nt,pt⟩:=W0 K eg et';refine Cu ?_
   walk_at "x0"
   refine d6.mem (u:=t) g6 ?_
   walk_at "x0"
   refine Fb (by unfold pf;rw [if_neg nt];rfl) ?_;refine Gv (Ce (Dm (Gh (Yi rfl (d6.put (j:=jp) (u:=t) ?_)))))
   walk_at "x0"
   refine ⟨rfl,rfl,g6,?_,?_⟩
   ·rw [List.length_append,List.length_take];omega
   walk_at "x0"
   have en:(G.take x).flatten++gg.take (i+1)=((G.take x).flatten++gg.take i)++[t]:=by rw [List.take_add_one,et',List.append_assoc];rfl
   refine ⟨_,_,rfl,Cv x6 Ext.set wm,Bl g6,?_⟩;rw [en];exact d6.new (u:=t) (if_neg nt) (xJ pt)
  ·rintro l h6 ⟨kvs6,z4,rfl,x6,g6,d6⟩;rw [List.length_map,List.take_length,← et] at d6
   walk_at "x0"
   exact ⟨kvs6,_,_,rfl,x6,g6,d6⟩
 ·rintro l h5 ⟨kvs,z3,z4,rfl,x5,g5,d5⟩;rw [List.length_range,List.take_length] at d5;have mf:∀ u,u < n->u∈G.flatten:=fun u hu=>(K.mem u).mpr hu
  walk_at "x0"
  refine pA g5 d5 (by omega) ?_;rw [W2 K];have g6:(h5++[MO.lst ((List.range n).map Ad)])[h5.length]?=some (.lst ((List.range n).map Ad)):=Aq;have y6:Ext [] h5 (h5++[MO.lst ((List.range n).map Ad)]):=Ext.more;generalize h5++[MO.lst ((List.range n).map Ad)]=h6 at g6 y6 ⊢;have x6:=x5.trans y6
  walk_at "x0"
  refine Dv (g.at x6).1 ?_;rw [List.length_map,g.len]
  walk_at "x0"
  refine pB (by omega) ?_;have g7:(h6++[MO.lst ((List.range n).map Ad)])[h6.length]?=some (.lst ((List.range n).map Ad)):=Aq;have y7:Ext [] h6 (h6++[MO.lst ((List.range n).map Ad)]):=Ext.more;have g6':=y7.old _ _ (by simp) g6;have g5':=y7.old _ _ (by simp) (y6.old _ _ (by simp) g5);generalize h6++[MO.lst ((List.range n).map Ad)]=h7 at g7 y7 g6' g5' ⊢;have x7:=x6.trans y7;refine M4 (Fx g6' g7) ?_;rw [decide_eq_true rfl]
  walk_at "x0"
  have gc7:GC h7 e n d E re:=⟨x7.old _ _ (by simp) g.lst,g.len,fun i r h=>x7.old _ _ (by simp) (g.row i r h),g.deg,g.lt,g.few,g.meas,g.asc⟩;refine Ux k gc7 fun h8 fr rs x8 gf rl sr=>?_
  have g8:=x8.old _ _ (by simp) g5';have X8:=x7.trans x8
  walk_at "x0"
  have seen:∀ u,u < n->∃ r,(rs.map D.ref)[u]?=some (.ref r)/\Seen h8 r E u:=fun u hu=>by
   have hu':u < rs.length:=by rw [rl];exact hu
   exact ⟨rs[u],by rw [List.getElem?_map,List.getElem?_eq_getElem hu'];rfl,sr u _ (List.getElem?_eq_getElem hu')⟩
  refine Hf (List.range n) Ad (fun i l h=>∃ (y6 y7:Option D),l=[some (.ref e),some (.ref f),some (.ref jp),z3,z4,some (.ref fr),y6,y7]/\h=h8) ?_ ?_ ?_
  ·refine Rf ?_
   walk_at "x0"
   refine Dv (g.at X8).1 ?_
   walk_at "x0"
   rw [List.length_map,g.len];exact ⟨_,Fd (by omega),rfl,_,_,rfl,rfl⟩
  ·rintro i u l h9 ex ⟨w6,w7,rfl,rfl⟩;have hi:i < n:=by have:=(List.getElem?_eq_some_iff.mp ex).1;rw [List.length_range] at this;exact this
   have ex:u=i:=by rw [List.getElem?_range hi] at ex;cases ex;rfl
   subst ex;refine Cu ?_
   walk_at "x0"
   refine Hf (List.range n) Ad (fun i l h=>∃ (y7:Option D),l=[some (.ref e),some (.ref f),some (.ref jp),z3,z4,some (.ref fr),some (.int u),y7]/\h=h9) ?_ ?_ ?_
   ·refine Rf ?_
    walk_at "x0"
    refine Dv (g.at X8).1 ?_
    walk_at "x0"
    rw [List.length_map,g.len];exact ⟨_,Fd (by omega),rfl,_,rfl,rfl⟩
   ·rintro j w l h10 ex ⟨v7,rfl,rfl⟩;have hj:j < n:=by have:=(List.getElem?_eq_some_iff.mp ex).1;rw [List.length_range] at this;exact this
    have ex:w=j:=by rw [List.getElem?_range hj] at ex;cases ex;rfl
    subst ex;obtain ⟨r1,e1,kv1,ks1,s1,d1,m1⟩:=seen u hi;obtain ⟨r2,e2,kv2,ks2,s2,d2,m2⟩:=seen w hj;have same:=K.same hi hj;have plu:pf G G.flatten u=some (Ad (pl G u)):=if_pos (mf u hi);have plw:pf G G.flatten w=some (Ad (pl G w)):=if_pos (mf w hj);have last:∀ {Q:Fl->DL.Loc->MH->Prop},Q .nx [some (.ref e),some (.ref f),some (.ref jp),z3,z4,some (.ref fr),some (.int u),some (.int w)] h10->wS (Ae (ifS (Ik (Am (dop (inD false) (vr 7) (dop ixD (vr 5) (vr 6)))) (Am (dop gtD (dop ixD (vr 2) (vr 7)) (dop ixD (vr 2) (vr 6))))) (Ae (retS (Zr (.bl false))) Zn) Zn) Zn) [some (.ref e),some (.ref f),some (.ref jp),z3,z4,some (.ref fr),some (.int u),some (.int w)] h10 Q:=by
     intro Q hQ
     walk_at "x0"
     refine Cj gf e1 ?_;refine d1.mem (u:=w) s1 ?_
     walk_at "x0"
     refine Bw (fun hk=>?_) fun hk=>?_
     ·have wk:w∈ks1:=by
       by_cases z:w∈ks1
       ·exact z
       ·unfold sn at hk;rw [if_neg z] at hk;simp at hk
      have le:=(K.le hi ((m1 w).mp wk)).2
      walk_at "x0"
      refine d5.at (u:=w) g8 plw ?_
      walk_at "x0"
      refine d5.at (u:=u) g8 plu ?_
      walk_at "x0"
      refine Fb (decide_eq_false (by omega)) ?_
      walk_at "x0"
      exact hQ
     ·walk_at "x0"
      exact hQ
    refine Cu ?_
    walk_at "x0"
    refine d5.at (u:=u) g8 plu ?_
    walk_at "x0"
    refine d5.at (u:=w) g8 plw ?_
    walk_at "x0"
    refine Cj gf e1 ?_;refine d1.mem (u:=w) s1 ?_
    by_cases z1:w∈ks1
    ·have t1:(sn ks1 w).isSome=true:=by unfold sn;rw [if_pos z1];rfl
     refine ⟨true,congrArg D.bl t1,fun _=>?_,fun z=>(by cases z)⟩
     walk_at "x0"
     refine Cj gf e2 ?_;refine d2.mem (u:=u) s2 ?_;have eb:(((pl G u:Nat):Int)==((pl G w:Nat):Int))=(sn ks2 u).isSome:=by
      by_cases z2:u∈ks2
      ·have:pl G u=pl G w:=same.mpr ⟨(m1 w).mp z1,(m2 u).mp z2⟩;unfold sn;rw [if_pos z2,this];simp
      ·have:pl G u≠pl G w:=fun y=>z2 ((m2 u).mpr (same.mp y).2)
       unfold sn;rw [if_neg z2];rw [beq_eq_false_iff_ne.mpr (by omega)];rfl
     refine Ym (congrArg D.bl eb) rfl ?_;refine Yk (Fb rfl (Gv (Ce (last ?_))));exact ⟨_,rfl,rfl⟩
    ·have t1:(sn ks1 w).isSome=false:=by unfold sn;rw [if_neg z1];rfl
     refine ⟨false,congrArg D.bl t1,fun z=>(by cases z),fun _=>?_⟩;have eb:(((pl G u:Nat):Int)==((pl G w:Nat):Int))=false:=by
      have:pl G u≠pl G w:=fun y=>z1 ((m1 w).mpr (same.mp y).1)
      exact beq_eq_false_iff_ne.mpr (by omega)
     refine Ym (congrArg D.bl eb) rfl ?_;refine Yk (Fb rfl (Gv (Ce (last ?_))));exact ⟨_,rfl,rfl⟩
   ·rintro l h10 ⟨v7,rfl,rfl⟩
    walk_at "x0"
    exact ⟨_,_,rfl,rfl⟩
  ·rintro l h9 ⟨w6,w7,rfl,rfl⟩
   walk_at "x0"
   exact q _ X8
end
theorem Nj (k:Nat) (ns:List Int) (i:Nat) (mh:MH) {P:D->MH->Prop}(h:∀ v:Int,P (.int v) mh):wV (Ba (Gk (k+1)) fuel f4 [.rol (ns.map D.int),.int i] mh) P:=by
 refine Dd (Aau k) qC.1 qC.2 rfl ?_;show wS (b4 k) [some (.rol (ns.map D.int)),some (.int i)] mh _;unfold b4;walk_at "r"
 refine gG (by intro z;simp) rfl ?_;walk_at "r"
 refine Bw (fun hk=>?_) fun hk=>?_
 ·walk_at "r"
  rw [decide_eq_true_iff,List.length_map] at hk;have hi:i < ns.length:=by omega
  refine wI (d:=.int ns[i]) (by rw [List.getElem?_map,List.getElem?_eq_getElem hi];rfl) ?_;exact h _
 ·walk_at "r"
  exact h _
theorem aH (k:Nat) (x:Int) (mh:MH) {P:D->MH->Prop}(h:∀ v:Int,P (.int v) mh):wV (Ba (Gk (k+1)) fuel f5 [.int x] mh) P:=by
 refine Dd (Aav k) qD.1 qD.2 rfl ?_;show wS (b5 k) [some (.int x)] mh _;unfold b5;walk_at "r"
 refine Dp (by decide) ?_;walk_at "r"
 refine Wn (.inr ⟨by decide,by decide⟩) ?_;walk_at "r"
 refine Dp (by decide) ?_;generalize ((x.fmod 2147483647+1) * 48271)=y;have l1:=Ys y (j:=2147483647) (by decide);have l2:=Yt y (j:=2147483647) (by decide);generalize y.fmod 2147483647=z at l1 l2;walk_at "r"
 refine Gi (by decide) (by decide) ?_;walk_at "r"
 refine Wn (.inl ⟨by omega,by omega⟩) ?_;walk_at "r"
 refine Dp (by decide) ?_;generalize (z * (z.fdiv 1009+69621))=y2;have m1:=Ys y2 (j:=2147483647) (by decide);have m2:=Yt y2 (j:=2147483647) (by decide);generalize y2.fmod 2147483647=z2 at m1 m2;walk_at "r"
 refine Gi (by decide) (by decide) ?_;walk_at "r"
 refine Wn (.inl ⟨by omega,by omega⟩) ?_;walk_at "r"
 refine Dp (by decide) ?_;exact h _
theorem Ei (k n:Nat) (b:Int) (mh:MH) (hs:St3 mh n) (h0:0 < b) (h1:b < 1073741824) {P:D->MH->Prop}(h:∀ (r:Nat) (mh':MH),(r:Int) < b->Ext [n] mh mh'->mh'.length=mh.length->St3 mh' n->P (.int r) mh') :
    wV (Ba (Gk (k+2)) fuel f6 [.ref n,.int b] mh) P:=by
  obtain ⟨s0,s1,s2,hm⟩:=hs;have nat:∀ (i:Int) (mh':MH),Ext [n] mh mh'->mh'.length=mh.length->St3 mh' n->P (.int (i.fmod b)) mh':=fun i mh' e l s=>by
    have l1:=Ys i h0;have l2:=Yt i h0;have e1:((i.fmod b).toNat:Int)=i.fmod b:=by omega
    have:=h (i.fmod b).toNat mh' (by omega) e l s;rw [e1] at this;exact this
  refine Dd (Aaw (k+1)) qF.1 qF.2 rfl ?_;show wS (b6 (k+1)) [some (.ref n),some (.int b),none] mh _;unfold b6
  have rest:wS (Ae (Ay (Bt (Ba (Gk (k+1)) fuel f5) (Aa (dop Hg (dop ixD (vr 0) (Zr (.int 2))) (Zr (.int 1))) (Zr []))) (Dc (vr 0) (Zr (.int 2))))
 (Ae (retS (dop Ia (dop Jh (dop ixD (vr 0) (Zr (.int 2))) (Zr (.int 7))) (vr 1)))
 Zn)) [some (.ref n),some (.int b),none] mh (gF P):=by
    walk_at "r"
    refine Cj (j:=2) hm rfl ?_;walk_at "r"
    refine aH k _ mh fun v=>?_
    walk_at "r"
    refine ⟨_,Uq (k:=2) hm (by simp),?_⟩;walk_at "r"
    have hm2:=Bl (o:=.lst [.int s0,.int s1,.int v]) hm;refine Cj (j:=2) hm2 rfl ?_;walk_at "r"
    refine Gi (by decide) (by decide) ?_;walk_at "r"
    refine Dp (by omega) ?_;exact nat _ _ Ext.set (by rw [List.length_set]) ⟨_,_,_,hm2⟩
  walk_at "r"
  refine Cj (j:=1) hm rfl ?_;walk_at "r"
  refine Bw (fun e1=>?_) fun e1=>?_
  · walk_at "r"
    refine Cj (j:=0) hm rfl ?_;walk_at "r"
    refine Bw (fun e2=>?_) fun e2=>?_
    · walk_at "r"
      refine Cj (j:=0) hm rfl ?_;walk_at "r"
      refine Dp (by omega) ?_;walk_at "r"
      refine Cj (j:=0) hm rfl ?_;walk_at "r"
      refine Gi (by omega) (by omega) ?_;walk_at "r"
      refine ⟨_,Uq (k:=0) hm (by simp),?_⟩;walk_at "r"
      have hm2:=Bl (o:=.lst [.int (s0.fdiv b),.int s1,.int s2]) hm;exact nat _ _ Ext.set (by rw [List.length_set]) ⟨_,_,_,hm2⟩
    · exact Gv (Ce rest)
  · exact gH (Gv (Ce rest))
theorem xK {ns:List Int}{lo hi:Option Int}{mh:MH}{P:D->MH->Prop}(h:P (.ref mh.length) (mh++[.lst ((DL.cutD ns lo hi).map D.int)])):wV (slD (.rol (ns.map D.int)) lo hi mh) P:=by
 refine ⟨_,_,?_,h⟩;show some (D.ref mh.length,mh++[MO.lst (DL.cutD (ns.map D.int) lo hi)])=_;have:DL.cutD (ns.map D.int) lo hi=(DL.cutD ns lo hi).map D.int:=by
  unfold DL.cutD;rw [List.length_map,← List.map_drop,← List.map_take]
 rw [this]
theorem pC (ns:List Int):(DL.cutD ns (some 1) (some 20)).length<=19:=by
 unfold DL.cutD;rw [show HT.sIx ns.length 0 (some 1)=min 1 ns.length from HT.sIx_nat _ _ 1,show HT.sIx ns.length ns.length (some 20)=min 20 ns.length from HT.sIx_nat _ _ 20,List.length_take,List.length_drop];omega
structure Dr (h:MH) (n e size B:Nat) (re:List Nat) (Es:List (List Nat)):Prop where
 F:Fnd h e re Es
 nd:re.Nodup
 ok:∀ r∈re,r≠n/\r≠e
 rows:∀ row∈Es,row.length<=B/\∀ t∈row,t < size
theorem Dr.rl {h:MH}{n e size B:Nat}{re:List Nat}{Es:List (List Nat)}(w:Dr h n e size B re Es):∀ r∈re,r < h.length:=fun r hr=>by
 obtain ⟨i,hi,ei⟩:=List.getElem_of_mem hr;have hg:i < Es.length:=by rw [← w.F.len];exact hi
 exact Ck (w.F.row i r Es[i] (by rw [List.getElem?_eq_getElem hi,ei]) (List.getElem?_eq_getElem hg))
theorem Dr.up {h:MH}{n e size B B':Nat}{re:List Nat}{Es:List (List Nat)}(w:Dr h n e size B re Es) (hb:B<=B'):Dr h n e size B' re Es:=⟨w.F,w.nd,w.ok,fun row hr=>⟨Nat.le_trans (w.rows row hr).1 hb,(w.rows row hr).2⟩⟩
local macro_rules | `(tactic| walk_at "x2") => `(tactic| repeat (first | walk_at "s" | with_reducible refine G9 ?_ | with_reducible refine G8 (by simp) ?_ | with_reducible refine Gi (by decide) (by decide) ?_ | with_reducible refine Dp (by decide) ?_))
theorem aJ (k n:Nat) (ns:List Int) (mh:MH) (hs:St3 mh n) {P:D->MH->Prop}(q:∀ h' e re Es,Fnd h' e re Es->Es.length<=9->(∀ row∈Es,row.length<=22/\∀ t∈row,t < Es.length)->P (.ref e) h'):wV (Ba (Gk (k+3)) fuel f7 [.rol (ns.map D.int),.ref n] mh) P:=by
 refine Dd (Aax (k+2)) qG.1 qG.2 rfl ?_;show wS (b7 (k+2)) [some (.rol (ns.map D.int)),some (.ref n),none,none,none,none] mh _;unfold b7
 walk_at "x2"
 refine Ei k n 10 mh hs (by decide) (by decide) fun size h1 hz x1 l1 s1=>?_
 walk_at "x2"
 have x2:Ext [] h1 (h1++[MO.lst []]):=Ext.more;have g2:(h1++[MO.lst []])[h1.length]?=some (.lst (([]:List Nat).map D.ref)):=Aq;have s2:=s1.ext x2 (by simp);have ne:n≠h1.length:=fun z=>by
  obtain ⟨_,_,_,hm⟩:=s1;have:=Ck hm;omega
 generalize h1.length=e at g2 ne ⊢;generalize h1++[MO.lst []]=h2 at x2 g2 s2 ⊢;refine Hf (List.range size) Ad (fun i l h=>∃ (re:List Nat) (Es:List (List Nat)) (y4:Option D),l=[some (.rol (ns.map D.int)),some (.ref n),some (.int size),some (.ref e),y4,none]/\Dr h n e size 3 re Es/\Es.length=i/\St3 h n) ?_ ?_ ?_
 ·walk_at "x2"
  exact ⟨_,Fd (by omega),rfl,[],[],_,rfl,⟨⟨g2,rfl,fun i r g z=>(by cases z)⟩,List.nodup_nil,fun r z=>(by cases z),fun r z=>(by cases z)⟩,rfl,s2⟩
 ·rintro i x l h3 ex ⟨re,Es,y4,rfl,w,el,s3⟩;have hi:i < size:=by have:=(List.getElem?_eq_some_iff.mp ex).1;rw [List.length_range] at this;exact this
  refine Cu ?_
  walk_at "x2"
  refine ⟨ty_list w.F.lst,?_⟩
  walk_at "x2"
  have g3:=w.F.lst;have hre:=w.rl;refine Kv ?_
  walk_at "x2"
  refine Ei k n 4 h3 s3 (by decide) (by decide) fun c h4 hc x4 l4 s4=>?_
  walk_at "x2"
  refine ⟨_,Fd (by omega),(List.range c).map Ad,fun j acc h=>∃ as:List Nat,acc=as.map Ad/\as.length=j/\(∀ a∈as,a < size)/\Ext [n] h3 h/\h.length=h3.length/\St3 h n,by rw [List.length_map,List.length_range];omega,⟨[],rfl,rfl,fun a z=>(by cases z),x4,l4,s4⟩,fun _ _ _ _=>⟨rfl,rfl⟩,?_,?_,?_⟩
  ·rintro j acc h ⟨as,rfl,rfl,_⟩;rw [List.length_map];exact Nat.le_refl _
  ·rintro j d acc h ed ⟨as,rfl,rfl,ha,x5,l5,s5⟩;refine Cu (Eb (Ri ?_));show wD _ [none,some d,some (.int size),some (.ref n)] h _
   walk_at "x2"
   refine Ei k n (size:Int) h s5 (by omega) (by omega) fun t h6 ht x6 l6 s6=>?_
   refine ⟨as++[t],by rw [List.map_append];rfl,by simp,fun b hb=>?_,x5.trans x6,by omega,s6⟩;rcases List.mem_append.mp hb with z|z
   ·exact ha b z
   ·rw [List.mem_singleton.mp z];omega
  ·rintro acc h5 ⟨as,rfl,al,ha,x5,l5,s5⟩;rw [List.length_map,List.length_range] at al;have x6:Ext [] h5 (h5++[MO.lst (as.map Ad)]):=Ext.more;have g6:(h5++[MO.lst (as.map Ad)])[h5.length]?=some (.lst (as.map Ad)):=Aq;have s6:=s5.ext x6 (by simp);have F6:=(w.F.ext x5 (by simpa using fun z=>ne z.symm) (fun r hr=>by simpa using (w.ok r hr).1)).ext x6 (by simp) (by simp);have hle:=Ck w.F.lst;generalize h5++[MO.lst (as.map Ad)]=h6 at x6 g6 s6 F6 ⊢
   walk_at "x2"
   refine Bs F6.lst (by rw [List.length_map,w.F.len];omega) ?_
   walk_at "x2"
   refine ⟨re++[h5.length],Es++[as],_,rfl,⟨⟨by rw [Bl F6.lst,List.map_append];rfl,by rw [List.length_append,List.length_append,F6.len];rfl,fun a r g e1 e2=>?_⟩,?_,fun r hr=>?_,fun row hr=>?_⟩,by rw [List.length_append,el];rfl,s6.ext Ext.set (by simpa using ne)⟩
   ·rcases Nat.lt_or_ge a re.length with z|z
    ·rw [List.getElem?_append_left z] at e1;rw [List.getElem?_append_left (by rw [← F6.len];exact z)] at e2;exact Ac (F6.row a r g e1 e2) (fun y=>(w.ok r (List.mem_of_getElem? e1)).2 y.symm)
    ·rw [List.getElem?_append_right z] at e1;rw [List.getElem?_append_right (by rw [← F6.len];exact z),← F6.len] at e2;have a0:a - re.length=0:=by
      have:=(List.getElem?_eq_some_iff.mp e1).1;simp at this;omega
     rw [a0] at e1 e2;cases e1;cases e2;exact Ac g6 (by omega)
   ·rw [List.nodup_append];exact ⟨w.nd,List.pairwise_singleton _ _,fun a ha b hb z=>by have:=hre a ha;have:=List.mem_singleton.mp hb;omega⟩
   ·rcases List.mem_append.mp hr with z|z
    ·exact w.ok r z
    ·rw [List.mem_singleton.mp z];obtain ⟨_,_,_,hm⟩:=s3;have:=Ck hm;exact ⟨by omega,by omega⟩
   ·rcases List.mem_append.mp hr with z|z
    ·exact w.rows row z
    ·rw [List.mem_singleton.mp z];exact ⟨by omega,ha⟩
 ·rintro l h3 ⟨re,Es,y4,rfl,w,el,s3⟩;rw [List.length_range] at el;refine Ce (Dm (Rg ?_))
  walk_at "x2"
  refine xK ?_;have cf:=pC ns;generalize DL.cutD ns (some 1) (some 20)=cs at cf ⊢;have g4:(h3++[MO.lst (cs.map D.int)])[h3.length]?=some (.lst (cs.map D.int)):=Aq;have x4:Ext [] h3 (h3++[MO.lst (cs.map D.int)]):=Ext.more;have hle:=Ck w.F.lst;have hre:=w.rl;have w4:Dr (h3++[MO.lst (cs.map D.int)]) n e size (3+0) re Es:=⟨w.F.ext x4 (by simp) (by simp),w.nd,w.ok,w.rows⟩;generalize h3++[MO.lst (cs.map D.int)]=h4 at g4 x4 w4 ⊢;have nc:∀ r∈re,r≠h3.length:=fun r hr z=>by have:=hre r hr;omega
  generalize h3.length=jc at g4 hle nc ⊢;refine ⟨_,src_list g4,cs.map D.int,fun i l h=>∃ (Es:List (List Nat)) (y5:Option D),l=[some (.rol (ns.map D.int)),some (.ref n),some (.int size),some (.ref e),y4,y5]/\Dr h n e size (3+i) re Es/\Es.length=size/\h[jc]?=some (.lst (cs.map D.int)),⟨Es,_,rfl,w4,el,g4⟩,?_,?_,?_⟩
  ·rintro i l h ⟨_,_,_,_,_,z⟩;exact Fw z
  ·rintro i c' l h5 ed ⟨Es,y5,rfl,w5,el,g5⟩;rw [List.getElem?_map] at ed;obtain ⟨c,ec,rfl⟩:=Option.map_eq_some_iff.mp ed;have hic:=(List.getElem?_eq_some_iff.mp ec).1;refine Cu ?_
   walk_at "x2"
   refine Bw (fun hk=>?_) fun hk=>?_
   ·have sp:0 < size:=by rw [decide_eq_true_iff] at hk;omega
    walk_at "x2"
    refine Dp (by omega) ?_;obtain ⟨r,hr,er⟩:=Rp c size sp;rw [er];have hrr:r < re.length:=by rw [w5.F.len,el];exact hr
    have hrE:r < Es.length:=by rw [el];exact hr
    have e1:=List.getElem?_eq_getElem hrr;have e2:=List.getElem?_eq_getElem hrE;have mr:=List.getElem_mem hrr;have gr:=w5.F.row r _ _ e1 e2;refine Cj (d:=.ref re[r]) w5.F.lst (by rw [List.getElem?_map,e1];rfl) ?_;refine ⟨ty_list gr,?_⟩
    walk_at "x2"
    refine Gi (by omega) (by omega) ?_
    walk_at "x2"
    refine Dp (by omega) ?_;obtain ⟨t,ht,et⟩:=Rp (c.fdiv size) size sp;rw [et];have rw5:=w5.rows _ (List.getElem_mem hrE)
    walk_at "x2"
    refine Bs gr (by rw [List.length_map];omega) ?_
    walk_at "x2"
    refine ⟨Es.set r (Es[r]++[t]),_,rfl,⟨⟨Ac w5.F.lst (w5.ok _ mr).2,by rw [List.length_set];exact w5.F.len,fun a ra g a1 a2=>?_⟩,w5.nd,w5.ok,fun row hrow=>?_⟩,by rw [List.length_set];exact el,Ac g5 (nc _ mr)⟩
    ·by_cases z:r=a
     ·subst z;rw [e1] at a1;cases a1;rw [List.getElem?_set_self hrE] at a2;cases a2;rw [Bl gr,List.map_append];rfl
     ·rw [List.getElem?_set_ne z] at a2;refine Ac (w5.F.row a ra g a1 a2) fun y=>?_
      obtain ⟨ha,ea⟩:=List.getElem?_eq_some_iff.mp a1;exact z ((List.getElem_inj w5.nd).mp (y.trans ea.symm))
    ·rcases List.mem_or_eq_of_mem_set hrow with z|z
     ·exact ⟨Nat.le_trans (w5.rows row z).1 (by omega),(w5.rows row z).2⟩
     ·rw [z];refine ⟨by rw [List.length_append,List.length_singleton];omega,fun u hu=>?_⟩;rcases List.mem_append.mp hu with y|y
      ·exact rw5.2 u y
      ·rw [List.mem_singleton.mp y];exact ht
   ·walk_at "x2"
    exact ⟨Es,_,rfl,w5.up (by omega),el,g5⟩
  ·rintro l h5 ⟨Es,y5,rfl,w5,el,g5⟩;rw [List.length_map] at w5
   walk_at "x2"
   exact q _ _ re Es w5.F (by omega) fun row hr=>⟨by have:=(w5.rows row hr).1;omega,by rw [el];exact (w5.rows row hr).2⟩
theorem Jw {mi:DM Src}{e:DM D}{loc:DL.Loc}{mh:MH}{Q:D->MH->Prop}(xs:List Nat) (F:Nat->List Nat) (hz:xs.length<=3000) (hm:wD mi loc mh fun src h0=>src=.seq (xs.map Ad)/\h0=mh)
  (step:∀ (x:Nat) (h:MH) {R:D->MH->Prop},R (.ref h.length) (h++[.lst ((F x).map Ad)])->wD e [none,some (Ad x)] h R)
  (fin:∀ (h:MH) (re:List Nat),Ext [] mh h->re.length=xs.length->(∀ (i r:Nat) (g:List Nat),re[i]?=some r->(xs.map F)[i]?=some g->h[r]?=some (.lst (g.map Ad)))->Q (.ref h.length) (h++[.lst (re.map D.ref)])):wD (Ec mi [none,none] (Bj 1) (Zr true) e) loc mh Q:=by
 refine Kv (Ao hm ?_);rintro src h0 ⟨rfl,rfl⟩;refine ⟨xs.map Ad,fun i acc h=>∃ re:List Nat,acc=re.map D.ref/\re.length=i/\Ext [] h0 h/\∀ (a r:Nat) (g:List Nat),re[a]?=some r->(xs.map F)[a]?=some g->h[r]?=some (.lst (g.map Ad)),by rw [List.length_map];omega,⟨[],rfl,rfl,Ext.refl,fun a r g z=>(by cases z)⟩,fun _ _ _ _=>⟨rfl,rfl⟩,?_,?_,?_⟩
 ·rintro i acc h ⟨re,rfl,rfl,_⟩;rw [List.length_map];exact Nat.le_refl _
 ·rintro i d acc h ed ⟨re,rfl,rfl,x,hr⟩;rw [List.getElem?_map] at ed;obtain ⟨y,ey,rfl⟩:=Option.map_eq_some_iff.mp ed;refine Cu (Eb (Ri ?_));refine step y h ?_;have x1:Ext [] h (h++[MO.lst ((F y).map Ad)]):=Ext.more;refine ⟨re++[h.length],by rw [List.map_append];rfl,by simp,x.trans x1,fun a r g e1 e2=>?_⟩;rcases Nat.lt_or_ge a re.length with z|z
  ·rw [List.getElem?_append_left z] at e1;exact x1.old _ _ (by simp) (hr a r g e1 e2)
  ·rw [List.getElem?_append_right z] at e1;have a0:a - re.length=0:=by
    have:=(List.getElem?_eq_some_iff.mp e1).1;simp at this;omega
   rw [a0] at e1;cases e1;rw [show a=re.length by omega,List.getElem?_map,ey] at e2;cases e2;exact Aq
 ·rintro acc h ⟨re,rfl,hl,x,hr⟩;rw [List.length_map] at hl;exact fin h re x hl hr
theorem Uz {m:Nat}(h:m<=3000):Tw [.int ((m:Int) - 1),.int (-1),.int (-1)]=some (.seq ((List.range m).reverse.map Ad)):=by
 have en:Kh ((m:Int) - 1) (-1) (-1)=m:=by
  have:=Xv (a:=(m:Int) - 1) (b:=-1) (c:=-1) (.inr rfl);unfold Builtin.Range.rangeSize at this;rw [if_neg (by decide)] at this;have e:((m:Int) - 1 - (-1) - 1) / -(-1)=(m:Int) - 1:=by simp
  rw [e] at this;split at this <;> omega
 unfold Tw;dsimp only;rw [if_neg (by omega),if_pos ⟨rfl,by omega,by omega⟩,en];congr 2;unfold Fg;refine List.ext_getElem (by simp) fun i h1 h2=>?_
 simp only [List.getElem_map,List.getElem_range,List.getElem_reverse,List.length_range];rw [List.length_map,List.length_range] at h1;congr 1;omega
theorem iU (b n:Nat):Br (b:Int) n=(List.range' b n).map Ad:=by
 unfold Br;refine List.ext_getElem (by simp) fun i h1 h2=>?_
 simp only [List.getElem_map,List.getElem_range,List.getElem_range'];congr 1;omega
theorem pD {b n:Nat}{mh:MH}{P:D->MH->Prop}(h1:b<=n) (h2:n<=3000) (h:P (.ref mh.length) (mh++[.lst ((List.range' b (n - b)).map Ad)])):wV (Dk [.int b,.int n] mh) P:=by
 refine ⟨_,_,?_,h⟩;unfold Dk;dsimp only;rw [if_pos (by omega),show ((n:Int) - (b:Int)).toNat=n - b by omega,iU]
noncomputable def Er (n:Nat) (L:List Nat) (v:Nat):List Nat:=if v+1 < n then [v+1] else L
theorem xM {h:MH}{e n last:Nat}{re:List Nat}{L:List Nat}(h1:1<=n) (h3:n<=3000) (g:h[e]?=some (.lst ((re++[last]).map D.ref))) (hl:re.length=n - 1) (hr:∀ (i r:Nat) (g:List Nat),re[i]?=some r->((List.range (n - 1)).map fun x=>[x+1])[i]?=some g->h[r]?=some (.lst (g.map Ad))) (gl:h[last]?=some (.lst (L.map Ad))) {b:Nat}(hb:b < n) (hL:L=[b]\/(L=[]/\b+1=n)):GC h e n 1 (Er n L) (re++[last]):=by
 have ll:L.length<=1/\∀ t∈L,t=b:=by
  rcases hL with rfl|⟨rfl,_⟩
  ·exact ⟨Nat.le_refl _,fun t ht=>List.mem_singleton.mp ht⟩
  ·exact ⟨Nat.zero_le _,fun t ht=>by cases ht⟩
 refine ⟨g,by rw [List.length_append,hl,List.length_singleton];omega,fun i r e1=>?_,fun v hv=>?_,fun v hv t ht=>?_,h3,by omega,.inr fun v t ht=>?_⟩
 ·unfold Er;rcases Nat.lt_or_ge i re.length with z|z
  ·rw [List.getElem?_append_left z] at e1;rw [if_pos (by omega)];exact hr i r _ e1 (by rw [List.getElem?_map,List.getElem?_range (by omega)];rfl)
  ·rw [List.getElem?_append_right z] at e1;have a0:i - re.length=0:=by
    have:=(List.getElem?_eq_some_iff.mp e1).1;simp at this;omega
   rw [a0] at e1;cases e1;rw [if_neg (by omega)];exact gl
 ·unfold Er;split
  ·exact Nat.le_refl _
  ·exact ll.1
 ·unfold Er at ht;split at ht
  ·rw [List.mem_singleton.mp ht];omega
  ·rw [ll.2 t ht];exact hb
 ·unfold Er at ht;split at ht
  ·rw [List.mem_singleton.mp ht];exact Nat.le_refl _
  ·rw [ll.2 t ht];omega
noncomputable def aK (b n:Nat):List (List Nat):=List.range' b (n - b)::(List.range b).reverse.map fun u=>[u]
theorem iV {n:Nat}(h:1<=n):aK (n - 1) n=(List.range n).reverse.map fun u=>[u]:=by
 obtain ⟨m,rfl⟩:∃ m,n=m+1:=⟨n - 1,by omega⟩;unfold aK;rw [Nat.add_sub_cancel,show m+1 - m=1 by omega,List.range_succ,List.reverse_append];rfl
theorem GC.ext {mh h:MH}{e n d:Nat}{E:Nat->List Nat}{re:List Nat}(g:GC mh e n d E re) (x:Ext [] mh h):GC h e n d E re:=⟨x.old _ _ (by simp) g.lst,g.len,fun i r a=>x.old _ _ (by simp) (g.row i r a),g.deg,g.lt,g.few,g.meas,g.asc⟩
local macro_rules | `(tactic| walk_at "x4") => `(tactic| repeat (first | walk_at "s" | with_reducible refine G9 ?_ | with_reducible refine G8 (by simp) ?_ | with_reducible refine Dp (by decide) ?_))
section
variable {mh:MH}{P:D->MH->Prop}
theorem row_end (k:Nat) {h:MH}{e n due:Nat}{re ds:List Nat}{L:List Nat}{x1:Option D}(h1:1<=n) {b:Nat}(hb:b < n) (hL:L=[b]\/(L=[]/\b+1=n)) (g:GC h e n 1 (Er n L) re) (F:Fnd h due ds (aK b n)) (q:∀ h',P (.bl true) h') :
  wS (Ae (retS (dop eqD (Bt (Ba (Gk (k+3)) fuel f2) (Aa (vr 2) (Zr []))) (vr 3))) Zn) [some (.int n),x1,some (.ref e),some (.ref due)] h (gF P):=by
 walk_at "x4"
 refine Jv k g fun h' f gs G x F' lf gr K=>?_
 have eG:G=aK b n:=by
  refine iQ K hb (fun u hu=>if_pos hu) ?_;have:Er n L (n - 1)=L:=if_neg (by omega);rw [this];exact hL
 subst eG;have F2:=F.ext x (by simp) (by simp)
 walk_at "x4"
 refine pY (Uw F' F2) ?_
 walk_at "x4"
 exact q h'
theorem pF (k n back:Nat) (h1:1<=n) (h3:n<=3000) (q:∀ h',P (.bl true) h'):wV (Ba (Gk (k+4)) fuel f10 [.int n,.int back] mh) P:=by
 refine Dd (wR (k+3)) gW.1 gW.2 rfl ?_;show wS (b10 (k+3)) [some (.int n),some (.int back),none,none] mh _;unfold b10;refine Dm (Gh (Jw (List.range (n - 1)) (fun x=>[x+1]) (by rw [List.length_range];omega) ?_ ?_ ?_))
 ·walk_at "x4"
  rw [show ((n:Int) - 1)=((n - 1:Nat):Int) by omega];exact ⟨_,Fd (by omega),rfl,rfl⟩
 ·intro x h R hR
  walk_at "x4"
  exact hR
 intro m1 re x1 rl rows;rw [List.length_range] at rl;have g2:(m1++[MO.lst (re.map D.ref)])[m1.length]?=some (.lst (re.map D.ref)):=Aq;have y2:Ext [] m1 (m1++[MO.lst (re.map D.ref)]):=Ext.more;have rows2:∀ (i r:Nat) (g:List Nat),re[i]?=some r->((List.range (n - 1)).map fun x=>[x+1])[i]?=some g->r≠m1.length/\(m1++[MO.lst (re.map D.ref)])[r]?=some (.lst (g.map Ad)):=fun i r g a c=>by
  have:=rows i r g a c;have l:=Ck this;exact ⟨by omega,y2.old _ _ (by simp) this⟩
 generalize m1++[MO.lst (re.map D.ref)]=m2 at g2 y2 rows2 ⊢;generalize m1.length=e at g2 rows2 ⊢
 walk_at "x4"
 refine ⟨ty_list g2,?_⟩
 walk_at "x4"
 refine Dp (by omega) ?_;obtain ⟨b,hb,eb⟩:=Rp back n (by omega);rw [eb]
 walk_at "x4"
 refine Gi (by omega) (by omega) ?_
 walk_at "x4"
 obtain ⟨c,hc,ec⟩:=Rp ((back:Int).fdiv n) 2 (by decide);have ec:((back:Int).fdiv n).fmod 2=(c:Int):=ec;rw [ec];obtain ⟨last,L,hL,m3,e3,g3,gl3,y3,ml⟩:∃ (last:Nat) (L:List Nat),((L=[b])\/L=[])/\∃ m3:MH,m3=((m2++[MO.lst []])++[MO.lst [.int b]])++[MO.lst [.ref m2.length,.ref (m2++[MO.lst []]).length]]/\([D.ref m2.length,.ref (m2++[MO.lst []]).length]:List D)[c]?=some (.ref last)/\m3[last]?=some (.lst (L.map Ad))/\Ext [] m2 m3/\m2.length<=last:=by
  have ya:Ext [] (m2++[MO.lst []]) ((m2++[MO.lst []])++[MO.lst [D.int b]]):=Ext.more;have yb:Ext [] ((m2++[MO.lst []])++[MO.lst [D.int b]]) (((m2++[MO.lst []])++[MO.lst [D.int b]])++[MO.lst [.ref m2.length,.ref (m2++[MO.lst []]).length]]):=Ext.more;have y0:Ext [] m2 (m2++[MO.lst []]):=Ext.more;have:c=0\/c=1:=by omega
  rcases this with rfl|rfl
  ·exact ⟨_,[],.inr rfl,_,rfl,rfl,yb.old _ _ (by simp) (ya.old _ _ (by simp) Aq),(y0.trans ya).trans yb,Nat.le_refl _⟩
  ·exact ⟨_,[b],.inl rfl,_,rfl,rfl,yb.old _ _ (by simp) Aq,(y0.trans ya).trans yb,y0.len⟩
 refine Cj (d:=.ref last) (ds:=[.ref m2.length,.ref (m2++[MO.lst []]).length]) Aq g3 ?_;rw [← e3]
 clear e3 g3
 have el:=Ck g2;have g4:=y3.old _ _ (by simp) g2
 walk_at "x4"
 refine Bs g4 (by rw [List.length_map];omega) ?_;have g5:(m3.set e (.lst (re.map D.ref++[.ref last])))[e]?=some (.lst (re.map D.ref++[.ref last])):=Bl g4;have gl5:=Ac (o:=.lst (re.map D.ref++[.ref last])) gl3 (show e≠last by omega);have rows5:∀ (i r:Nat) (g:List Nat),re[i]?=some r->((List.range (n - 1)).map fun x=>[x+1])[i]?=some g->(m3.set e (.lst (re.map D.ref++[.ref last])))[r]?=some (.lst (g.map Ad)):=fun i r g a c=>Ac (y3.old _ _ (by simp) (rows2 i r g a c).2) (fun z=>(rows2 i r g a c).1 z.symm)
 generalize m3.set e (.lst (re.map D.ref++[.ref last]))=m5 at g5 gl5 rows5 ⊢;have gc:∀ {b':Nat},b' < n->(L=[b']\/(L=[]/\b'+1=n))->GC m5 e n 1 (Er n L) (re++[last]):=fun hb' hL'=>xM h1 h3 (by rw [g5,List.map_append];rfl) rl rows5 gl5 hb' hL'
 refine Ce (Dm (Gh (Jw (List.range n).reverse (fun x=>[x]) (by rw [List.length_reverse,List.length_range];omega) ?_ ?_ ?_)))
 ·walk_at "x4"
  exact ⟨_,Uz h3,rfl,rfl⟩
 ·intro x h R hR
  walk_at "x4"
  exact hR
 intro m6 dre x6 dl drows;have y7:Ext [] m6 (m6++[MO.lst (dre.map D.ref)]):=Ext.more;have F7:Fnd (m6++[MO.lst (dre.map D.ref)]) m6.length dre ((List.range n).reverse.map fun x=>[x]):=⟨Aq,by rw [dl,List.length_map],fun i r g a c=>y7.old _ _ (by simp) (drows i r g a c)⟩;have x7:=x6.trans y7;generalize m6++[MO.lst (dre.map D.ref)]=m7 at y7 F7 x7 ⊢;generalize m6.length=due at F7 ⊢
 walk_at "x4"
 refine Rr (x7.old _ _ (by simp) g5) ?_
 walk_at "x4"
 have g8:(m7++[MO.lst []])[m7.length]?=some (.lst (([]:List Nat).map Ad)):=Aq;have y8:Ext [] m7 (m7++[MO.lst []]):=Ext.more;generalize m7++[MO.lst []]=m8 at g8 y8 ⊢;have x8:=x7.trans y8;have F8:=F7.ext y8 (by simp) (by simp);refine M4 (Fx (x8.old _ _ (by simp) gl5) g8) ?_;refine Yk ?_;rcases hL with rfl|rfl
 ·refine Jj rfl ?_
  walk_at "x4"
  refine Dp (by omega) ?_;rw [eb]
  walk_at "x4"
  refine pD (by omega) h3 ?_;have g9:(m8++[MO.lst ((List.range' b (n - b)).map Ad)])[m8.length]?=some (.lst ((List.range' b (n - b)).map Ad)):=Aq;have y9:Ext [] m8 (m8++[MO.lst ((List.range' b (n - b)).map Ad)]):=Ext.more;generalize m8++[MO.lst ((List.range' b (n - b)).map Ad)]=m9 at g9 y9 ⊢;generalize m8.length=c1 at g9 ⊢
  walk_at "x4"
  have g10:(m9++[MO.lst [.ref c1]])[m9.length]?=some (.lst [.ref c1]):=Aq;have y10:Ext [] m9 (m9++[MO.lst [.ref c1]]):=Ext.more;generalize m9++[MO.lst [.ref c1]]=m10 at g10 y10 ⊢;generalize m9.length=c2 at g10 ⊢;refine Jw (List.range b).reverse (fun x=>[x]) (by rw [List.length_reverse,List.length_range];omega) ?_ ?_ ?_
  ·walk_at "x4"
   refine Dp (by omega) ?_;rw [eb]
   walk_at "x4"
   exact ⟨_,Uz (by omega),rfl,rfl⟩
  ·intro x h R hR
   walk_at "x4"
   exact hR
  intro m11 dr2 x11 dl2 drows2;rw [List.length_reverse,List.length_range] at dl2;have y12:Ext [] m11 (m11++[MO.lst (dr2.map D.ref)]):=Ext.more;have g12:(m11++[MO.lst (dr2.map D.ref)])[m11.length]?=some (.lst (dr2.map D.ref)):=Aq;have x12:=x11.trans y12;have dr12:∀ (i r:Nat) (g:List Nat),dr2[i]?=some r->((List.range b).reverse.map fun x=>[x])[i]?=some g->(m11++[MO.lst (dr2.map D.ref)])[r]?=some (.lst (g.map Ad)):=fun i r g a c=>y12.old _ _ (by simp) (drows2 i r g a c)
  generalize m11++[MO.lst (dr2.map D.ref)]=m12 at y12 g12 x12 dr12 ⊢;refine oH (x12.old _ _ (by simp) g10) g12 (by rw [List.length_map];simp;omega) ?_;have y13:Ext [] m12 (m12++[MO.lst ([.ref c1]++dr2.map D.ref)]):=Ext.more
  have F13:Fnd (m12++[MO.lst ([.ref c1]++dr2.map D.ref)]) m12.length (c1::dr2) (aK b n):=⟨Aq,by unfold aK;simp [dl2],fun i r g a1 a2=>by
   cases i with
   | zero =>
    cases a1;cases a2;exact y13.old _ _ (by simp) (x12.old _ _ (by simp) (y10.old _ _ (by simp) g9))
   | succ i=>exact y13.old _ _ (by simp) (dr12 i r g a1 a2)⟩
  have x13:Ext [] m5 (m12++[MO.lst ([.ref c1]++dr2.map D.ref)]):=(((x8.trans y9).trans y10).trans x12).trans y13;generalize m12++[MO.lst ([.ref c1]++dr2.map D.ref)]=m13 at F13 x13 ⊢;refine Cu (Ce (Gv (Ce ?_)));exact row_end k h1 hb (.inl rfl) ((gc hb (.inl rfl)).ext x13) F13 q
 ·refine Fb rfl (Gv (Ce ?_));refine row_end k (b:=n - 1) (ds:=dre) h1 (by omega) (.inr ⟨rfl,by omega⟩) ((gc (b':=n - 1) (by omega) (.inr ⟨rfl,by omega⟩)).ext x8) ?_ q;rw [iV h1];exact F8
end
noncomputable def depth:Nat:=12
noncomputable def EE (Es:List (List Nat)) (v:Nat):List Nat:=(Es[v]?).getD []
theorem qK {h:MH}{e:Nat}{re:List Nat}{Es:List (List Nat)}(F:Fnd h e re Es) (h9:Es.length<=9) (hr:∀ row∈Es,row.length<=22/\∀ t∈row,t < Es.length):GC h e Es.length 22 (EE Es) re:=by
 have at_:∀ v,v < Es.length->EE Es v∈Es/\Es[v]?=some (EE Es v):=fun v hv=>by
  unfold EE;rw [List.getElem?_eq_getElem hv];exact ⟨List.getElem_mem hv,rfl⟩
 refine ⟨F.lst,F.len,fun i r a=>?_,fun v hv=>(hr _ (at_ v hv).1).1,fun v hv=>(hr _ (at_ v hv).1).2,by omega,by omega,.inl (by omega)⟩;have hi:i < Es.length:=by rw [← F.len];exact (List.getElem?_eq_some_iff.mp a).1
 exact F.row i r _ a (at_ i hi).2
theorem aL {loc:DL.Loc}{mh:MH}{Q:D->MH->Prop}{e:Nat}{re:List Nat}{Es:List (List Nat)}(hl:loc[2]?=some (some (.ref e))) (F:Fnd mh e re Es) (h9:Es.length<=9) (q:∀ h' re',Ext [] mh h'->Fnd (h'++[.lst (re'.map D.ref)]) h'.length re' Es->Q (.ref h'.length) (h'++[.lst (re'.map D.ref)])) :
  wD (Ec (Fo (vr 2)) [none,none] (Bj 1) (Zr true) (Bt Oq (Aa (vr 1) (Zr [])))) loc mh Q:=by
 refine Kv (Wk (Yi hl ?_));refine ⟨_,src_list F.lst,re.map D.ref,fun i acc h=>∃ re':List Nat,acc=re'.map D.ref/\re'.length=i/\Ext [] mh h/\∀ (a r:Nat) (g:List Nat),re'[a]?=some r->Es[a]?=some g->h[r]?=some (.lst (g.map Ad)),by rw [List.length_map,F.len];omega,⟨[],rfl,rfl,Ext.refl,fun a r g z=>(by cases z)⟩,?_,?_,?_,?_⟩
 ·rintro i acc h ⟨_,_,_,x,_⟩;exact Fw (x.old _ _ (by simp) F.lst)
 ·rintro i acc h ⟨re',rfl,rfl,_⟩;rw [List.length_map];exact Nat.le_refl _
 ·rintro i d acc h ed ⟨re',rfl,rfl,x,hr⟩;rw [List.getElem?_map] at ed;obtain ⟨r,er,rfl⟩:=Option.map_eq_some_iff.mp ed;have hi:re'.length < Es.length:=by rw [← F.len];exact (List.getElem?_eq_some_iff.mp er).1
  have eg:=List.getElem?_eq_getElem hi;have gr:=x.old _ _ (by simp) (F.row _ r _ er eg);refine Cu (Eb (Ri ?_));show wD _ [none,some (.ref r)] h _
  walk_at "x2"
  refine aD (gZ gr) ?_;have x1:Ext [] h (h++[MO.lst ((Es[re'.length]).map Ad)]):=Ext.more;refine ⟨re'++[h.length],by rw [List.map_append];rfl,by simp,x.trans x1,fun a r g e1 e2=>?_⟩;rcases Nat.lt_or_ge a re'.length with z|z
  ·rw [List.getElem?_append_left z] at e1;exact x1.old _ _ (by simp) (hr a r g e1 e2)
  ·rw [List.getElem?_append_right z] at e1;have a0:a - re'.length=0:=by
    have:=(List.getElem?_eq_some_iff.mp e1).1;simp at this;omega
   rw [a0] at e1;cases e1;rw [show a=re'.length by omega,eg] at e2;cases e2;exact Aq
 ·rintro acc h ⟨re',rfl,hl,x,hr⟩;rw [List.length_map] at hl;have x1:Ext [] h (h++[MO.lst (re'.map D.ref)]):=Ext.more;exact q h re' x ⟨Aq,by rw [hl,F.len],fun i r g a c=>x1.old _ _ (by simp) (hr i r g a c)⟩
theorem xN (ns:List Int):wV (Ba (Gk depth) fuel f11 [.rol (ns.map D.int)] []) fun d _=>d=.bl true:=by
 refine Dd (wU 11) gY.1 gY.2 rfl ?_;show wS (b11 11) [some (.rol (ns.map D.int)),none,none,none,none] [] _;unfold b11
 walk_at "x2"
 refine Nj 10 ns 0 [] fun v0=>?_
 walk_at "x2"
 refine Nj 10 ns 0 [] fun v1=>?_
 walk_at "x2"
 refine Nj 10 ns 0 [] fun v2=>?_
 walk_at "x2"
 have s1:St3 ([]++[MO.lst [.int (v0.fdiv 2),.int (v1.fmod 2),.int v2]]) ([]:MH).length:=⟨_,_,_,rfl⟩;generalize ([]++[MO.lst [D.int (v0.fdiv 2),.int (v1.fmod 2),.int v2]]:MH)=h1 at s1 ⊢;generalize ([]:MH).length=n0 at s1 ⊢;refine Ei 9 n0 4 h1 s1 (by decide) (by decide) fun r h2 hr x2 _ s2=>?_
 walk_at "x2"
 refine Bw (fun hk=>?_) fun hk=>?_
 ·walk_at "x2"
  refine Ei 9 n0 3000 h2 s2 (by decide) (by decide) fun a h3 ha x3 _ s3=>?_
  walk_at "x2"
  refine wK (by decide) (by decide) (by decide) ?_
  walk_at "x2"
  refine Ei 9 n0 _ h3 s3 (by decide) (by decide) fun back h4 hb x4 _ s4=>?_
  walk_at "x2"
  rw [show (1+(a:Int))=((1+a:Nat):Int) by omega];refine pF 7 (1+a) back (by omega) (by omega) fun h5=>?_
  rfl
 ·walk_at "x2"
  refine aJ 8 n0 ns h2 s2 fun h3 e re Es F3 h9 hrow=>?_
  walk_at "x2"
  refine aL rfl F3 h9 fun h4 re' x4 F5=>?_
  have y5:Ext [] h4 (h4++[MO.lst (re'.map D.ref)]):=Ext.more;have F3':=F3.ext (x4.trans y5) (by simp) (by simp);generalize h4++[MO.lst (re'.map D.ref)]=h5 at F5 y5 F3' ⊢;generalize h4.length=e2 at F5 ⊢;have gc1:=qK F3' h9 hrow;have gc2:=qK F5 h9 hrow
  walk_at "x2"
  refine Jv 8 gc2 fun h6 f gs G x6 F6 lf gr K=>?_
  walk_at "x2"
  refine M4 (Uw (F5.ext x6 (by simp) (by simp)) (F3'.ext x6 (by simp) (by simp))) ?_
  walk_at "x2"
  refine Pn 9 (gc1.ext x6) F6 K (by omega) fun h7 x7=>?_
  walk_at "x2"
  have g7:=x7.old _ _ (by simp) F6.lst;have gl:gs.length<=9:=by
   rw [F6.len];exact Nat.le_trans (Nat.le_trans (Gw K.ne) (Gj K.nd fun x hx=>(K.mem x).mp hx)) h9
  refine ⟨ty_list g7,?_⟩
  walk_at "x2"
  have y8:Ext [] h7 (h7++[MO.lst [.int 0]]):=Ext.more;have g8:=y8.old _ _ (by simp) g7;generalize h7++[MO.lst [.int 0]]=h8 at y8 g8 ⊢;refine Bs g8 (by rw [List.length_map];omega) ?_;have x9:Ext [] h5 (h8.set f (.lst (gs.map D.ref++[.ref h7.length]))):=Cv ((x6.trans x7).trans y8) Ext.set (by simpa using lf);generalize h8.set f (.lst (gs.map D.ref++[.ref h7.length]))=h9' at x9 ⊢
  walk_at "x2"
  refine Jv 8 (gc2.ext x9) fun h10 f2 gs2 G2 x10 F10 lf2 gr2 K2=>?_
  walk_at "x2"
  refine Pn 9 (gc1.ext (x9.trans x10)) F10 K2 (by omega) fun h11 x11=>?_
  rfl
theorem main:∀ ns:List Int,ns.length<=63->∃ mh',Ba (GkN Tt depth) fuel f11 [.rol (ns.map D.int)] []=some (.bl true,mh'):=fun ns _=>by
 obtain ⟨d,h,e,rfl⟩:=xN ns;exact ⟨h,e⟩
end Lw
open PySem PySem.W PyProof.Rows
namespace PySem.W.Fast
def tw17837353038637072482:Unit:=()
def tw4063343919386714068:Unit:=()
def tw14717204902259704714:Unit:=()
def tw13993823581066654705:Unit:=()
def tw15164696218369444094:Unit:=()
def tw10334376074674675631:Unit:=()
def tw7689003619458997044:Unit:=()
def tw723512936272907662:Unit:=()
def tw6843349515267661512:Unit:=()
def tw3016844641641993080:Unit:=()
def tw5910162176427316688:Unit:=()
def tw10093528912023429604:Unit:=()
def tw5534443668804763375:Unit:=()
def tw9849059499336381167:Unit:=()
def tw4417392697592857968:Unit:=()
def tw15685127668216760377:Unit:=()
def tw16850224413096207000:Unit:=()
def tw7878367839990548515:Unit:=()
def tw18384307989366529490:Unit:=()
def tw18312974330422251816:Unit:=()
def tw1256521202812717817:Unit:=()
def tw16636442421289667393:Unit:=()
def tw15547574126307708371:Unit:=()
def tw13272173598661793650:Unit:=()
def tw2253287818907526596:Unit:=()
def tw6781797734384972433:Unit:=()
def tw3031994342423639447:Unit:=()
def tw3603774539146296367:Unit:=()
def tw124454272061156010:Unit:=()
def tw16483801204949558690:Unit:=()
def tw4326664595341762095:Unit:=()
def tw14274282730924118763:Unit:=()
def tw11402414183527427692:Unit:=()
def tw4613951821454311392:Unit:=()
def tw17608564481481117321:Unit:=()
def tw330086603280164610:Unit:=()
def tw13796127730964864835:Unit:=()
def tw9202739740886872912:Unit:=()
def tw10079103696785320155:Unit:=()
def tw13639661970325961416:Unit:=()
def tw17080051288094504506:Unit:=()
def tw3167029622662750744:Unit:=()
def tw8606219245039906096:Unit:=()
def tw1167016652409117048:Unit:=()
def tw6947321579227104728:Unit:=()
def tw4328550115891173556:Unit:=()
def tw9897861290330261378:Unit:=()
def tw10772280863120294615:Unit:=()
def tw717567848059068655:Unit:=()
def tw8816490288159480389:Unit:=()
def tw3974471177064563974:Unit:=()
def tw2055199330905383248:Unit:=()
def tw10032214817422246323:Unit:=()
def tw7095384354390039039:Unit:=()
def tw16876647184429459761:Unit:=()
def tw16738124893645793472:Unit:=()
def tw4639643824889296011:Unit:=()
def tw15235268487970008443:Unit:=()
def tw5282225018721360908:Unit:=()
def tw15470483193110403416:Unit:=()
def tw5631291515174573046:Unit:=()
def tw10503113741145055773:Unit:=()
def tw9683727306283195427:Unit:=()
def tw687845866254883730:Unit:=()
def tw16939238718096526633:Unit:=()
def tw15324145264700557741:Unit:=()
def tw10470221235326664161:Unit:=()
def tw9090361964498114336:Unit:=()
def tw16043643815452102390:Unit:=()
def tw11504458357614212459:Unit:=()
def tw5018301184273177659:Unit:=()
def tw16109351076414753496:Unit:=()
def tw4913807752340829468:Unit:=()
def tw8214904984391627848:Unit:=()
def tw8599765128491774147:Unit:=()
def tw3138855625480788174:Unit:=()
def tw1230969158694501111:Unit:=()
def tw4380567287635721528:Unit:=()
end PySem.W.Fast
set_option maxRecDepth 100000 in
set_option maxHeartbeats 0 in
theorem PySem.Challenge.cw_letterall_k78_knots_holds : PySem.Challenge.rw_letterall_k78_knots.Holds := by
 w_on; o_law; z_head; (case hw => w_witness2)
 k_fill
 refine DL.fM (fun _ => by kernel_rfl) (DL.walk (l := PySem.Challenge.rw_letterall_k78_knots) (Tt := Lw.Tt) (I := Lw.f11) (x := "_law_script") Lw.depth rfl rfl (fun w h Y => Y) ⟨rfl, by decide, by decide⟩ (by kernel_rfl) (by decide +kernel) ?T Lw.main)
 case T =>
  intro w mg h KX G;refine' Lw.Ab4 KX G ?rf ?rb ?C1a ?C1b ?C1c ?C1d ?C1e ?C1f0 ?C1f1 ?C1f2 ?C1f3 ?C1f4 ?C1f5 ?a1_1 ?Wt ?l1_1 ?c1_1 ?k1_1 ?a1_2 ?Wu ?l1_2 ?c1_2 ?k1_2 ?a1_3 ?Wv ?l1_3 ?c1_3 ?k1_3 ?a1_4 ?Rn ?l1_4 ?c1_4 ?k1_4 ?a1_0 ?b1_0 ?l1_0 ?c1_0 ?k1_0 ?C1m ?C1k
  (case rf => (repeat (apply DL.fO; (focus k_is); (focus k_is); (focus k_is); (focus k_is))); exact trivial)
  (case rb => (repeat (apply DL.fQ; (focus k_is))); exact trivial)
  (case C1a | C1b | C1c | C1d | C1e | C1f0 | C1f1 | C1f2 | C1f3 | C1f4 | C1f5 | a1_1 | Wt | l1_1 | c1_1 | k1_1 | a1_2 | Wu | l1_2 | c1_2 | k1_2 | a1_3 | Wv | l1_3 | c1_3 | k1_3 | a1_4 | Rn | l1_4 | c1_4 | k1_4 | a1_0 | b1_0 | l1_0 | c1_0 | k1_0 | C1m | C1k => k_is)
#print axioms PySem.Challenge.cw_letterall_k78_knots_holds
