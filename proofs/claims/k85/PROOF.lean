import PyProof.Rows.All
import Wide.All
import OpenK.AllK
import Wide.FinOn
import Lean
import PyProof.EqAt
import PyProof.EqKinds
import PyProof.TupleCall
import KE.BitLaws
import PySem.Challenge.RW_letterall_k85_what_is_left_of_a_talk
set_option bootstrap.genMatcherCode false
set_option compiler.extract_closed false
noncomputable section
set_option Elab.async false
set_option linter.all false
set_option maxRecDepth 100000
set_option maxHeartbeats 8000000
namespace L2
open PySem PySem.Spec PyProof.Rows
mutual
noncomputable def kCl:PyData->Bool
 | .int _=>true
 | .str _=>true
 | .tuple xs=>Bv xs
 | _=>false
noncomputable def Bv:List PyData->Bool
 | []=>true
 | x::r=>kCl x&&Bv r
end
mutual
noncomputable def Nj (w:World):PyData->Int
 | .int i=>hashInt i
 | .str x=>hashStr w x
 | .tuple xs=>reduceHash (Builtin.Tuple.tupleHashOf (Ij w xs))
 | _=>0
noncomputable def Ij (w:World):List PyData->List Int
 | []=>[]
 | x::r=>Nj w x::Ij w r
end
mutual
noncomputable def kDr:PyData->Nat
 | .tuple xs=>Yk xs+1
 | _=>1
noncomputable def Yk:List PyData->Nat
 | []=>0
 | x::r=>kDr x+Yk r
end
section
variable {prog:Program}{w:World}{E:Value->Shared->Prop}
mutual
theorem Vc:∀ (k:PyData) (v:Value) (as:List Addr) (A:Around) (s:Shared) (Q:Int->Shared->Prop),kCl k=true->Reads s.heap v k as->A.units+k.depth < cLine->Q (Nj w k) { s with toks:=s.toks+kDr k }->wpAny (model prog w) A (pyHash v) Q E s
 | .int i,_,_,A,s,Q,_,r,_,h=>by cases r;exact wpAny_pyHash_int (by simpa [Nj,kDr] using h)
 | .str x,_,_,A,s,Q,_,r,_,h=>by cases r;exact wpAny_pyHash_str (by simpa [Nj,kDr] using h)
 | .tuple xs,_,as,A,s,Q,hk,r,hu,h=>by
  cases r with
  | @tuple a o vs n _ _ e c d ra =>
   have hk:Bv xs=true:=by simpa [kCl] using hk
   simp only [PyData.depth] at hu
   refine PySem.W.pyHash_slot (T := "tuple") ⟨_,e,c⟩ F.slot_tuple_hash F.entry_tuple_hash (F.args_tuple_hash_1 _) (beq_builtin_none _) (.inr (by omega)) ?_;show wpAny _ _ (Builtin.Tuple.tupleItemsOf (.ref a) >>= _) _ _ s;refine wpAny_bind (wpAny_tupleItemsOf e d ?_);refine wpAny_bind ?_;rw [← Array.forIn_toList];refine Vd xs vs.toList as A.in1 s #[] _ hk ra (by simp only [Around.in1_units];omega) fun b hb=>?_
   show wpAny _ _ (retInt (Builtin.Tuple.tupleHashOf b.toList)) _ _ _;rw [hb];refine wpAny_bind (wpAny_mkInt (wpAny_pure ⟨_,_,rfl,?_⟩))
   simpa [Nj,kDr,Nat.add_assoc] using h
 | .none,_,_,_,_,_,hk,_,_,_ | .bool _,_,_,_,_,_,hk,_,_,_ | .list _,_,_,_,_,_,hk,_,_,_ | .dict _,_,_,_,_,_,hk,_,_,_=>by simp [kCl] at hk
theorem Vd:∀ (xs:List PyData) (vs:List Value) (as:List Addr) (A:Around) (s:Shared) (b:Array Int) (Q:Array Int->Shared->Prop),Bv xs=true->ReadsAll s.heap vs xs as->A.units+PyData.depthAll xs < cLine ->
  (∀ b':Array Int,b'.toList=b.toList++Ij w xs->Q b' { s with toks:=s.toks+Yk xs }) ->
  wpAny (model prog w) A (forIn vs b fun x r=>do let h ← pyHash x;pure PUnit.unit;pure (ForInStep.yield (r.push h))) Q E s
 | [],_,_,A,s,b,Q,_,r,_,h=>by cases r;exact wpAny_pure (by simpa [Yk] using h b (by simp [Ij]))
 | x::xs,_,_,A,s,b,Q,hk,r,hu,h=>by
  cases r with
  | @cons v vs _ _ as bs r1 r2 =>
   have hk:(kCl x&&Bv xs)=true:=by simpa [Bv] using hk
   rw [Bool.and_eq_true] at hk;simp only [PyData.depthAll] at hu;rw [List.forIn_cons];refine wpAny_bind (wpAny_bind (Vc x _ _ A s _ hk.1 r1 (by omega) ?_));refine wpAny_bind (wpAny_pure (wpAny_pure ?_));refine Vd xs vs bs A { s with toks:=s.toks+kDr x } _ Q hk.2 r2 (by omega) fun b' hb=>?_
   have:=h b' (by rw [hb];simp [Ij])
   simpa [Yk,Nat.add_assoc] using this
end
end
mutual
theorem Yl {h:Heap}:∀ (x y:PyData) (v:Value) (as bs:List Addr),kCl x=true->kCl y=true->Reads h v x as->Reads h v y bs->x=y
 | .int _,_,_,_,_,_,_,r,q=>by cases r;cases q;rfl
 | .str _,_,_,_,_,_,_,r,q=>by cases r;cases q;rfl
 | .tuple xs,y,_,_,_,c1,c2,r,q=>by
  cases r with
  | @tuple a o vs n _ as e c d ra =>
   cases q with
   | @tuple _ _ _ _ ys _ e' c' d' ra' =>
    rw [e] at e';cases e';rw [d] at d';cases d';have c1:Bv xs=true:=by simpa [kCl] using c1
    rw [Ve xs ys _ _ _ c1 (by simpa [kCl] using c2) ra ra']
   | list e' c' d' ra'=>rw [e] at e';cases e';rw [c] at c';exact absurd c' (by decide)
   | dict e' c' d' ra' rb'=>rw [e] at e';cases e';rw [c] at c';exact absurd c' (by decide)
 | .none,_,_,_,_,hk,_,_,_ | .bool _,_,_,_,_,hk,_,_,_ | .list _,_,_,_,_,hk,_,_,_ | .dict _,_,_,_,_,hk,_,_,_=>by simp [kCl] at hk
theorem Ve {h:Heap}:∀ (xs ys:List PyData) (vs:List Value) (as bs:List Addr),Bv xs=true->Bv ys=true->ReadsAll h vs xs as->ReadsAll h vs ys bs->xs=ys
 | [],_,_,_,_,_,_,r,q=>by cases r;cases q;rfl
 | x::xs,_,_,_,_,c1,c2,r,q=>by
  cases r with
  | cons r1 r2=>cases q with
   | @cons _ _ y ys _ _ q1 q2 =>
    have c1:(kCl x&&Bv xs)=true:=by simpa [Bv] using c1
    have c2:(kCl y&&Bv ys)=true:=by simpa [Bv] using c2
    rw [Bool.and_eq_true] at c1 c2;rw [Yl x y _ _ _ c1.1 c2.1 r1 q1,Ve xs ys _ _ _ c1.2 c2.2 r2 q2]
end
mutual
theorem Qy {h h':Heap}{d:Addr}{o:Obj}{es ep}(hd:h.get? d=some o) (od:o.data=.dict es ep) (sb:Heap.SameBut d h h'):∀ (x:PyData) (v:Value) (as:List Addr),kCl x=true->Reads h v x as->Reads h' v x as
 | .int _,_,_,_,r=>by cases r;exact .int _ _
 | .str _,_,_,_,r=>by cases r;exact .str _ _
 | .tuple xs,_,_,c1,r=>by
  cases r with
  | @tuple a o' vs n _ as e c q ra =>
   have ne:a≠d:=fun z=>by
    rw [z,hd] at e;cases e;rw [od] at q;cases q
   exact .tuple ((sb.2 a ne).trans e) c q (Nk hd od sb xs _ _ (by simpa [kCl] using c1) ra)
 | .none,_,_,hk,_ | .bool _,_,_,hk,_ | .list _,_,_,hk,_ | .dict _,_,_,hk,_=>by simp [kCl] at hk
theorem Nk {h h':Heap}{d:Addr}{o:Obj}{es ep}(hd:h.get? d=some o) (od:o.data=.dict es ep) (sb:Heap.SameBut d h h'):∀ (xs:List PyData) (vs:List Value) (as:List Addr),Bv xs=true->ReadsAll h vs xs as->ReadsAll h' vs xs as
 | [],_,_,_,r=>by cases r;exact .nil
 | x::xs,_,_,c1,r=>by
  have c1:(kCl x&&Bv xs)=true:=by simpa [Bv] using c1
  rw [Bool.and_eq_true] at c1;cases r with
  | cons r1 r2=>exact .cons (Qy hd od sb x _ _ c1.1 r1) (Nk hd od sb xs _ _ c1.2 r2)
end
mutual
theorem Ym:∀ (x y:PyData),kCl x=true->kCl y=true->PyData.eqv x y=true->x=y
 | .int _,y,_,c2,e=>by
  cases y <;> first | (simp [kCl] at c2;done) | (simp [PyData.eqv] at e;done) | (simp [PyData.eqv] at e;rw [e])
 | .str _,y,_,c2,e=>by
  cases y <;> first | (simp [kCl] at c2;done) | (simp [PyData.eqv] at e;done) | (simp [PyData.eqv] at e;rw [e])
 | .tuple xs,.tuple ys,c1,c2,e=>by
  rw [Vf xs ys (by simpa [kCl] using c1) (by simpa [kCl] using c2) (by simpa [PyData.eqv] using e)]
 | .tuple xs,.int _,_,_,e=>by simp [PyData.eqv] at e
 | .tuple xs,.str _,_,_,e=>by simp [PyData.eqv] at e
 | .tuple xs,.none,_,c2,_ | .tuple xs,.bool _,_,c2,_ | .tuple xs,.list _,_,c2,_ | .tuple xs,.dict _,_,c2,_=>by simp [kCl] at c2
 | .none,_,hk,_,_ | .bool _,_,hk,_,_ | .list _,_,hk,_,_ | .dict _,_,hk,_,_=>by simp [kCl] at hk
theorem Vf:∀ (xs ys:List PyData),Bv xs=true->Bv ys=true->PyData.eqvAll xs ys=true->xs=ys
 | [],[],_,_,_=>rfl
 | [],_::_,_,_,e=>by simp [PyData.eqvAll] at e
 | _::_,[],_,_,e=>by simp [PyData.eqvAll] at e
 | x::xs,y::ys,c1,c2,e=>by
  have c1:(kCl x&&Bv xs)=true:=by simpa [Bv] using c1
  have c2:(kCl y&&Bv ys)=true:=by simpa [Bv] using c2
  have e:(PyData.eqv x y&&PyData.eqvAll xs ys)=true:=by simpa [PyData.eqvAll] using e
  rw [Bool.and_eq_true] at c1 c2 e;rw [Ym x y c1.1 c2.1 e.1,Vf xs ys c1.2 c2.2 e.2]
end
section
variable {prog:Program}{w:World}{E:Value->Shared->Prop}{A:Around}
mutual
theorem Qz:∀ (x:PyData) (n:Nat) (v:Value) (as:List Addr) (s:Shared) (Q:Bool->Shared->Prop),kCl x=true->Reads s.heap v x as->x.depth<=n->Q true s->wpAny (model prog w) A (eqIsQuiet n v) Q E s
 | .int _,n,_,_,s,Q,_,r,_,h=>by cases r;rw [eqIsQuiet_byValue n rfl];exact wpAny_pure h
 | .str _,n,_,_,s,Q,_,r,_,h=>by cases r;rw [eqIsQuiet_byValue n rfl];exact wpAny_pure h
 | .tuple xs,0,_,_,s,Q,c1,r,hn,h=>by simp [PyData.depth] at hn
 | .tuple xs,n+1,_,as,s,Q,c1,r,hn,h=>by
  cases r with
  | @tuple a o vs m _ _ e c q ra =>
   have hT:s.TypeIs (.ref a) "tuple":=⟨o,e,c⟩
   have hn:PyData.depthAll xs<=n:=by simpa [PyData.depth] using hn
   unfold eqIsQuiet;refine wpAny_bind (wpAny_specialOf hT F.slot_tuple_eq.lookup ?_)
   show wpAny _ _ (isInstance (.ref a) (.type "tuple") >>= _) _ _ s;refine wpAny_bind (wpAny_isInstance hT isSubtype_tuple_tuple ?_);simp only [Bool.not_true,Bool.false_eq_true,if_false];refine wpAny_bind (wpAny_seqItems e q ?_);refine wpAny_bind ?_;show wpAny _ _ (forIn vs _ _) _ _ s;rw [← Array.forIn_toList];refine Np xs n vs.toList as s _ (by simpa [kCl] using c1) ra hn ?_;exact wpAny_pure h
 | .none,_,_,_,_,_,hk,_,_,_ | .bool _,_,_,_,_,_,hk,_,_,_ | .list _,_,_,_,_,_,hk,_,_,_ | .dict _,_,_,_,_,_,hk,_,_,_=>by simp [kCl] at hk
theorem Np:∀ (xs:List PyData) (n:Nat) (vs:List Value) (as:List Addr) (s:Shared) (Q:Option Bool×Unit->Shared->Prop),Bv xs=true->ReadsAll s.heap vs xs as->PyData.depthAll xs<=n->Q (none,()) s ->
  wpAny (model prog w) A (forIn vs ((none,()):Option Bool×Unit) fun y r=>do if !(← eqIsQuiet n y) then pure (ForInStep.done (some false,())) else pure (ForInStep.yield (none,()))) Q E s
 | [],_,_,_,s,Q,_,r,_,h=>by cases r;exact wpAny_pure h
 | x::xs,n,_,_,s,Q,c1,r,hn,h=>by
  have c1:(kCl x&&Bv xs)=true:=by simpa [Bv] using c1
  rw [Bool.and_eq_true] at c1;simp only [PyData.depthAll] at hn;cases r with
  | @cons v vs _ _ as bs r1 r2 =>
   rw [List.forIn_cons];refine wpAny_bind (wpAny_bind (Qz x n v _ s _ c1.1 r1 (by omega) ?_));simp only [Bool.not_true,Bool.false_eq_true,if_false];refine wpAny_pure ?_;exact Np xs n vs bs s Q c1.2 r2 (by omega) h
end
end
noncomputable instance:DecidableEq PyData:=fun a b=>Classical.propDecidable (a=b)
noncomputable def IsK (h:Heap) (k:PyData) (a:Addr):Prop:=kCl k=true/\k.canLay0=true/\k.depth<=8/\∃ as,Reads h (.ref a) k as
noncomputable def Ci (prog:Program) (w:World):HeapKind prog w PyData where
 is:=IsK
 hash:=Nj w
 draws:=kDr
 room:=fun A=>A.units+8 < cLine
 inj:=fun x y=>by
  obtain ⟨c1,_,_,_,r1⟩:=x;obtain ⟨c2,_,_,_,r2⟩:=y;exact Yl _ _ _ _ _ c1 c2 r1 r2
 keeps:=fun x ho hd hs=>by
  obtain ⟨c1,l1,d1,as,r1⟩:=x;exact ⟨c1,l1,d1,as,Qy ho hd hs _ _ _ c1 r1⟩
 pyHash:=fun hu x h=>by
  obtain ⟨c1,l1,d1,as,r1⟩:=x;exact Vc _ _ _ _ _ _ c1 r1 (by omega) h
 eqBool:=fun {A E s x y a b Q} hu hx hy h=>by
  obtain ⟨c1,l1,d1,as,r1⟩:=hx;obtain ⟨c2,l2,d2,bs,r2⟩:=hy;refine PySem.SeqAt.eqBoolOverData prog w A E s _ _ x y as bs Q r1 r2 l1 l2 (by omega) ?_;have e:PyData.eqv x y=decide (x=y):=by
   by_cases z:x=y
   ·rw [decide_eq_true z,z];exact SeqAt.eqv_refl y l2
   ·rw [decide_eq_false z];cases q:PyData.eqv x y with
    | false=>rfl
    | true=>exact absurd (Ym x y c1 c2 q) z
  rw [e];exact h
 quiet:=fun x h=>by
  obtain ⟨c1,l1,d1,as,r1⟩:=x;exact Qz _ _ _ _ _ _ c1 r1 d1 h
noncomputable abbrev Key:=Sum Int Str
noncomputable def Kz:Key->Value->Bool
 | .inl k,v=>Value.isInt k v
 | .inr x,v=>Value.isStrOf x v
noncomputable def Aaf (w:World):Key->Int
 | .inl k=>hashInt k
 | .inr x=>hashStr w x
theorem Bc:∀ {k:Key}{v:Value},Kz k v=true->(∃ i t,k=Sum.inl i/\v=Value.int i t)\/(∃ x t,k=Sum.inr x/\v=Value.str x t)
 | .inl i,v,h=>by
  obtain ⟨t,e⟩:=Value.isInt_shape (k:=i) (v:=v) h;exact .inl ⟨i,t,rfl,e⟩
 | .inr x,v,h=>by
  obtain ⟨t,e⟩:=Value.isStrOf_shape (x:=x) (v:=v) h;exact .inr ⟨x,t,rfl,e⟩
theorem Ws (i:Int) (t:Tok):Kz (.inl i) (.int i t)=true:=by simp [Kz,Value.isInt]
theorem Wu (x:Str) (t:Tok):Kz (.inr x) (.str x t)=true:=by simp [Kz,Value.isStrOf]
theorem pB (a b:Int):decide ((Sum.inl a:Key)=Sum.inl b)=(a==b):=by
 by_cases e:a=b
 ·subst e;simp
 ·have h:¬ (Sum.inl a:Key)=Sum.inl b:=fun q=>e (Sum.inl.inj q)
  rw [decide_eq_false h];exact (beq_eq_false_iff_ne.mpr e).symm
theorem pC (a b:Str):decide ((Sum.inr a:Key)=Sum.inr b)=decide (a=b):=by
 by_cases e:a=b
 ·subst e;simp
 ·have h:¬ (Sum.inr a:Key)=Sum.inr b:=fun q=>e (Sum.inr.inj q)
  rw [decide_eq_false h,decide_eq_false e]
theorem pD (a:Int) (b:Str):decide ((Sum.inl a:Key)=Sum.inr b)=false:=decide_eq_false (fun q=>nomatch q)
theorem pF (a:Str) (b:Int):decide ((Sum.inr a:Key)=Sum.inl b)=false:=decide_eq_false (fun q=>nomatch q)
noncomputable def Az (prog:Program) (w:World):PySem.KeyKind prog w Key where
 is:=Kz
 hash:=Aaf w
 inj:=fun v a b ha hb=>by
  rcases Bc ha with ⟨i,t,rfl,rfl⟩|⟨x,t,rfl,rfl⟩
  ·rcases Bc hb with ⟨j,u,rfl,e⟩|⟨y,u,rfl,e⟩
   ·injection e with e1 _;rw [e1]
   ·exact nomatch e
  ·rcases Bc hb with ⟨j,u,rfl,e⟩|⟨y,u,rfl,e⟩
   ·exact nomatch e
   ·injection e with e1 _;rw [e1]
 byValue:=fun k v h=>by
  rcases Bc h with ⟨i,t,rfl,rfl⟩ | ⟨x,t,rfl,rfl⟩ <;> rfl
 pyHash:=fun hv h=>by
  rcases Bc hv with ⟨i,t,rfl,rfl⟩|⟨x,t,rfl,rfl⟩
  ·exact wpAny_pyHash_int h
  ·exact wpAny_pyHash_str h
 eqBool:=fun hu hv h=>by
  rcases Bc hu with ⟨i,t,rfl,rfl⟩|⟨x,t,rfl,rfl⟩
  ·rcases Bc hv with ⟨j,u,rfl,rfl⟩|⟨y,u,rfl,rfl⟩
   ·rw [pB] at h;exact wpAny_eqBool_int h
   ·rw [pD] at h;exact SeqAt.EqAt.int_str i t y u _ _ _ _ h
  ·rcases Bc hv with ⟨j,u,rfl,rfl⟩|⟨y,u,rfl,rfl⟩
   ·rw [pF] at h;exact SeqAt.EqAt.str_int x t j u _ _ _ _ h
   ·rw [pC] at h;exact wpAny_eqBool_str h
 «strs»:=fun k x t v h=>by
  rcases Bc h with ⟨i,u,rfl,e⟩|⟨y,u,rfl,e⟩
  ·exact nomatch e
  ·injection e with e1 _
   subst e1;cases v <;> rfl
theorem Tg (prog:Program) (w:World) (k:Key) (v:Value):(Az prog w).is k v=Kz k v:=rfl
theorem Q0 (prog:Program) (w:World) (i:Int) (t:Tok):(Az prog w).is (.inl i) (.int i t)=true:=Ws i t
theorem Q5 (prog:Program) (w:World) (x:Str) (t:Tok):(Az prog w).is (.inr x) (.str x t)=true:=Wu x t
inductive V where
 | non | bl (b:Bool) | int (i:Int) | str (x:Str) | byt (b:Array UInt8) | flt (b:UInt64) | ref (a:Addr) | ty (n:String)
 deriving DecidableEq
noncomputable def RelV:V->Value->Prop
 | .non,u=>u=Value.none
 | .bl b,u=>u=Value.bool b
 | .int i,u=>∃ t,u=Value.int i t
 | .str x,u=>∃ t,u=Value.str x t
 | .byt b,u=>∃ t,u=Value.bytes b t
 | .flt b,u=>∃ t,u=Value.float b t
 | .ref a,u=>u=Value.ref a
 | .ty n,u=>u=Value.type n
noncomputable abbrev Vals:List V->List Value->Prop:=Paired RelV
theorem Vals.length {xs:List V}{us:List Value}(r:Vals xs us):xs.length=us.length:=Paired.length r
theorem Vals.get:∀ {xs:List V}{us:List Value}{i:Nat}{x:V},Vals xs us->xs[i]?=some x->∃ u,us[i]?=some u/\RelV x u
 | _,_,_,_,.nil,e=>by simp at e
 | _,_,0,_,.cons r _,e=>by simp at e;subst e;exact ⟨_,rfl,r⟩
 | _,_,i+1,x,.cons _ t,e=>by
  obtain ⟨u,h1,h2⟩:=Vals.get (i:=i) (x:=x) t (by simpa using e);exact ⟨u,by simpa using h1,h2⟩
theorem Vals.set {x:V}{u:Value}(r:RelV x u):∀ {xs:List V}{us:List Value}(i:Nat),Vals xs us->Vals (xs.set i x) (us.set i u)
 | _,_,_,.nil=>.nil
 | _,_,0,.cons _ t=>.cons r t
 | _,_,i+1,.cons q t=>.cons q (Vals.set r i t)
theorem Vals.append:∀ {xs ys:List V}{us ws:List Value},Vals xs us->Vals ys ws->Vals (xs++ys) (us++ws)
 | _,_,_,_,.nil,s=>s
 | _,_,_,_,.cons r t,s=>.cons r (Vals.append t s)
theorem Vals.take:∀ {xs:List V}{us:List Value}(n:Nat),Vals xs us->Vals (xs.take n) (us.take n)
 | _,_,0,_=>.nil
 | _,_,_+1,.nil=>.nil
 | _,_,n+1,.cons r t=>.cons r (Vals.take n t)
theorem Vals.drop:∀ {xs:List V}{us:List Value}(n:Nat),Vals xs us->Vals (xs.drop n) (us.drop n)
 | _,_,0,r=>r
 | _,_,_+1,.nil=>.nil
 | _,_,n+1,.cons _ t=>Vals.drop n t
noncomputable def K1:Option V->Option Value->Prop
 | some v,some u=>RelV v u
 | none,none=>True
 | _,_=>False
noncomputable def KV {κ:Type}:List (κ×V)->List (κ×Value)->Prop:=Paired fun (p:κ×V) (q:κ×Value)=>p.1=q.1/\RelV p.2 q.2
noncomputable def kV:Key->V
 | .inl i=>.int i
 | .inr x=>.str x
inductive HO where
 | lst (xs:List V)
 | tup (xs:List V)
 | dK (kvs:List (Key×V)) | dT (kvs:List (List Key×V)) | dN (kvs:List (PyData×Addr×V))
 | set (S:Int->Bool) (n:Nat)
 | ins (C dx:Addr) (fs:List (Str×V))
 | own (x:Addr)
 | xd (fs:List (Str×V))
 | met (f x:Addr)
 | rng (lo hi:Int)
 | frz (o:Obj) (u:HO)
 | tbl (ps:Array Value)
 | ext (φ:Heap->Prop)
noncomputable abbrev Hp:=Addr->Option HO
noncomputable def upd (H:Hp) (a:Addr) (o:HO):Hp:=fun b=>if b=a then some o else H b
theorem Be {H:Hp}{a:Addr}{o:HO}:upd H a o a=some o:=by unfold upd;rw [if_pos rfl]
theorem Ac {H:Hp}{a b:Addr}{o:HO}(h:b≠a):upd H a o b=H b:=by unfold upd;rw [if_neg h]
theorem Gm {H:Hp}{a b:Addr}{o u:HO}(h:H a=some o) (h':H b=some u) (d:o≠u):a≠b:=by
 intro e;subst e;rw [h] at h';exact d (Option.some.inj h')
theorem Ai {H:Hp}{a b:Addr}{o:HO}(h:H a=some o) (h':H b=none):a≠b:=by
 intro e;subst e;rw [h] at h';cases h'
section
variable (P:Program) (w:World)
noncomputable def Kf (h:Heap) (a:Addr) (its:Array Value):Prop:=∃ o,h.get? a=some o/\o.cls=.type "tuple"/\o.dict=none/\∃ n,o.data=.seq its n
theorem Kf.to {h:Heap}{a:Addr}{its:Array Value}(x:Kf h a its):IsTup h a its:=let ⟨o,e,c,_,n,d⟩:=x;⟨o,e,c,n,d⟩
theorem Kf.new (h:Heap) (its:Array Value):Kf (h.push { cls:=.type "tuple",data:=.seq its }) h.objs.size its:=⟨_,Heap.get?_push_size _ rfl,rfl,rfl,_,rfl⟩
noncomputable def Br (H:Hp) (h:Heap) (a:Addr):HO->Prop
 | .lst xs=>xs.length<=sizeLine/\∃ (its:List Value) (n:Nat),Vals xs its/\h.get? a=some { cls:=.type "list",data:=.seq its.toArray n }
 | .tup xs=>xs.length<=sizeLine/\∃ its:List Value,Vals xs its/\Kf h a its.toArray
 | .dK kvs=>kvs.length<=sizeLine/\(a==sysModules)=false/\∃ vs,KV kvs vs/\h.DictOf (Az P w) a vs
 | .dT kvs=>kvs.length<=sizeLine/\(a==sysModules)=false/\∃ xs:List (List Key×Addr×Value),
   Paired (fun (p:List Key×V) (q:List Key×Addr×Value)=>p.1=q.1/\H q.2.1=some (.tup (p.1.map kV))/\RelV p.2 q.2.2) kvs xs /\
   ∃ o es ep,h.get? a=some o/\o.ExactDict/\o.data=.dict es ep/\es.toList=xs.map (entryOfKey (tupleKind (Az P w)))/\(xs.map (·.1)).Nodup
 | .dN kvs=>kvs.length<=sizeLine/\(a==sysModules)=false/\∃ xs:List (PyData×Addr×Value),
   Paired (fun (p:PyData×Addr×V) (q:PyData×Addr×Value)=>p.1=q.1/\p.2.1=q.2.1/\RelV p.2.2 q.2.2) kvs xs /\
   ∃ o es ep,h.get? a=some o/\o.ExactDict/\o.data=.dict es ep/\es.toList=xs.map (entryOfKey (Ci P w))/\(xs.map (·.1)).Nodup
 | .set S n=>h.SetOf (intKind P w) a S n
 | .ins C dx fs=>H dx=some (.own a)/\fs.length<=1000/\dx≠a/\h.get? a=some (PySem.W.instObj C dx) /\
   ∃ mA,h.Ns1 dx mA/\(∀ f,K1 (fs.lookup f) (mA f))/\PySem.Within mA (fs.map (·.1))
 | .own _=>∃ o,h.get? a=some o
 | .xd fs=>∃ mA,h.Ns1 a mA/\∀ f,K1 (fs.lookup f) (mA f)
 | .rng lo hi=>∃ t u v,h.get? a=some { cls:=.type "range",data:=.fields #[.int lo t,.int hi u,.int 1 v] }
 | .frz o u=>h.get? a=some o/\Br H h a u
 | .tbl ps=>h.get? a=some { cls:=.none,data:=.fields ps }
 | .met f x=>h.get? a=some (PySem.W.methodObj (.ref f) (.ref x))
 | .ext φ=>φ h/\(∃ o,h.get? a=some o)/\∀ h1 h2:Heap,φ h1->(∀ o,h1.get? a=some o->h2.get? a=some o)->φ h2
noncomputable def HOk (H:Hp) (h:Heap):Prop:=∀ a o,H a=some o->Br P w H h a o
end
section
variable {P:Program}{w:World}{H H':Hp}{h h':Heap}{a:Addr}{o:HO}
theorem Br.lt (x:Br P w H h a o):a < h.objs.size:=by
 cases o with
 | lst xs=>obtain ⟨_,_,_,_,e⟩:=x;exact Heap.lt_size e
 | tup xs=>obtain ⟨_,_,_,p⟩:=x;exact p.to.lt
 | dK kvs=>obtain ⟨_,_,_,_,o,_,_,e,_⟩:=x;exact Heap.lt_size e
 | dT kvs=>obtain ⟨_,_,_,_,o,_,_,e,_⟩:=x;exact Heap.lt_size e
 | dN kvs=>obtain ⟨_,_,_,_,o,_,_,e,_⟩:=x;exact Heap.lt_size e
 | set S n=>obtain ⟨o,_,_,_,e,_⟩:=x;exact Heap.lt_size e
 | ins C dx fs=>obtain ⟨_,_,_,e,_⟩:=x;exact Heap.lt_size e
 | own y=>obtain ⟨_,e⟩:=x;exact Heap.lt_size e
 | xd fs=>obtain ⟨_,⟨_,_,_,e,_⟩,_⟩:=x;exact Heap.lt_size e
 | rng lo hi=>obtain ⟨_,_,_,e⟩:=x;exact Heap.lt_size e
 | frz ob u=>obtain ⟨e,_⟩:=x;exact Heap.lt_size e
 | tbl ps=>exact Heap.lt_size (show h.get? a=some _ from x)
 | met f y=>exact Heap.lt_size (show h.get? a=some _ from x)
 | ext φ=>obtain ⟨_,⟨_,e⟩,_⟩:=x;exact Heap.lt_size e
theorem Paired.mapP {α β:Type}{F G:α->β->Prop}:∀ {l₁:List α}{l₂:List β},Paired F l₁ l₂->(∀ a b,F a b->G a b)->Paired G l₁ l₂
 | _,_,.nil,_=>.nil
 | _,_,.cons r t,f=>.cons (f _ _ r) (Paired.mapP t f)
theorem Br.stay (x:Br P w H h a o) (k:∀ b u,(b=a\/H b=some (.own a))->h.get? b=some u->h'.get? b=some u)
  (ho:∀ b,H b=some (.own a)->H' b=some (.own a)) (ht:∀ b xs,H b=some (.tup xs)->H' b=some (.tup xs)):Br P w H' h' a o:=by
 induction o with
 | lst xs=>obtain ⟨z,its,n,r,e⟩:=x;exact ⟨z,its,n,r,k _ _ (.inl rfl) e⟩
 | tup xs=>obtain ⟨z,its,r,ob,e,c⟩:=x;exact ⟨z,its,r,ob,k _ _ (.inl rfl) e,c⟩
 | dK kvs=>obtain ⟨z,y,vs,r,ob,es,ep,e,c⟩:=x;exact ⟨z,y,vs,r,ob,es,ep,k _ _ (.inl rfl) e,c⟩
 | dT kvs =>
  obtain ⟨z,y,xs,r,ob,es,ep,e,c⟩:=x;exact ⟨z,y,xs,Paired.mapP r fun p q z=>⟨z.1,ht _ _ z.2.1,z.2.2⟩,ob,es,ep,k _ _ (.inl rfl) e,c⟩
 | dN kvs=>obtain ⟨z,y,xs,r,ob,es,ep,e,c⟩:=x;exact ⟨z,y,xs,r,ob,es,ep,k _ _ (.inl rfl) e,c⟩
 | set S n=>obtain ⟨ob,es,ep,t,e,c⟩:=x;exact ⟨ob,es,ep,t,k _ _ (.inl rfl) e,c⟩
 | ins C dx fs =>
  obtain ⟨d,z,ne,e,mA,⟨od,es,ep,e2,c⟩,r⟩:=x;exact ⟨ho _ d,z,ne,k _ _ (.inl rfl) e,mA,⟨od,es,ep,k _ _ (.inr d) e2,c⟩,r⟩
 | own y=>obtain ⟨ob,e⟩:=x;exact ⟨ob,k _ _ (.inl rfl) e⟩
 | xd fs=>obtain ⟨mA,⟨od,es,ep,e,c⟩,r⟩:=x;exact ⟨mA,⟨od,es,ep,k _ _ (.inl rfl) e,c⟩,r⟩
 | rng lo hi=>obtain ⟨t,u,v,e⟩:=x;exact ⟨t,u,v,k _ _ (.inl rfl) e⟩
 | frz ob u ih=>obtain ⟨e,q⟩:=x;exact ⟨k _ _ (.inl rfl) e,ih q⟩
 | tbl ps =>
  have e:h.get? a=some { cls:=.none,data:=.fields ps }:=x;show h'.get? a=some { cls:=.none,data:=.fields ps };exact k a _ (.inl rfl) e
 | met f y =>
  have e:h.get? a=some (PySem.W.methodObj (.ref f) (.ref y)):=x;show h'.get? a=some (PySem.W.methodObj (.ref f) (.ref y));exact k a _ (.inl rfl) e
 | ext φ=>obtain ⟨p,⟨o,e⟩,st⟩:=x;exact ⟨st _ _ p fun o q=>k _ _ (.inl rfl) q,⟨o,k _ _ (.inl rfl) e⟩,st⟩
theorem HOk.lt (x:HOk P w H h) (e:H a=some o):a < h.objs.size:=(x a o e).lt
theorem HOk.fresh (x:HOk P w H h) (e:h.objs.size<=a):H a=none:=by
 cases q:H a with
 | none=>rfl
 | some u=>exact absurd (Nat.lt_of_lt_of_le (x.lt q) e) (Nat.lt_irrefl _)
theorem HOk.kept (x:HOk P w H h) (k:∀ b u,h.get? b=some u->h'.get? b=some u):HOk P w H h':=fun a o e =>
 (x a o e).stay (fun b u _ q=>k b u q) (fun _ q=>q) fun _ _ q=>q
theorem HOk.laid (x:HOk P w H h) (k:∀ b u,h.get? b=some u->h'.get? b=some u) (hp:h.objs.size<=a) (new:Br P w (upd H a o) h' a o):HOk P w (upd H a o) h':=fun b u e=>by
 have hn:=x.fresh hp
 by_cases hb:b=a
 ·subst hb;rw [Be] at e;cases e;exact new
 ·rw [Ac hb] at e;exact (x b u e).stay (fun c v _ q=>k c v q) (fun c q=>by rw [Ac (Ai q hn)];exact q) fun c xs q=>by rw [Ac (Ai q hn)];exact q
end
noncomputable def Rd (H:Hp) (a:Addr) (u:HO):Prop:=H a=some u\/∃ o,H a=some (.frz o u)
theorem Rd.of {H:Hp}{a:Addr}{u:HO}(h:H a=some u):Rd H a u:=.inl h
theorem Rd.ok {P:Program}{w:World}{H:Hp}{h:Heap}{a:Addr}{u:HO}(r:Rd H a u) (x:HOk P w H h):Br P w H h a u:=by
 rcases r with r|⟨o,r⟩
 ·exact x a u r
 ·obtain ⟨_,q⟩:=x a _ r;exact q
noncomputable def Mut:Option HO->Prop
 | some (.lst _)=>True
 | some (.dK _)=>True
 | some (.dT _)=>True
 | some (.dN _)=>True
 | some (.set _ _)=>True
 | some (.ins _ _ _)=>True
 | some (.ext _)=>True
 | _=>False
section
variable {P:Program}{w:World}{H:Hp}{h h':Heap}{x e:Addr}{o':HO}
theorem HOk.write (ok:HOk P w H h) (mu:Mut (H x)) (he:e=x\/H e=some (.own x)) (k:∀ b u,b≠e->h.get? b=some u->h'.get? b=some u) (heo:∃ u,h'.get? e=some u)
  (new:Br P w (upd H x o') h' x o'):HOk P w (upd H x o') h':=fun b u q=>by
 have nown:∀ c y,H c=some (.own y)->c≠x:=fun c y r z=>by subst z;rw [r] at mu;exact mu
 have ntup:∀ c xs,H c=some (.tup xs)->c≠x:=fun c xs r z=>by subst z;rw [r] at mu;exact mu
 by_cases hb:b=x
 ·subst hb;rw [Be] at q;cases q;exact new
 ·rw [Ac hb] at q
  by_cases hbe:b=e
  ·have q':H b=some (.own x):=by
    rcases he with z|z
    ·exact absurd (hbe.trans z) hb
    ·rw [hbe];exact z
   rw [q] at q';cases q';obtain ⟨v,hv⟩:=heo;exact ⟨v,by rw [hbe];exact hv⟩
  ·refine (ok b u q).stay (fun c v hc r=>k c v ?_ r) (fun c r=>by rw [Ac (nown c b r)];exact r) fun c xs r=>by rw [Ac (ntup c xs r)];exact r
   rcases hc with rfl|hc
   ·exact hbe
   ·rintro rfl;rcases he with z|z
    ·exact nown c b hc z
    ·rw [hc] at z;cases z;exact hb rfl
end
structure Un (fs ex:List Addr) (H H':Hp) (h h':Heap):Prop where
 keep:∀ b o,h.get? b=some o->H b=none->b ∉ fs->b ∉ ex->h'.get? b=some o
 slot:∀ b o,h.get? b=some o->H b=none->b∈fs->b ∉ ex->∃ sl,h'.get? b=some { o with slots:=sl }
 free:∀ b o,h.get? b=some o->H b=none->b ∉ ex->H' b=none
 there:∀ b o,h.get? b=some o->b ∉ ex->∃ o',h'.get? b=some o'
 tups:∀ b xs,H b=some (.tup xs)->H' b=some (.tup xs)
 frzs:∀ b o u,H b=some (.frz o u)->H' b=some (.frz o u)
 tbls:∀ b ps,H b=some (.tbl ps)->∃ more,H' b=some (.tbl (ps++more))
section
variable {fs fs' ex ex':List Addr}{H H1 H2:Hp}{h h1 h2 h':Heap}{a x e:Addr}{o:HO}
theorem Un.any (u:Un fs ex H H1 h h1) {b:Addr}{ob:Obj}(q:h.get? b=some ob) (n:H b=none) (hx:b ∉ ex):∃ sl,h1.get? b=some { ob with slots:=sl }:=by
 by_cases hb:b∈fs
 ·exact u.slot b ob q n hb hx
 ·exact ⟨ob.slots,u.keep b ob q n hb hx⟩
theorem Un.kept (k:∀ b u,h.get? b=some u->h'.get? b=some u):Un fs ex H H h h' :=
 ⟨fun b ob q _ _ _=>k b ob q,fun b ob q _ _ _=>⟨ob.slots,k b ob q⟩,fun _ _ _ n _=>n,fun b ob q _=>⟨ob,k b ob q⟩,fun _ _ q=>q,fun _ _ _ q=>q,fun _ ps q=>⟨#[],by rw [q];simp⟩⟩
theorem Un.refl:Un fs ex H H h h:=Un.kept fun _ _ q=>q
theorem Un.laid (k:∀ b u,h.get? b=some u->h'.get? b=some u) (hp:h.objs.size<=a) (hn:H a=none):Un fs ex H (upd H a o) h h' where
 keep:=fun b u q _ _ _=>k b u q
 slot:=fun b u q _ _ _=>⟨u.slots,k b u q⟩
 free:=fun b u q n _=>by rw [Ac (Nat.ne_of_lt (Nat.lt_of_lt_of_le (Heap.lt_size q) hp))];exact n
 there:=fun b u q _=>⟨u,k b u q⟩
 tups:=fun b xs q=>by rw [Ac (Ai q hn)];exact q
 frzs:=fun b u xs q=>by rw [Ac (Ai q hn)];exact q
 tbls:=fun b ps q=>⟨#[],by rw [Ac (Ai q hn),q];simp⟩
theorem Un.write (mu:Mut (H x)) (he:e=x\/H e=some (.own x)) (k:∀ b u,b≠e->h.get? b=some u->h'.get? b=some u) (heo:∃ u,h'.get? e=some u):Un fs ex H (upd H x o) h h':=by
 have hx:∀ b,H b=none->b≠x:=fun b n z=>by subst z;rw [n] at mu;exact mu
 have hb:∀ b,H b=none->b≠e:=fun b n z=>by
  subst z;rcases he with r|r
  ·exact hx b n r
  ·rw [n] at r;cases r
 have hm:∀ b u,H b=some u->¬ Mut (some u)->b≠x:=fun b u q nm z=>by subst z;rw [q] at mu;exact nm mu
 refine ⟨fun b u q n _ _=>k b u (hb b n) q,fun b u q n _ _=>⟨u.slots,k b u (hb b n) q⟩,fun b u q n _=>by rw [Ac (hx b n)];exact n,fun b u q _=>?_,
  fun b xs q=>by rw [Ac (hm b _ q fun z=>z)];exact q,fun b u xs q=>by rw [Ac (hm b _ q fun z=>z)];exact q,fun b ps q=>⟨#[],by rw [Ac (hm b _ q fun z=>z),q];simp⟩⟩
 by_cases hbe:b=e
 ·subst hbe;exact heo
 ·exact ⟨u,k b u hbe q⟩
end
noncomputable def trk (h:Heap) (H:Hp):List Addr:=(List.range h.objs.size).filter fun a=>(H a).isSome
noncomputable def O1 (h:Heap) (H:Hp):Heap:=PySem.W.hideAll h (trk h H)
theorem Wv (h:Heap) (H:Hp):(O1 h H).objs.size=h.objs.size:=PySem.W.hideAll_size _ _
theorem Yn {h:Heap}{H:Hp}{b:Addr}{o:Obj}(e:h.get? b=some o) (n:H b=none):(O1 h H).get? b=some o :=
 PySem.W.hideAll_get _ e fun hm=>by
  have q:(H b).isSome=true:=(List.mem_filter.mp hm).2;rw [n] at q;simp at q
theorem gK {h:Heap}{H:Hp}{b:Addr}{o:Obj}(e:(O1 h H).get? b=some o):h.get? b=some o/\H b=none:=by
 have e':h.get? b=some o:=PySem.W.of_hideAll (trk h H) e;refine ⟨e',?_⟩;cases q:H b with
 | none=>rfl
 | some x =>
  have hm:b∈trk h H:=List.mem_filter.mpr ⟨List.mem_range.mpr (Heap.lt_size e'),by simp [q]⟩;have z:(O1 h H).get? b=none:=PySem.W.hideAll_none (trk h H) hm;rw [z] at e;cases e
structure Mod (K:PySem.W.Frag) (mg:Str->Option Value) (base:Heap):Prop where
 kin:K.In base
 glob:base.Ns mainGlobals mg
 blt:∃ mb,base.Ns builtinsNs mb/\∀ x:Str,x ≠ "__name__"->mb x=bootBuiltins x
 nolimit:base.NoLimit
structure Cx where
 prog:Program
 w:World
 K:PySem.W.Frag
 mg:Str->Option Value
 base:Heap
 A:Around
 N:List Str
 s₀:Shared
 H₀:Hp
 env:Env
 outer:List Env
 stack:List Env
 ex:List Addr
 fn:Str->Bool
 calm:Bool
 pn:List (Addr×Obj)
 xe:Value->Shared->Prop
noncomputable def frs (l:List Env):List Addr:=l.filterMap (·.frame)
noncomputable abbrev Cx.fs (X:Cx):List Addr:=frs X.outer
noncomputable def Vis (sc:Scope) (x:Str):Prop:=sc.names.lookup x=some .local\/sc.names.lookup x=some .cell\/sc.names.lookup x=some .free
noncomputable def Loc (sc:Scope) (x:Str):Prop:=sc.names.lookup x=some .local\/sc.names.lookup x=some .cell
noncomputable def Look (env:Env) (h:Heap) (m:Str->Option Value) (x:Str) (u:Value):Prop :=
 (env.kindOf x=some .local/\m x=some u)\/((env.kindOf x=some .cell\/env.kindOf x=some .free)/\∃ c,env.cells.lookup x=some c/\h.IsCell c (some u))
structure Cx.Ok (X:Cx):Prop where
 mod:Mod X.K X.mg X.base
 kind:X.env.scope.kind=.function
 glob:X.env.globals=mainGlobals
 blt:X.env.builtins=builtinsNs
 above:X.s₀.heap.objs.size<=X.env.locals
 inj:∀ x y c,X.env.cells.lookup x=some c->X.env.cells.lookup y=some c->x=y
 has:∀ x,(X.env.kindOf x=some .cell\/X.env.kindOf x=some .free)->∃ c,X.env.cells.lookup x=some c
 cab:∀ x c,X.fn x=true->X.env.cells.lookup x=some c->X.s₀.heap.objs.size<=c
 hd:X.calm=true->X.A.handled=none
 frames:X.A.frames=some X.stack
 stk:X.stack=X.outer\/(X.stack=X.env::X.outer/\X.env.frame=some X.env.locals)
 exf:∀ b∈X.ex,b≠X.env.locals/\∀ x c,X.env.cells.lookup x=some c->c≠b
 bs:∀ b o,X.base.get? b=some o->X.s₀.heap.get? b=some o/\X.H₀ b=none
 bsz:X.base.objs.size<=X.s₀.heap.objs.size
 noex:∀ b o,X.base.get? b=some o->b ∉ X.ex
 exfs:∀ b∈X.ex,b ∉ X.fs
 funs:X.s₀.heap.FunFrames X.base X.outer
 frf:∀ b∈X.fs,X.H₀ b=none
structure Inv (X:Cx) (pins:List (Addr×Obj)) (σ:List (Option V)) (H:Hp) (s:Shared):Prop where
 ok:X.Ok
 os:s.os=X.s₀.os
 bare:AllBare s.gens
 base:Un X.fs X.ex X.H₀ H X.s₀.heap s.heap
 loc:∃ m,s.heap.Ns X.env.locals m/\∀ (i:Nat) (x:Str) (v:V),X.N[i]?=some x->σ[i]?=some (some v)->Vis X.env.scope x->∃ u,RelV v u/\Look X.env s.heap m x u
 cell:∀ x c,X.env.cells.lookup x=some c->∃ v,s.heap.IsCell c v
 free:H X.env.locals=none
 freeC:∀ x c,X.env.cells.lookup x=some c->H c=none\/(X.fn x=false/\∃ o u,H c=some (.frz o u))
 pin:∀ p∈X.pn++pins,s.heap.get? p.1=some p.2/\H p.1=none/\p.1≠X.env.locals/\p.1 ∉ X.fs/\∀ v,p.2.data≠.cell v
 hok:HOk X.prog X.w H s.heap
 len:σ.length=X.N.length
section
variable {X:Cx}{pins:List (Addr×Obj)}{σ:List (Option V)}{H H':Hp}{s:Shared}{h':Heap}
theorem Cx.Ok.nofr (ok:X.Ok) {b:Addr}{o:Obj}(e:X.base.get? b=some o):b ∉ X.fs:=fun hb=>by
 have:=(ok.funs.mem hb).1;rw [e] at this;cases this
theorem Inv.bs (I:Inv X pins σ H s):∀ b o,X.base.get? b=some o->s.heap.get? b=some o/\H b=none:=fun b o e =>
 ⟨I.base.keep b o (I.ok.bs b o e).1 (I.ok.bs b o e).2 (I.ok.nofr e) (I.ok.noex b o e),I.base.free b o (I.ok.bs b o e).1 (I.ok.bs b o e).2 (I.ok.noex b o e)⟩
theorem Inv.bk (I:Inv X pins σ H s):∀ b o,X.base.get? b=some o->s.heap.get? b=some o:=fun b o e=>(I.bs b o e).1
theorem Inv.mod (I:Inv X pins σ H s):Mod X.K X.mg X.base:=I.ok.mod
theorem Inv.kIn (I:Inv X pins σ H s):X.K.In s.heap:=I.ok.mod.kin.keeps I.bk
theorem Inv.lt (I:Inv X pins σ H s):X.env.locals < s.heap.objs.size:=let ⟨_,hn,_⟩:=I.loc;hn.lt
theorem Inv.sz (I:Inv X pins σ H s):X.s₀.heap.objs.size<=s.heap.objs.size:=Nat.le_trans I.ok.above (Nat.le_of_lt I.lt)
theorem Inv.nofs (I:Inv X pins σ H s) {a:Addr}(h:s.heap.objs.size<=a):a ∉ X.fs:=fun hb=>by
 obtain ⟨_,o,ho,_⟩:=I.ok.funs.mem hb;exact absurd (Nat.lt_of_lt_of_le (Heap.lt_size ho) (Nat.le_trans I.sz h)) (Nat.lt_irrefl _)
theorem Inv.cne (I:Inv X pins σ H s):∀ x c,X.env.cells.lookup x=some c->c≠X.env.locals:=fun x c e z=>by
 obtain ⟨v,o,ho,hd⟩:=I.cell x c e;obtain ⟨m,⟨o',es,ep,ho',hd',_⟩,_⟩:=I.loc;rw [z,ho'] at ho;cases ho;rw [hd'] at hd;cases hd
theorem Inv.funs (I:Inv X pins σ H s):s.heap.FunFrames X.base X.outer:=by
 have all:∀ (l:List Env),(∀ b∈frs l,b∈X.fs)->X.s₀.heap.FunFrames X.base l->s.heap.FunFrames X.base l:=by
  intro l
  induction l with
  | nil=>intro _ _;trivial
  | cons env r ih =>
   intro hs hl;obtain ⟨hk,⟨L,o,hf,hn,ho,hd⟩,hr⟩:=hl;have hL:L∈X.fs:=hs L (by unfold frs;rw [List.filterMap_cons,hf];exact List.mem_cons_self);obtain ⟨sl,e⟩:=I.base.slot L o ho (I.ok.frf L hL) hL fun z=>I.ok.exfs L z hL
   exact ⟨hk,⟨L,_,hf,hn,e,hd⟩,ih (fun b hb=>hs b (by unfold frs;rw [List.filterMap_cons,hf];exact List.mem_cons_of_mem _ hb)) hr⟩
 exact all X.outer (fun _ hb=>hb) I.ok.funs
theorem Inv.stack (I:Inv X pins σ H s):s.heap.FunFrames X.base X.stack:=by
 rcases I.ok.stk with e|⟨e,hf⟩
 ·rw [e];exact I.funs
 ·rw [e];obtain ⟨m,hn,_⟩:=I.loc;refine .cons (by rw [I.ok.kind];decide) hf hn ?_ I.funs;exact Heap.get?_none_of_le (Nat.le_trans I.ok.bsz I.ok.above)
theorem Inv.stkSub (I:Inv X pins σ H s):∀ b∈frs X.stack,b∈X.env.locals::X.fs:=fun b hb=>by
 rcases I.ok.stk with e|⟨e,hf⟩
 ·rw [e] at hb;exact List.mem_cons_of_mem _ hb
 ·rw [e] at hb;unfold frs at hb;rw [List.filterMap_cons,hf] at hb;exact hb
theorem Inv.stkFree (I:Inv X pins σ H s):∀ b∈frs X.stack,H b=none:=fun b hb=>by
 rcases List.mem_cons.mp (I.stkSub b hb) with e|hb
 ·rw [e];exact I.free
 ·obtain ⟨_,o,ho,_⟩:=I.ok.funs.mem hb;exact I.base.free b o ho (I.ok.frf b hb) fun z=>I.ok.exfs b z hb
theorem Inv.step {g':Array GenState}{t':Nat}{d':Drawn}{ch:List Addr}(I:Inv X pins σ H s)
  (hch:∀ b∈ch,(b∈X.ex\/X.s₀.heap.objs.size<=b)/\b≠X.env.locals/\(∀ x c,X.env.cells.lookup x=some c->c≠b)/\∀ p∈X.pn++pins,p.1≠b)
  (keep:∀ b o,b≠X.env.locals->b ∉ X.fs->b ∉ ch->s.heap.get? b=some o->H b=none->h'.get? b=some o)
  (slot:∀ b o,b≠X.env.locals->b∈X.fs->b ∉ ch->s.heap.get? b=some o->H b=none->∃ sl,h'.get? b=some { o with slots:=sl }) (free:∀ b o,b ∉ ch->s.heap.get? b=some o->H b=none->H' b=none)
  (there:∀ b o,b ∉ ch->s.heap.get? b=some o->∃ o',h'.get? b=some o')
  (tups:∀ b xs,H b=some (.tup xs)->H' b=some (.tup xs)) (frzs:∀ b o u,H b=some (.frz o u)->H' b=some (.frz o u)) (tbls:∀ b ps,H b=some (.tbl ps)->∃ more,H' b=some (.tbl (ps++more)))
  (ns:∀ m,s.heap.Ns X.env.locals m->h'.Ns X.env.locals m) (hok:HOk X.prog X.w H' h') (hg:AllBare g') :
  Inv X pins σ H' { s with heap:=h',gens:=g',drawn:=d',toks:=t' }:=by
 have neL:∀ b o,X.s₀.heap.get? b=some o->b≠X.env.locals:=fun b o e=>Nat.ne_of_lt (Nat.lt_of_lt_of_le (Heap.lt_size e) I.ok.above)
 have neC:∀ b o,X.s₀.heap.get? b=some o->b ∉ X.ex->b ∉ ch:=fun b o e hx hb=>by
  rcases (hch b hb).1 with z|z
  ·exact hx z
  ·exact absurd (Nat.lt_of_lt_of_le (Heap.lt_size e) z) (Nat.lt_irrefl _)
 have cellK:∀ x c,X.env.cells.lookup x=some c->∀ v,s.heap.IsCell c v->h'.IsCell c v:=by
  rintro x c e v ⟨o,ho,hd⟩;have nch:c ∉ ch:=fun z=>(hch c z).2.2.1 x c e rfl
  rcases I.freeC x c e with fc|⟨_,oz,uz,fz⟩
  ·by_cases hc:c∈X.fs
   ·obtain ⟨sl,q⟩:=slot c o (I.cne x c e) hc nch ho fc;exact ⟨_,q,hd⟩
   ·exact ⟨o,keep c o (I.cne x c e) hc nch ho fc,hd⟩
  ·obtain ⟨e1,_⟩:=I.hok c _ fz;obtain ⟨e2,_⟩:=hok c _ (frzs c _ _ fz);rw [ho] at e1;cases e1;exact ⟨_,e2,hd⟩
 refine ⟨I.ok,I.os,hg,⟨fun b o e n hb hx=>?_,fun b o e n hb hx=>?_,fun b o e n hx=>?_,fun b o e hx=>?_,fun b xs e=>tups b xs (I.base.tups b xs e),fun b o xs e=>frzs b o xs (I.base.frzs b o xs e),fun b ps e=>?_⟩,?_,fun x c e=>?_,?_,fun x c e=>?_,fun p hp=>?_,hok,I.len⟩
 ·exact keep b o (neL b o e) hb (neC b o e hx) (I.base.keep b o e n hb hx) (I.base.free b o e n hx)
 ·obtain ⟨sl,e1⟩:=I.base.slot b o e n hb hx;obtain ⟨sl',e2⟩:=slot b _ (neL b o e) hb (neC b o e hx) e1 (I.base.free b o e n hx);exact ⟨sl',e2⟩
 ·obtain ⟨o',e1⟩:=I.base.there b o e hx;exact free b o' (neC b o e hx) e1 (I.base.free b o e n hx)
 ·obtain ⟨o',e1⟩:=I.base.there b o e hx;exact there b o' (neC b o e hx) e1
 ·obtain ⟨m1,e1⟩:=I.base.tbls b ps e;obtain ⟨m2,e2⟩:=tbls b _ e1;exact ⟨m1++m2,by rw [e2,Array.append_assoc]⟩
 ·obtain ⟨m,hn,hl⟩:=I.loc;refine ⟨m,ns m hn,fun i x v e1 e2 e3=>?_⟩;obtain ⟨u,r,l⟩:=hl i x v e1 e2 e3;refine ⟨u,r,?_⟩;rcases l with l|⟨k,c,e,z⟩
  ·exact .inl l
  ·exact .inr ⟨k,c,e,cellK x c e _ z⟩
 ·obtain ⟨v,z⟩:=I.cell x c e;exact ⟨v,cellK x c e v z⟩
 ·obtain ⟨m,⟨o,_,_,ho,_⟩,_⟩:=I.loc;exact free _ o (fun z=>(hch _ z).2.1 rfl) ho I.free
 ·obtain ⟨v,o,ho,hd⟩:=I.cell x c e;rcases I.freeC x c e with fc|⟨fx,oz,uz,fz⟩
  ·exact .inl (free c o (fun z=>(hch c z).2.2.1 x c e rfl) ho fc)
  ·exact .inr ⟨fx,oz,uz,frzs c _ _ fz⟩
 ·obtain ⟨e,n,ne,nf,d⟩:=I.pin p hp;have nch:p.1 ∉ ch:=fun z=>(hch p.1 z).2.2.2 p hp rfl
  exact ⟨keep p.1 p.2 ne nf nch e n,free p.1 p.2 nch e n,ne,nf,d⟩
theorem Inv.un {t':Nat}(I:Inv X pins σ H s) (u:Un X.fs [] H H' s.heap h') (hok:HOk X.prog X.w H' h'):Inv X pins σ H' { s with heap:=h',toks:=t' }:=by
 obtain ⟨m,⟨o,es,ep,ho,r⟩,_⟩:=id I.loc;obtain ⟨sl,hL⟩:=u.any ho I.free (by simp)
 exact I.step (g':=s.gens) (d':=s.drawn) (ch:=[]) (fun _ z=>nomatch z) (fun b o _ hb _ e n=>u.keep b o e n hb (by simp)) (fun b o _ hb _ e n=>u.slot b o e n hb (by simp)) (fun b o _ e n=>u.free b o e n (by simp)) (fun b o _ e=>u.there b o e (by simp)) u.tups u.frzs u.tbls (fun m' hm=>by
  obtain ⟨o',es',ep',ho',r'⟩:=hm;rw [ho] at ho';cases ho'
  exact ⟨_,es',ep',hL,r'⟩) hok I.bare
theorem Inv.call {g':Array GenState}{t':Nat}{d':Drawn}{ch:List Addr}(I:Inv X pins σ H s) (u:Un (frs X.stack) ch H H' s.heap h') (hok:HOk X.prog X.w H' h') (hg:AllBare g')
  (hch:∀ b∈ch,(b∈X.ex\/X.s₀.heap.objs.size<=b)/\b≠X.env.locals/\(∀ x c,X.env.cells.lookup x=some c->c≠b)/\∀ p∈X.pn++pins,p.1≠b) :
  Inv X pins σ H' { s with heap:=h',gens:=g',drawn:=d',toks:=t' }:=by
 obtain ⟨m,⟨o,es,ep,ho,r⟩,_⟩:=id I.loc;obtain ⟨sl,hL⟩:=u.any ho I.free fun z=>(hch _ z).2.1 rfl
 exact I.step (ch:=ch) hch (fun b o hL hb hc e n=>u.keep b o e n (fun z=>(List.mem_cons.mp (I.stkSub b z)).elim hL hb) hc) (fun b o _ _ hc e n=>u.any e n hc) (fun b o hc e n=>u.free b o e n hc) (fun b o hc e=>u.there b o e hc) u.tups u.frzs u.tbls (fun m' hm=>by
  obtain ⟨o',es',ep',ho',r'⟩:=hm;rw [ho] at ho';cases ho'
  exact ⟨_,es',ep',hL,r'⟩) hok hg
theorem Inv.turned {t':Nat}{it:Addr}(I:Inv X pins σ H s) (k:∀ b o,b≠it->s.heap.get? b=some o->h'.get? b=some o) (hn:H it=none) (hL:it≠X.env.locals)
  (h1:it∈X.ex\/X.s₀.heap.objs.size<=it) (h2:∀ x c,X.env.cells.lookup x=some c->c≠it) (h3:∀ p∈X.pn++pins,p.1≠it):Inv X pins σ H { s with heap:=h',toks:=t' }:=by
 have nit:∀ b u,H b=some u->b≠it:=fun b u e z=>by rw [z,hn] at e;cases e
 refine I.step (g':=s.gens) (d':=s.drawn) (ch:=[it]) (fun b hb=>?_) (fun b o _ _ hc e _=>k b o (fun z=>hc (by simp [z])) e) (fun b o _ _ hc e _=>⟨o.slots,k b o (fun z=>hc (by simp [z])) e⟩) (fun _ _ _ _ n=>n)
  (fun b o hc e=>⟨o,k b o (fun z=>hc (by simp [z])) e⟩) (fun _ _ e=>e) (fun _ _ _ e=>e) (fun b ps e=>⟨#[],by rw [e];simp⟩) (fun m hm=>?_) (fun b u e=>?_) I.bare
 ·have e:b=it:=by simpa using hb
  subst e;exact ⟨h1,hL,h2,h3⟩
 ·obtain ⟨o,es,ep,ho,r⟩:=hm;exact ⟨o,es,ep,k _ o (Ne.symm hL) ho,r⟩
 ·refine (I.hok b u e).stay (fun c v hc q=>k c v ?_ q) (fun _ q=>q) fun _ _ q=>q
  rcases hc with z|z
  ·rw [z];exact nit b u e
  ·exact nit c _ z
theorem Inv.tok (I:Inv X pins σ H s) (t:Nat):Inv X pins σ H { s with toks:=t }:=I.un (h':=s.heap) (t':=t) Un.refl I.hok
theorem Inv.kept {t':Nat}(I:Inv X pins σ H s) (k:∀ b u,s.heap.get? b=some u->h'.get? b=some u):Inv X pins σ H { s with heap:=h',toks:=t' }:=I.un (Un.kept k) (I.hok.kept k)
theorem Inv.laid {a:Addr}{o:HO}{t':Nat}(I:Inv X pins σ H s) (k:∀ b u,s.heap.get? b=some u->h'.get? b=some u) (hp:s.heap.objs.size<=a) (new:Br X.prog X.w (upd H a o) h' a o) :
  Inv X pins σ (upd H a o) { s with heap:=h',toks:=t' }:=I.un (Un.laid k hp (I.hok.fresh hp)) (I.hok.laid k hp new)
theorem Inv.write {x e:Addr}{o:HO}{t':Nat}(I:Inv X pins σ H s) (mu:Mut (H x)) (he:e=x\/H e=some (.own x)) (k:∀ b u,b≠e->s.heap.get? b=some u->h'.get? b=some u) (heo:∃ u,h'.get? e=some u)
  (new:Br X.prog X.w (upd H x o) h' x o):Inv X pins σ (upd H x o) { s with heap:=h',toks:=t' }:=I.un (Un.write mu he k heo) (I.hok.write mu he k heo new)
theorem Inv.weak {σ':List (Option V)}(I:Inv X pins σ H s) (hl:σ'.length=σ.length) (w:∀ (i:Nat) v,σ'[i]?=some (some v)->σ[i]?=some (some v)):Inv X pins σ' H s :=
 ⟨I.ok,I.os,I.bare,I.base,let ⟨m,hn,hl'⟩:=I.loc;⟨m,hn,fun i x v e1 e2 e3=>hl' i x v e1 (w i v e2) e3⟩,I.cell,I.free,I.freeC,I.pin,I.hok,hl.trans I.len⟩
theorem Inv.pins_of {pins':List (Addr×Obj)}(I:Inv X pins σ H s) (h:∀ p∈pins',s.heap.get? p.1=some p.2/\H p.1=none/\p.1≠X.env.locals/\p.1 ∉ X.fs/\∀ v,p.2.data≠.cell v):Inv X pins' σ H s :=
 ⟨I.ok,I.os,I.bare,I.base,I.loc,I.cell,I.free,I.freeC,fun p hp=>(List.mem_append.mp hp).elim (fun z=>I.pin p (List.mem_append_left _ z)) (h p),I.hok,I.len⟩
theorem Q6 {N:List Str}(hN:N.Nodup) {i j:Nat}{x:Str}(a:N[i]?=some x) (b:N[j]?=some x):i=j:=by
 obtain ⟨h1,e1⟩:=List.getElem?_eq_some_iff.mp a;obtain ⟨h2,e2⟩:=List.getElem?_eq_some_iff.mp b;exact (List.getElem_inj hN).mp (e1.trans e2.symm)
theorem Ww {M:Model}{A:Around}{E:Value->Shared->Prop}{i:Nat}{x:Str}{v:V}{u:Value}{Q:Unit->Shared->Prop}(I:Inv X pins σ H s) (hN:X.N.Nodup) (hi:X.N[i]?=some x) (hx:Loc X.env.scope x) (r:RelV v u)
  (h:∀ s',Inv X pins (σ.set i (some v)) H s'->(∃ a,Heap.SameBut a s.heap s'.heap/\(a=X.env.locals\/X.env.cells.lookup x=some a))->Q () s') (hf:X.fn x=true\/X.env.scope.names.lookup x=some .local:=by first | exact .inl rfl | exact .inr rfl | assumption):wpAny M A (storeName X.env x u) Q E s:=by
 obtain ⟨m,hn,hl⟩:=id I.loc;have hcls:(X.env.scope.kind==.class || (X.env.scope.kind==.module&&X.env.locals != X.env.globals))=false:=by rw [I.ok.kind];rfl
 have hiσ:i < σ.length:=by rw [I.len];exact (List.getElem?_eq_some_iff.mp hi).1
 have cne:=I.cne;have tracked:∀ {a:Addr} {h':Heap},(∃ o,s.heap.get? a=some o/\H a=none)->Heap.SameBut a s.heap h'->HOk X.prog X.w H h':=fun {a h'} ha hs b ob e=>by
  obtain ⟨_,_,hfree⟩:=ha;refine (I.hok b ob e).stay (fun c w' hc q=>(hs.2 c ?_).trans q) (fun _ q=>q) fun _ _ q=>q
  rintro rfl;rcases hc with rfl|hc
  ·rw [hfree] at e;cases e
  ·rw [hfree] at hc;cases hc
 rcases hx with hk|hk
 ·refine wpAny_storeName_local hk hn (fun h' hn' hs=>?_) hcls;obtain ⟨oL,_,_,hoL,_⟩:=id hn;refine h _ ⟨I.ok,I.os,I.bare,⟨fun b o e n hb hx=>?_,fun b o e n hb hx=>?_,I.base.free,fun b o e hx=>?_,I.base.tups,I.base.frzs,I.base.tbls⟩,⟨_,hn',fun j y v' e1 e2 e3=>?_⟩,fun y c e=>?_,I.free,I.freeC,fun p hp=>?_,tracked ⟨oL,hoL,I.free⟩ hs,by simpa using I.len⟩ ⟨_,hs,.inl rfl⟩
  ·exact (hs.2 b (Nat.ne_of_lt (Nat.lt_of_lt_of_le (Heap.lt_size e) I.ok.above))).trans (I.base.keep b o e n hb hx)
  ·obtain ⟨sl,e1⟩:=I.base.slot b o e n hb hx;exact ⟨sl,(hs.2 b (Nat.ne_of_lt (Nat.lt_of_lt_of_le (Heap.lt_size e) I.ok.above))).trans e1⟩
  ·obtain ⟨o',e1⟩:=I.base.there b o e hx;exact ⟨o',(hs.2 b (Nat.ne_of_lt (Nat.lt_of_lt_of_le (Heap.lt_size e) I.ok.above))).trans e1⟩
  ·by_cases hj:j=i
   ·subst hj;rw [hi] at e1;cases e1;rw [List.getElem?_set_self hiσ] at e2;cases e2;exact ⟨u,r,.inl ⟨hk,by simp⟩⟩
   ·rw [List.getElem?_set_ne (Ne.symm hj)] at e2;obtain ⟨u',r',q⟩:=hl j y v' e1 e2 e3;refine ⟨u',r',?_⟩;rcases q with ⟨k,e⟩|⟨k,c,e,z⟩
    ·refine .inl ⟨k,?_⟩;have:y≠x:=fun e=>hj (Q6 hN e1 (e ▸ hi))
     simp [this,e]
    ·exact .inr ⟨k,c,e,z.sameBut hs (cne y c e)⟩
  ·obtain ⟨w',z⟩:=I.cell y c e;exact ⟨w',z.sameBut hs (cne y c e)⟩
  ·obtain ⟨e,n,ne,nf,d⟩:=I.pin p hp;exact ⟨(hs.2 p.1 ne).trans e,n,ne,nf,d⟩
 ·have hfn:X.fn x=true:=by
   rcases hf with z|z
   ·exact z
   ·rw [z] at hk;cases hk
  obtain ⟨c,hc⟩:=I.ok.has x (.inl hk);obtain ⟨w',z⟩:=I.cell x c hc;refine wpAny_storeName_cell I.ok.kind hk hc z (fun h' hc' hs=>?_);obtain ⟨oc,hoc,hocd⟩:=id z;refine h { s with heap:=h' } ⟨I.ok,I.os,I.bare,⟨fun b o e n hb hx=>?_,fun b o e n hb hx=>?_,I.base.free,fun b o e hx=>?_,I.base.tups,I.base.frzs,I.base.tbls⟩,⟨m,hn.sameBut hs (Ne.symm (cne x c hc)),fun j y v' e1 e2 e3=>?_⟩,fun y c' e=>?_,I.free,I.freeC,fun p hp=>?_,tracked ⟨oc,hoc,(I.freeC x c hc).resolve_right fun z=>by rw [hfn] at z;cases z.1⟩ hs,by simpa using I.len⟩ ⟨c,hs,.inr hc⟩
  ·exact (hs.2 b (Nat.ne_of_lt (Nat.lt_of_lt_of_le (Heap.lt_size e) (I.ok.cab x c hfn hc)))).trans (I.base.keep b o e n hb hx)
  ·obtain ⟨sl,e1⟩:=I.base.slot b o e n hb hx;exact ⟨sl,(hs.2 b (Nat.ne_of_lt (Nat.lt_of_lt_of_le (Heap.lt_size e) (I.ok.cab x c hfn hc)))).trans e1⟩
  ·obtain ⟨o',e1⟩:=I.base.there b o e hx;exact ⟨o',(hs.2 b (Nat.ne_of_lt (Nat.lt_of_lt_of_le (Heap.lt_size e) (I.ok.cab x c hfn hc)))).trans e1⟩
  ·by_cases hj:j=i
   ·subst hj;rw [hi] at e1;cases e1;rw [List.getElem?_set_self hiσ] at e2;cases e2;exact ⟨u,r,.inr ⟨.inl hk,c,hc,hc'⟩⟩
   ·rw [List.getElem?_set_ne (Ne.symm hj)] at e2;obtain ⟨u',r',q⟩:=hl j y v' e1 e2 e3;refine ⟨u',r',?_⟩;rcases q with q|⟨k,c',e,z'⟩
    ·exact .inl q
    ·refine .inr ⟨k,c',e,z'.sameBut hs ?_⟩;rintro rfl;exact hj (Q6 hN e1 (I.ok.inj _ _ _ e hc ▸ hi))
  ·by_cases hcc:c'=c
   ·subst hcc;exact ⟨_,hc'⟩
   ·obtain ⟨w2,z2⟩:=I.cell y c' e;exact ⟨w2,z2.sameBut hs hcc⟩
  ·obtain ⟨e,n,ne,nf,d⟩:=I.pin p hp;refine ⟨(hs.2 p.1 ?_).trans e,n,ne,nf,d⟩;intro q;rw [q,hoc] at e;have q':oc=p.2:=Option.some.inj e;exact d w' (by rw [← q'];exact hocd)
theorem K3 {M:Model}{A:Around}{E:Value->Shared->Prop}{i:Nat}{x:Str}{v:V}{u:Value}{Q:Unit->Shared->Prop}(I:Inv X pins σ H s) (hN:X.N.Nodup) (hi:X.N[i]?=some x) (hx:Loc X.env.scope x) (r:RelV v u)
  (h:∀ s',Inv X pins (σ.set i (some v)) H s'->Q () s') (hf:X.fn x=true\/X.env.scope.names.lookup x=some .local:=by first | exact .inl rfl | exact .inr rfl | assumption):wpAny M A (storeName X.env x u) Q E s :=
 Ww I hN hi hx r (fun s' I' _=>h s' I') hf
theorem Inv.call' {s':Shared}{ch:List Addr}(I:Inv X pins σ H s) (ho:s'.os=s.os) (u:Un (frs X.stack) ch H H' s.heap s'.heap) (hok:HOk X.prog X.w H' s'.heap) (hg:AllBare s'.gens)
  (hch:∀ b∈ch,(b∈X.ex\/X.s₀.heap.objs.size<=b)/\b≠X.env.locals/\(∀ x c,X.env.cells.lookup x=some c->c≠b)/\∀ p∈X.pn++pins,p.1≠b):Inv X pins σ H' s':=by
 obtain ⟨h',g',d',t',o'⟩:=s';have e:o'=s.os:=ho;subst e;exact I.call (g':=g') (t':=t') (d':=d') u hok hg hch
end
noncomputable abbrev XK:=Value->Option Addr->Hp->Prop
noncomputable abbrev St:=List (Option V)
noncomputable abbrev VK:=V->Hp->Prop
noncomputable abbrev TE:=St->Hp->VK->Prop
noncomputable abbrev TT:=St->Hp->(Bool->Hp->Prop)->Prop
noncomputable abbrev TA:=St->Hp->(List V->Hp->Prop)->Prop
structure Ends where
 nx:St->Hp->Prop
 rt:VK
 bk:St->Hp->Prop:=fun _ _=>False
 ct:St->Hp->Prop:=fun _ _=>False
noncomputable abbrev TS:=Ends->St->Hp->Prop
noncomputable def EP (X:Cx) (pins:List (Addr×Obj)) (σ:St) (Q:VK) (u:Value) (s':Shared):Prop:=∃ v H',Inv X pins σ H' s'/\RelV v u/\Q v H'
noncomputable def TP (X:Cx) (pins:List (Addr×Obj)) (σ:St) (Q:Bool->Hp->Prop) (b:Bool) (s':Shared):Prop:=∃ H',Inv X pins σ H' s'/\Q b H'
noncomputable def AP (X:Cx) (pins:List (Addr×Obj)) (σ:St) (Q:List V->Hp->Prop) (us:List Value) (s':Shared):Prop:=∃ vs H',Inv X pins σ H' s'/\Vals vs us/\Q vs H'
noncomputable def SP (X:Cx) (pins:List (Addr×Obj)) (D:Ends) (f:Flow) (s':Shared):Prop :=
 match f with
 | .next=>∃ σ' H',Inv X pins σ' H' s'/\D.nx σ' H'
 | .brk=>∃ σ' H',Inv X pins σ' H' s'/\D.bk σ' H'
 | .cont=>∃ σ' H',Inv X pins σ' H' s'/\D.ct σ' H'
 | .ret u=>∃ v σ' H',Inv X pins σ' H' s'/\RelV v u/\D.rt v H'
noncomputable def PE (X:Cx) (e:Expr) (t:TE):Prop :=
 ∀ (pins:List (Addr×Obj)) (s:Shared) (σ:St) (H:Hp) (Q:VK),Inv X pins σ H s->t σ H Q->wpAny (model X.prog X.w) X.A (eval e X.env) (EP X pins σ Q) X.xe s
noncomputable def PT (X:Cx) (e:Expr) (t:TT):Prop :=
 ∀ (pins:List (Addr×Obj)) (s:Shared) (σ:St) (H:Hp) (Q:Bool->Hp->Prop),Inv X pins σ H s->t σ H Q->wpAny (model X.prog X.w) X.A (isTrue e X.env (eval e X.env)) (TP X pins σ Q) X.xe s
noncomputable def PW (X:Cx) (e:Expr) (t:TT):Prop :=
 ∀ (whole:Sem Value) (pins:List (Addr×Obj)) (s:Shared) (σ:St) (H:Hp) (Q:Bool->Hp->Prop),Inv X pins σ H s->t σ H Q->wpAny (model X.prog X.w) X.A (isTrue e X.env whole) (TP X pins σ Q) X.xe s
theorem PW.pt {X:Cx}{e:Expr}{t:TT}(h:PW X e t):PT X e t:=h _
noncomputable def PA (X:Cx) (es:List Expr) (t:TA):Prop :=
 ∀ (pos:Pos) (pins:List (Addr×Obj)) (s:Shared) (σ:St) (H:Hp) (Q:List V->Hp->Prop),Inv X pins σ H s->t σ H Q->wpAny (model X.prog X.w) X.A (spliced (backTo pos (starEach es X.env))) (AP X pins σ Q) X.xe s
noncomputable def PS (X:Cx) (st:Stmt) (t:TS):Prop :=
 ∀ (pins:List (Addr×Obj)) (s:Shared) (σ:St) (H:Hp) (D:Ends),Inv X pins σ H s->t D σ H->wpAny (model X.prog X.w) X.A (exec st X.env) (SP X pins D) X.xe s
noncomputable def PSs (X:Cx) (st:List Stmt) (t:TS):Prop :=
 ∀ (pins:List (Addr×Obj)) (s:Shared) (σ:St) (H:Hp) (D:Ends),Inv X pins σ H s->t D σ H->wpAny (model X.prog X.w) X.A (execs st X.env) (SP X pins D) X.xe s
theorem thn {α:Type}{t:Sem α}{Q Q':α->Shared->Prop}{M:Model}{A:Around}{E:Value->Shared->Prop}{s:Shared}(h:wpAny M A t Q E s) (hQ:∀ a s,Q a s->Q' a s):wpAny M A t Q' E s:=wpAny_mono h hQ fun _ _ x=>x
section
variable {X:Cx}
noncomputable def Aag (i:Nat):TE:=fun σ H Q=>∃ v,σ[i]?=some (some v)/\Q v H
noncomputable def tC (v:V):TE:=fun _ H Q=>Q v H
theorem pG {i:Nat}{x:Str}{pos:Pos}(hN:X.N[i]?=some x) (hv:Vis X.env.scope x) (hd:(x==("__debug__":Str))=false:=by decide) (hcd:(x==("__classdict__":Str))=false:=by decide):PE X (.Name x pos) (Aag i):=by
 intro pins s σ H Q I h;obtain ⟨v,e,h⟩:=h;obtain ⟨m,hn,hl⟩:=I.loc;obtain ⟨u,r,l⟩:=hl i x v hN e hv;have fin:EP X pins σ Q u s:=⟨v,H,I,r,h⟩;rcases l with ⟨hk,hm⟩|⟨hk,c,hc,hcell⟩
 ·exact wpAny_Name (wpAny_loadName_local I.ok.kind hk hn hm fin) hd
 ·rcases hk with hk|hk
  ·exact wpAny_Name (wpAny_loadName_cell I.ok.kind hk hc hcell fin) hd
  ·exact wpAny_Name (wpAny_loadName_free I.ok.kind hk hc hcell fin hcd) hd
theorem pH {i j pos}:PE X (.Constant (.int i) j pos) (tC (.int i)):=fun _ _ _ H _ I h=>wpAny_Constant_int ⟨.int i,H,I.tok _,⟨_,rfl⟩,h⟩
theorem wI {b j pos}:PE X (.Constant (.bool b) j pos) (tC (.bl b)):=fun _ _ _ H _ I h=>Constant_bool ⟨.bl b,H,I,rfl,h⟩
theorem pI {j pos}:PE X (.Constant .none j pos) (tC .non):=fun _ _ _ H _ I h=>Constant_none ⟨.non,H,I,rfl,h⟩
theorem pJ {x j pos}:PE X (.Constant (.str x) j pos) (tC (.str x)):=fun _ _ _ H _ I h=>Calls.Constant_str ⟨.str x,H,I.tok _,⟨_,rfl⟩,h⟩
noncomputable def Gl (X:Cx) (x:Str):Prop:=X.env.kindOf x=some .globalImplicit
theorem O2 {E:Value->Shared->Prop}{pins:List (Addr×Obj)}{s:Shared}{σ:St}{H:Hp}{x:Str}{u:Value}{pos:Pos}{Q:Value->Shared->Prop}(I:Inv X pins σ H s) (hg:Gl X x) (hm:X.mg x=some u) (h:Q u s)
  (hd:(x==("__debug__":Str))=false:=by decide):wpAny (model X.prog X.w) X.A (eval (.Name x pos) X.env) Q E s :=
 Calls.Name_function_global I.ok.kind hg (Calls.loadGlobal_global (by rw [I.ok.glob];exact I.mod.glob.keeps I.bk) hm h) hd
theorem K4 {E:Value->Shared->Prop}{pins:List (Addr×Obj)}{s:Shared}{σ:St}{H:Hp}{x:Str}{u:Value}{pos:Pos}{Q:Value->Shared->Prop}(I:Inv X pins σ H s) (hg:Gl X x) (hm:X.mg x=none) (hv:bootBuiltins x=some u) (h:Q u s)
  (hn:x ≠ "__name__":=by decide) (hd:(x==("__debug__":Str))=false:=by decide):wpAny (model X.prog X.w) X.A (eval (.Name x pos) X.env) Q E s:=by
 obtain ⟨mb,h1,h2⟩:=I.mod.blt;exact Calls.Name_function_global I.ok.kind hg (Calls.loadGlobal_builtin (by rw [I.ok.glob];exact I.mod.glob.keeps I.bk) hm (by rw [I.ok.blt];exact h1.keeps I.bk) ((h2 x hn).trans hv) h) hd
theorem gM {x:Str}{v:V}{u:Value}{pos:Pos}(hg:Gl X x) (hm:X.mg x=some u) (r:RelV v u) (hd:(x==("__debug__":Str))=false:=by decide):PE X (.Name x pos) (tC v) :=
 fun _ _ _ H _ I h=>O2 I hg hm ⟨v,H,I,r,h⟩ hd
variable {a b:Expr}{ta tb:TE}{pos:Pos}
theorem RelV.none_iff {x:V}{v:Value}(r:RelV x v):(v==Value.none)=decide (x=.non):=by
 cases x with
 | non=>cases r;rfl
 | bl _=>cases r;rfl
 | int _=>obtain ⟨t,rfl⟩:=r;rfl
 | str _=>obtain ⟨t,rfl⟩:=r;rfl
 | byt _=>obtain ⟨t,rfl⟩:=r;rfl
 | flt _=>obtain ⟨t,rfl⟩:=r;rfl
 | ref _=>cases r;rfl
 | ty _=>cases r;rfl
variable {tA tB':TT}{rest:List Expr}
noncomputable def Aah (t u:TT):TT:=fun σ H Q=>t σ H fun c H1=>if c=true then u σ H1 Q else Q false H1
noncomputable def tOr (t u:TT):TT:=fun σ H Q=>t σ H fun c H1=>if c=true then Q true H1 else u σ H1 Q
noncomputable def Aai (t:TT):TT:=fun σ H Q=>t σ H fun c H1=>Q (!c) H1
theorem gO (ha:PT X a tA):PW X (.BoolOp .And [a] pos) tA:=by
 intro wh pins s σ H Q I h;refine isTrue_and (thn (ha pins s σ H Q I h) fun c s1 e=>?_);cases c with
 | true=>exact isTrue_and_nil e
 | false=>exact e
theorem pK (ha:PT X a tA):PW X (.BoolOp .Or [a] pos) tA:=by
 intro wh pins s σ H Q I h;refine isTrue_or (thn (ha pins s σ H Q I h) fun c s1 e=>?_);cases c with
 | false=>exact isTrue_or_nil e
 | true=>exact e
theorem pL (ha:PT X a tA) (hb:PW X (.BoolOp .And (b::rest) pos) tB'):PW X (.BoolOp .And (a::b::rest) pos) (Aah tA tB'):=by
 intro wh pins s σ H Q I h;refine isTrue_and (thn (ha pins s σ H _ I h) ?_);rintro c s1 ⟨H1,I1,q1⟩;cases c with
 | true=>exact hb wh pins s1 σ H1 Q I1 q1
 | false=>exact ⟨H1,I1,q1⟩
theorem wJ (ha:PT X a tA) (hb:PW X (.BoolOp .Or (b::rest) pos) tB'):PW X (.BoolOp .Or (a::b::rest) pos) (tOr tA tB'):=by
 intro wh pins s σ H Q I h;refine isTrue_or (thn (ha pins s σ H _ I h) ?_);rintro c s1 ⟨H1,I1,q1⟩;cases c with
 | true=>exact ⟨H1,I1,q1⟩
 | false=>exact hb wh pins s1 σ H1 Q I1 q1
theorem pM (ha:PT X a tA):PT X (.UnaryOp .Not a pos) (Aai tA):=by
 intro pins s σ H Q I h;exact isTrue_not (ha pins s σ H (fun c H1=>Q (!c) H1) I h)
noncomputable def wK (ta tb:TE):TE:=fun σ H Q=>ta σ H fun x H1=>∃ c,x=.bl c/\if c=true then tb σ H1 Q else Q (.bl false) H1
noncomputable def Aaj (ta tb:TE):TE:=fun σ H Q=>ta σ H fun x H1=>∃ c,x=.bl c/\if c=true then Q (.bl true) H1 else tb σ H1 Q
noncomputable def wL (ta:TE):TE:=fun σ H Q=>ta σ H fun x H1=>∃ c,x=.bl c/\Q (.bl (!c)) H1
theorem pN {op}{t:TE}(h:PE X a t):PE X (.BoolOp op [a] pos) t:=fun pins s σ H Q I hw=>BoolOp_one (h pins s σ H Q I hw)
theorem pO (ha:PE X a ta) (hb:PE X (.BoolOp .And (b::rest) pos) tb):PE X (.BoolOp .And (a::b::rest) pos) (wK ta tb):=by
 intro pins s σ H Q I h;refine BoolOp_and (thn (ha pins s σ H _ I h) ?_);rintro v s1 ⟨x,H1,I1,r1,q1⟩;obtain ⟨c,rfl,q1⟩:=q1;cases r1;refine wpAny_truthy_bool ?_;cases c with
 | true=>exact hb pins s1 σ H1 Q I1 q1
 | false=>exact ⟨.bl false,H1,I1,rfl,q1⟩
theorem wM (ha:PE X a ta) (hb:PE X (.BoolOp .Or (b::rest) pos) tb):PE X (.BoolOp .Or (a::b::rest) pos) (Aaj ta tb):=by
 intro pins s σ H Q I h;refine BoolOp_or (thn (ha pins s σ H _ I h) ?_);rintro v s1 ⟨x,H1,I1,r1,q1⟩;obtain ⟨c,rfl,q1⟩:=q1;cases r1;refine wpAny_truthy_bool ?_;cases c with
 | false=>exact hb pins s1 σ H1 Q I1 q1
 | true=>exact ⟨.bl true,H1,I1,rfl,q1⟩
theorem pP (ha:PE X a ta):PE X (.UnaryOp .Not a pos) (wL ta):=by
 intro pins s σ H Q I h;refine UnaryOp_ (thn (ha pins s σ H _ I h) ?_);rintro v s1 ⟨x,H1,I1,r1,q1⟩;obtain ⟨c,rfl,q1⟩:=q1;cases r1;exact not_of (wpAny_truthy_bool ⟨.bl (!c),H1,I1,rfl,q1⟩)
noncomputable def tIf (t:TT) (ta tb:TE):TE:=fun σ H Q=>t σ H fun c H1=>if c=true then ta σ H1 Q else tb σ H1 Q
theorem Yo {c:Expr}(hc:PT X c tA) (ha:PE X a ta) (hb:PE X b tb):PE X (.IfExp c a b pos) (tIf tA ta tb):=by
 intro pins s σ H Q I h;refine wpAny_IfExp (thn (hc pins s σ H _ I h) ?_);rintro d s1 ⟨H1,I1,q1⟩;cases d with
 | true=>exact ha pins s1 σ H1 Q I1 q1
 | false=>exact hb pins s1 σ H1 Q I1 q1
end
noncomputable def SqL (K:PySem.W.Frag) (H:Hp) (a:Addr) (xs:List V):Prop :=
 Rd H a (.lst xs) \/
  ∃ (o:Obj) (its:Array Value) (n:Nat),K.lookup a=some o/\o.cls=.type "list"/\o.dict=none/\o.data=.seq its n/\its.size<=sizeLine/\Vals xs its.toList
noncomputable def SqT (K:PySem.W.Frag) (H:Hp) (a:Addr) (xs:List V):Prop :=
 Rd H a (.tup xs) \/
  ∃ (o:Obj) (its:Array Value) (n:Nat),K.lookup a=some o/\o.cls=.type "tuple"/\o.dict=none/\o.data=.seq its n/\its.size<=sizeLine/\Vals xs its.toList
noncomputable def Aak:Value->Option V
 | .none=>some .non
 | .bool b=>some (.bl b)
 | .int i _=>some (.int i)
 | .str x _=>some (.str x)
 | .bytes b _=>some (.byt b)
 | .float b _=>some (.flt b)
 | .ref a=>some (.ref a)
 | .type n=>some (.ty n)
 | _=>none
theorem RelV.abs {x:V}{u:Value}(r:RelV x u):Aak u=some x:=by
 cases x with
 | non=>cases r;rfl
 | bl _=>cases r;rfl
 | int _=>obtain ⟨t,rfl⟩:=r;rfl
 | str _=>obtain ⟨t,rfl⟩:=r;rfl
 | byt _=>obtain ⟨t,rfl⟩:=r;rfl
 | flt _=>obtain ⟨t,rfl⟩:=r;rfl
 | ref _=>cases r;rfl
 | ty _=>cases r;rfl
theorem RelV.inj {x y:V}{u:Value}(r:RelV x u) (q:RelV y u):x=y:=Option.some.inj (r.abs.symm.trans q.abs)
theorem Vals.inj {xs ys:List V}{us:List Value}(a:Vals xs us) (b:Vals ys us):xs=ys:=by
 induction a generalizing ys with
 | nil=>cases b;rfl
 | cons r t ih =>
  cases b with
  | cons r' t'=>rw [r.inj r',ih t']
section
variable {X:Cx}{pins:List (Addr×Obj)}{σ:St}{H:Hp}{s:Shared}{a:Addr}{xs ys:List V}
theorem Inv.list (I:Inv X pins σ H s) (h:SqL X.K H a xs):∃ its:List Value,Vals xs its/\PlainL s.heap a its.toArray/\xs.length<=sizeLine:=by
 rcases h with h|⟨o,its,n,hk,hc,hd,hs,hz,r⟩
 ·obtain ⟨z,its,n,r,e⟩:=h.ok I.hok;exact ⟨its,r,⟨_,n,e,rfl,rfl,rfl⟩,z⟩
 ·refine ⟨its.toList,r,⟨o,n,I.kIn a o hk,hc,hd,by simpa using hs⟩,?_⟩;have e:=r.length;simp only [Array.length_toList] at e;omega
theorem Inv.tuple (I:Inv X pins σ H s) (h:SqT X.K H a xs):∃ its:List Value,Vals xs its/\IsTup s.heap a its.toArray/\xs.length<=sizeLine:=by
 rcases h with h|⟨o,its,n,hk,hc,hd,hs,hz,r⟩
 ·obtain ⟨z,its,r,p⟩:=h.ok I.hok;exact ⟨its,r,p.to,z⟩
 ·refine ⟨its.toList,r,⟨o,I.kIn a o hk,hc,n,by simpa using hs⟩,?_⟩;have e:=r.length;simp only [Array.length_toList] at e;omega
theorem Inv.tupleP (I:Inv X pins σ H s) (h:SqT X.K H a xs):∃ its:List Value,Vals xs its/\Kf s.heap a its.toArray/\xs.length<=sizeLine:=by
 rcases h with h|⟨o,its,n,hk,hc,hd,hs,hz,r⟩
 ·obtain ⟨z,its,r,p⟩:=h.ok I.hok;exact ⟨its,r,p,z⟩
 ·refine ⟨its.toList,r,⟨o,I.kIn a o hk,hc,hd,n,by simpa using hs⟩,?_⟩;have e:=r.length;simp only [Array.length_toList] at e;omega
theorem Inv.list_inj (I:Inv X pins σ H s) (h:SqL X.K H a xs) (h':SqL X.K H a ys):xs=ys:=by
 obtain ⟨its,r,⟨o,n,e,_,_,d⟩,_⟩:=I.list h;obtain ⟨its',r',⟨o',n',e',_,_,d'⟩,_⟩:=I.list h';rw [e] at e';cases e';rw [d] at d';injection d' with d1 _
 have:its=its':=by simpa using congrArg Array.toList d1
 subst this;exact r.inj r'
theorem Inv.tuple_inj (I:Inv X pins σ H s) (h:SqT X.K H a xs) (h':SqT X.K H a ys):xs=ys:=by
 obtain ⟨its,r,⟨o,e,_,n,d⟩,_⟩:=I.tuple h;obtain ⟨its',r',⟨o',e',_,n',d'⟩,_⟩:=I.tuple h';rw [e] at e';cases e';rw [d] at d';injection d' with d1 _
 have:its=its':=by simpa using congrArg Array.toList d1
 subst this;exact r.inj r'
end
noncomputable abbrev Cx.wish (X:Cx) (E:Value->Shared->Prop):Cx:={ X with xe:=E }
noncomputable abbrev Cx.nox (X:Cx):Cx:=X.wish fun _ _=>False
theorem Cx.Ok.wish {X:Cx}(ok:X.Ok) (E:Value->Shared->Prop):(X.wish E).Ok :=
 ⟨ok.mod,ok.kind,ok.glob,ok.blt,ok.above,ok.inj,ok.has,ok.cab,ok.hd,ok.frames,ok.stk,ok.exf,ok.bs,ok.bsz,ok.noex,ok.exfs,ok.funs,ok.frf⟩
theorem Cx.Ok.unwish {X:Cx}{E:Value->Shared->Prop}(ok:(X.wish E).Ok):X.Ok :=
 ⟨ok.mod,ok.kind,ok.glob,ok.blt,ok.above,ok.inj,ok.has,ok.cab,ok.hd,ok.frames,ok.stk,ok.exf,ok.bs,ok.bsz,ok.noex,ok.exfs,ok.funs,ok.frf⟩
section
variable {X:Cx}{pins:List (Addr×Obj)}{σ:St}{H:Hp}{s:Shared}{E:Value->Shared->Prop}
theorem Inv.wish (I:Inv X pins σ H s) (E:Value->Shared->Prop):Inv (X.wish E) pins σ H s:=⟨I.ok.wish E,I.os,I.bare,I.base,I.loc,I.cell,I.free,I.freeC,I.pin,I.hok,I.len⟩
theorem Inv.unwish (I:Inv (X.wish E) pins σ H s):Inv X pins σ H s:=⟨I.ok.unwish,I.os,I.bare,I.base,I.loc,I.cell,I.free,I.freeC,I.pin,I.hok,I.len⟩
theorem SP.unwish {D:Ends}{f:Flow}{s':Shared}(h:SP (X.wish E) pins D f s'):SP X pins D f s':=by
 cases f with
 | next=>obtain ⟨σ',H',I,q⟩:=h;exact ⟨σ',H',I.unwish,q⟩
 | brk=>obtain ⟨σ',H',I,q⟩:=h;exact ⟨σ',H',I.unwish,q⟩
 | cont=>obtain ⟨σ',H',I,q⟩:=h;exact ⟨σ',H',I.unwish,q⟩
 | ret u=>obtain ⟨v,σ',H',I,r,q⟩:=h;exact ⟨v,σ',H',I.unwish,r,q⟩
theorem PSs.nox {st:List Stmt}{t:TS}(h:PSs X.nox st t):PSs X st t:=fun pins s σ H D I hw =>
 wpAny_mono (h pins s σ H D (I.wish _) hw) (fun _ _ q=>q.unwish) fun _ _ z=>False.elim z
end
section
variable {X:Cx}{st:Stmt}{rest:List Stmt}{t u:TS}{e:Expr}{te:TE}{pos:Pos}
noncomputable def nW:TS:=fun D σ H=>D.nx σ H
noncomputable def Aal (t u:TS):TS:=fun D σ H=>t { D with nx:=u D } σ H
theorem gP:PSs X [] nW:=fun _ _ σ H _ I h=>wpAny_execs_nil ⟨σ,H,I,h⟩
theorem Yp (h1:PS X st t) (h2:PSs X rest u):PSs X (st::rest) (Aal t u):=by
 intro pins s σ H D I h;refine wpAny_execs_cons (thn (h1 pins s σ H { D with nx:=u D } I h) fun f s1 q=>?_);cases f with
 | next =>
  obtain ⟨σ',H',I',q⟩:=q;exact h2 pins s1 σ' H' D I' q
 | ret v=>exact q
 | brk=>exact q
 | cont=>exact q
noncomputable def pQ:TS:=fun D σ H=>D.bk σ H
noncomputable def wN:TS:=fun D σ H=>D.ct σ H
theorem gQ:PS X (.Pass pos) nW:=fun _ _ σ H _ I h=>wpAny_Pass ⟨σ,H,I,h⟩
theorem Yq:PS X (.Break pos) pQ:=fun _ _ σ H _ I h=>wpAny_Break ⟨σ,H,I,h⟩
theorem Q7:PS X (.Continue pos) wN:=fun _ _ σ H _ I h=>wpAny_Continue ⟨σ,H,I,h⟩
theorem Inv.quiet {pins:List (Addr×Obj)}{σ:St}{H:Hp}{s:Shared}(I:Inv X pins σ H s):interactive X.env=false:=by simp [interactive,I.ok.kind]
noncomputable def wO (te:TE):TS:=fun D σ H=>te σ H fun _ H1=>D.nx σ H1
theorem gR (he:PE X e te) (hs:swapsWith e none pos.line X.env=pure false:=by rfl):PS X (.Expr e pos) (wO te):=by
 intro pins s σ H D I h;exact wpAny_Expr_any (thn (he pins s σ H _ I h) fun v s1 ⟨x,H1,I1,r1,q1⟩=>⟨σ,H1,I1,q1⟩) I.quiet hs
noncomputable def Aam (te:TE):TS:=fun D σ H=>te σ H D.rt
theorem pR (he:PE X e te):PS X (.Return (some e) pos) (Aam te):=by
 intro pins s σ H D I h;refine wpAny_Return_some (thn (he pins s σ H _ I h) ?_);rintro v s1 ⟨x,H1,I1,r1,q1⟩;exact ⟨x,σ,H1,I1,r1,q1⟩
noncomputable def wQ:TS:=fun D _ H=>D.rt .non H
theorem gU:PS X (.Return none pos) wQ:=fun _ _ σ H _ I h=>wpAny_Return_none ⟨.non,σ,H,I,rfl,h⟩
noncomputable def Aan (c:TT) (t u:TS):TS:=fun D σ H=>c σ H fun b H1=>if b=true then t D σ H1 else u D σ H1
theorem wR {c:Expr}{a b:List Stmt}{tc:TT}(hc:PT X c tc) (ha:PSs X a t) (hb:PSs X b u):PS X (.If c a b pos) (Aan tc t u):=by
 intro pins s σ H D I h;refine wpAny_If (thn (hc pins s σ H _ I h) ?_);rintro d s1 ⟨H1,I1,q1⟩;cases d with
 | true=>exact ha pins s1 σ H1 D I1 q1
 | false=>exact hb pins s1 σ H1 D I1 q1
end
noncomputable abbrev TG:=V->St->Hp->(St->Hp->Prop)->Prop
noncomputable abbrev TGs:=List V->St->Hp->(St->Hp->Prop)->Prop
noncomputable def PG (X:Cx) (target:Expr) (t:TG):Prop :=
 ∀ (pins:List (Addr×Obj)) (s:Shared) (σ:St) (H:Hp) (v:V) (u:Value) (Q:St->Hp->Prop),Inv X pins σ H s->RelV v u->t v σ H Q ->
  wpAny (model X.prog X.w) X.A (assign target X.env u) (fun _ s'=>∃ σ' H',Inv X pins σ' H' s'/\Q σ' H') X.xe s
noncomputable def PGs (X:Cx) (ts:List Expr) (t:TGs):Prop :=
 ∀ (pins:List (Addr×Obj)) (s:Shared) (σ:St) (H:Hp) (vs:List V) (us:List Value) (Q:St->Hp->Prop),Inv X pins σ H s->Vals vs us->t vs σ H Q ->
  wpAny (model X.prog X.w) X.A (assignInOrder ((assignEach ts X.env).map (·.2)) us) (fun _ s'=>∃ σ' H',Inv X pins σ' H' s'/\Q σ' H') X.xe s
noncomputable abbrev pU:=V->V->V->Hp->(Hp->Prop)->Prop
noncomputable def wU (X:Cx) (t:pU):Prop :=
 ∀ (pins:List (Addr×Obj)) (s:Shared) (σ:St) (H:Hp) (o i v:V) (ov iv u:Value) (Q:Hp->Prop),Inv X pins σ H s->RelV o ov->RelV i iv->RelV v u->t o i v H Q ->
  wpAny (model X.prog X.w) X.A (setItem ov iv u) (fun _ s'=>∃ H',Inv X pins σ H' s'/\Q H') X.xe s
section
variable {X:Cx}{pos:Pos}
noncomputable def Yr (i:Nat):TG:=fun v σ H Q=>Q (σ.set i (some v)) H
theorem Vg {i:Nat}{x:Str}(hN:X.N.Nodup) (hi:X.N[i]?=some x) (hx:Loc X.env.scope x) (hf:X.fn x=true\/X.env.scope.names.lookup x=some .local:=by first | exact .inl rfl | exact .inr rfl | assumption):PG X (.Name x pos) (Yr i):=by
 intro pins s σ H v u Q I r h;exact wpAny_assign_Name (K3 I hN hi hx r (fun s' I'=>⟨_,H,I',h⟩) hf)
noncomputable def wW:TGs:=fun vs σ H Q=>vs=[]/\Q σ H
noncomputable def nY (t:TG) (u:TGs):TGs:=fun vs σ H Q=>∃ v r,vs=v::r/\t v σ H fun σ' H'=>u r σ' H' Q
theorem gW:PGs X [] wW:=by
 intro pins s σ H vs us Q I r h;obtain ⟨e,h⟩:=h;subst e;cases r;exact assignInOrder_nil ⟨σ,H,I,h⟩
theorem Ys {e:Expr}{es:List Expr}{t:TG}{u:TGs}(h1:PG X e t) (h2:PGs X es u)
  (hs:(assignEach (e::es) X.env).map (·.2)=assign e X.env::(assignEach es X.env).map (·.2):=by rfl):PGs X (e::es) (nY t u):=by
 intro pins s σ H vs us Q I r h;obtain ⟨v,vr,e1,h⟩:=h;subst e1;cases r with
 | cons r rr =>
  rw [hs];refine assignInOrder_cons (thn (h1 pins s σ H _ _ _ I r h) ?_);rintro _ s1 ⟨σ1,H1,I1,q1⟩;exact h2 pins s1 σ1 H1 _ _ Q I1 rr q1
noncomputable def Aao (K:PySem.W.Frag) (n:Nat) (t:TGs):TG:=fun v σ H Q=>∃ a xs,v=.ref a/\SqT K H a xs/\xs.length=n/\t xs σ H Q
theorem pW {es:List Expr}{k:Nat}{t:TGs}{n:Nat}(hc:X.calm=true) (h:PGs X es t)
  (hn:(assignEach es X.env).length=n:=by rfl) (hst:(assignEach es X.env).findIdx? (·.1)=none:=by rfl):PG X (.Tuple es k pos) (Aao X.K n t):=by
 intro pins s σ H v u Q I r hw;obtain ⟨a,xs,e1,hq,hl,hw⟩:=hw;subst e1;cases r;obtain ⟨its,rv,ht,hz⟩:=I.tuple hq;refine assign_Tuple_tuple (I.ok.hd hc) ht (by simp [hn,← hl,rv.length]) hst fun h' hx=>?_
 have I1:Inv X pins σ H { s with heap:=h' }:=I.kept (t':=s.toks) fun b o e=>hx b o (Nat.ne_of_lt (Heap.lt_size e)) e
 exact h pins _ σ H xs _ Q I1 (by simpa using rv) hw
noncomputable def Aap (to ti:TE) (t:pU):TG:=fun v σ H Q=>to σ H fun o H1=>ti σ H1 fun i H2=>t o i v H2 fun H3=>Q σ H3
theorem pX {o i:Expr}{to ti:TE}{t:pU}(ho:PE X o to) (hi:PE X i ti) (hs:wU X t)
  (ha:∀ v,assign (.Subscript o i pos) X.env v=(do
   let ov ← holding [v] (eval o X.env)
   let iv ← holding [v,ov] (eval i X.env)
   standAt pos
   holding [v,ov,iv] (setItem ov iv v)
   release [v,ov,iv] []):=by intro _;rfl):PG X (.Subscript o i pos) (Aap to ti t):=by
 intro pins s σ H v u Q I r h;rw [ha];refine wpAny_bind (wpAny_holding (thn (ho pins s σ H _ I h) ?_));rintro ov s1 ⟨x,H1,I1,r1,q1⟩;refine wpAny_bind (wpAny_holding (thn (hi pins s1 σ H1 _ I1 q1) ?_));rintro iv s2 ⟨y,H2,I2,r2,q2⟩;refine wpAny_bind (wpAny_standAt (wpAny_bind (wpAny_holding (thn (hs pins s2 σ H2 x y v ov iv u _ I2 r1 r2 r q2) ?_))));rintro _ s3 ⟨H3,I3,q3⟩;exact wpAny_release ⟨σ,H3,I3,q3⟩
noncomputable def pY (te:TE) (g:TG):TS:=fun D σ H=>te σ H fun x H1=>g x σ H1 D.nx
theorem pZ {tg e:Expr}{te:TE}{g:TG}(he:PE X e te) (hg:PG X tg g) (hs:swapsWithSole [tg] e pos.line X.env=pure false:=by rfl) (hw:swappedStores [tg] e X.env=pure none:=by rfl)
  (h1:(assignEach [tg] X.env).map (·.2)=[assign tg X.env]:=by rfl):PS X (.Assign [tg] e pos) (pY te g):=by
 intro pins s σ H D I h;refine wpAny_Assign_stores (thn (he pins s σ H _ I h) ?_) hs hw;rintro v s1 ⟨x,H1,I1,r1,q1⟩;rw [h1];exact thn (hg pins s1 σ H1 x v _ I1 r1 q1) fun _ s2 q=>q
noncomputable def Aaq (i j:Nat) (ta:TA):TS:=fun D σ H=>ta σ H fun vs H1=>∃ v w,vs=[v,w]/\D.nx ((σ.set i (some v)).set j (some w)) H1
theorem qC {i j:Nat}{x y:Str}{a b:Expr}{ta:TA}{px py pt:Pos}{kt k2 pt2}(hc:X.calm=true) (hN:X.N.Nodup) (hi:X.N[i]?=some x) (hj:X.N[j]?=some y) (hij:i≠j)
  (hx:X.env.scope.names.lookup x=some .local) (hy:X.env.scope.names.lookup y=some .local) (ha:PA X [a,b] ta)
  (hw:swappedStores [.Tuple [.Name x px,.Name y py] kt pt] (.Tuple [a,b] k2 pt2) X.env=pure (some [x,y]))
  (hs:swapsWithSole [.Tuple [.Name x px,.Name y py] kt pt] (.Tuple [a,b] k2 pt2) pos.line X.env=pure false:=by rfl) :
  PS X (.Assign [.Tuple [.Name x px,.Name y py] kt pt] (.Tuple [a,b] k2 pt2) pos) (Aaq i j ta):=by
 intro pins s σ H D I h;rw [exec_Assign_arm];refine wpAny_bind (wpAny_standAt ?_);rw [hs];refine wpAny_bind (wpAny_pure ?_);rw [if_neg (by decide)];refine wpAny_bind (Tuple_ (thn (ha _ pins s σ H _ I h) ?_));rintro us s1 ⟨vs,H1,I1,r1,q1⟩;obtain ⟨v,w,e1,q1⟩:=q1;subst e1;obtain ⟨u1,u2,rfl,rv,rw'⟩:∃ u1 u2,us=[u1,u2]/\RelV v u1/\RelV w u2:=by
  cases r1 with
  | cons p q =>
   cases q with
   | cons p' q' =>
    cases q';exact ⟨_,_,rfl,p,p'⟩
 refine wpAny_newObj_type ?_ (by show 2<=sizeLine;decide)
 have I2:Inv X pins σ H1 { s1 with heap:=s1.heap.push { cls:=.type "tuple",data:=.seq [u1,u2].toArray } }:=I1.kept (t':=s1.toks) fun b o e=>Heap.get?_push_of_some _ e
 rw [hw];refine wpAny_bind (wpAny_pure ?_)
 show wpAny (model X.prog X.w) X.A (do rule "assign.swapped-stores";let items ← unpackItems (.ref s1.heap.objs.size) 2 none;assignInOrder [fun v=>bindName X.env y v,fun v=>bindName X.env x v] items.reverse;pure Flow.next) _ _ _;refine wpAny_bind (wpAny_rule (wpAny_bind (unpackItems_tuple (items:=#[u1,u2]) (I.ok.hd hc) (IsTup.new s1.heap _) fun h' hx'=>?_)));have I3:=I2.kept (h':=h') (t':=s1.toks) fun b o e=>hx' b o (Nat.ne_of_lt (Heap.lt_size e)) e
 show wpAny _ _ (assignInOrder [fun v=>bindName X.env y v,fun v=>bindName X.env x v] [u2,u1] >>= fun _=>pure Flow.next) _ _ _;refine wpAny_bind (assignInOrder_cons (wpAny_bindName (K3 I3 hN hj (.inl hy) rw' (fun s2 I4=>?_) (.inr hy))));refine assignInOrder_cons (wpAny_bindName (K3 I4 hN hi (.inl hx) rv (fun s3 I5=>assignInOrder_nil (wpAny_pure ?_)) (.inr hx)));rw [List.set_comm _ _ (Ne.symm hij)] at I5;exact ⟨_,H1,I5,q1⟩
end
section
variable {X:Cx}{pos:Pos}
noncomputable def qD (c:TT) (tb:TS):TS:=fun D σ H=>∃ W:Nat->St->Hp->Prop,(∃ m,W m σ H)/\∀ m σ H,W m σ H ->
 c σ H fun b H1=>if b=true then ∃ N:St->Hp->Prop,(∀ σ' H',N σ' H'->∃ m',m' < m/\W m' σ' H')/\tb { D with nx:=N,ct:=N,bk:=D.nx } σ H1 else D.nx σ H1
theorem Yt {c:Expr}{body:List Stmt}{tc:TT}{tb:TS}(hp:PassesOwn (model X.prog X.w) X.A X.env X.xe) (hc:PT X c tc) (hb:PSs X body tb):PS X (.While c body [] pos) (qD tc tb):=by
 intro pins s σ H D I h;obtain ⟨W,⟨m0,w0⟩,turn⟩:=h;refine wpAny_While (codeAny_whileLoop (fun n s'=>∃ σ' H',Inv X pins σ' H' s'/\W n σ' H') ?_ m0 ⟨σ,H,I,w0⟩);rintro n s1 ⟨σ1,H1,I1,w1⟩;refine wpAny_passesOwn hp (thn (hc pins s1 σ1 H1 _ I1 (turn n σ1 H1 w1)) ?_);rintro b s2 ⟨H2,I2,q2⟩;cases b with
 | true =>
  obtain ⟨N,hN,q2⟩:=q2;rw [if_pos rfl];refine wpAny_passesOwn hp (thn (hb pins s2 σ1 H2 _ I2 q2) fun f s3 q3=>?_);cases f with
  | next =>
   obtain ⟨σ3,H3,I3,n3⟩:=q3;obtain ⟨m',hm,w3⟩:=hN σ3 H3 n3;exact ⟨m',hm,σ3,H3,I3,w3⟩
  | cont =>
   obtain ⟨σ3,H3,I3,n3⟩:=q3;obtain ⟨m',hm,w3⟩:=hN σ3 H3 n3;exact ⟨m',hm,σ3,H3,I3,w3⟩
  | brk=>exact q3
  | ret v=>exact q3
 | false =>
  rw [if_neg Bool.false_ne_true];exact wpAny_execs_nil ⟨σ1,H2,I2,q2⟩
end
structure It where
 go:Nat->Hp->Prop
 yld:Nat->Hp->V->Hp->Prop
 stop:Nat->Hp->Prop
noncomputable def Ik (X:Cx) (pins:List (Addr×Obj)) (H:Hp) (b:Addr):Prop :=
 H b=none/\b≠X.env.locals/\b ∉ X.fs/\(b∈X.ex\/X.s₀.heap.objs.size<=b)/\(∀ x c,X.env.cells.lookup x=some c->c≠b)/\∀ p∈X.pn++pins,p.1≠b
theorem Inv.fpOk {X:Cx}{pins:List (Addr×Obj)}{σ:St}{H H':Hp}{s:Shared}{b:Addr}(I:Inv X pins σ H s) (hb:s.heap.objs.size<=b) (hn:H' b=none):Ik X pins H' b:=by
 refine ⟨hn,Nat.ne_of_gt (Nat.lt_of_lt_of_le I.lt hb),I.nofs hb,.inr (Nat.le_trans I.sz hb),fun x c e z=>?_,fun p hp z=>?_⟩
 ·obtain ⟨v,q⟩:=I.cell x c e;exact absurd (Nat.lt_of_lt_of_le q.lt (by rw [z];exact hb)) (Nat.lt_irrefl _)
 ·exact absurd (Nat.lt_of_lt_of_le (Heap.lt_size (I.pin p hp).1) (by rw [z];exact hb)) (Nat.lt_irrefl _)
structure Turn (P:Program) (w:World) (K:PySem.W.Frag) (tg:Expr) (J:It) (fp:List Addr) (it:Addr) (tn:Nat->Heap->Prop):Prop where
 mem:it∈fp
 obj:∀ i h,tn i h->∀ b∈fp,∃ o,h.get? b=some o/\∀ v,o.data≠.cell v
 keep:∀ i h h',tn i h->(∀ b∈fp,∀ o,h.get? b=some o->h'.get? b=some o)->tn i h'
 item:∀ (X:Cx),X.prog=P->X.w=w->X.K=K->X.calm=true->∀ (i:Nat) (pins:List (Addr×Obj)) (s:Shared) (σ:St) (H:Hp) (E:Value->Shared->Prop),Inv X pins σ H s->(∀ b∈fp,Ik X pins H b)->tn i s.heap->J.go i H ->
  wpAny (model P w) X.A (pyNext (.ref it)) (fun r s1=>∃ u,r=some u /\
   wpAny (model P w) X.A (letOwnedTupleGo tg (.ref it) u) (fun _ s2=>∃ x H',Inv X pins σ H' s2/\RelV x u/\J.yld i H x H'/\tn (i+1) s2.heap/\∀ b∈fp,H' b=none) E s1) E s
 done:∀ (X:Cx),X.prog=P->X.w=w->X.K=K->X.calm=true->∀ (i:Nat) (pins:List (Addr×Obj)) (s:Shared) (σ:St) (H:Hp) (E:Value->Shared->Prop),Inv X pins σ H s->(∀ b∈fp,Ik X pins H b)->tn i s.heap->J.stop i H ->
  wpAny (model P w) X.A (pyNext (.ref it)) (fun r s1=>r=none/\Inv X pins σ H s1) E s
 self:∀ (A:Around) (i:Nat) (s:Shared) (Q:Value->Shared->Prop) (E:Value->Shared->Prop),tn i s.heap->Q (.ref it) s->wpAny (model P w) A (pyIter (.ref it)) Q E s
noncomputable abbrev TI:=St->Hp->(It->Hp->Prop)->Prop
noncomputable def PIE (X:Cx) (pins:List (Addr×Obj)) (σ:St) (tg:Expr) (R:It->Hp->Prop) (itv:Value) (s2:Shared):Prop :=
 ∃ (it:Addr) (fp:List Addr) (tn:Nat->Heap->Prop) (J:It) (H':Hp),itv=.ref it/\Inv X pins σ H' s2/\Turn X.prog X.w X.K tg J fp it tn/\tn 0 s2.heap/\(∀ b∈fp,Ik X pins H' b)/\R J H'
noncomputable def PI (X:Cx) (tg iter:Expr) (wi:TI):Prop :=
 ∀ (pins:List (Addr×Obj)) (s:Shared) (σ:St) (H:Hp) (R:It->Hp->Prop),Inv X pins σ H s->wi σ H R ->
  wpAny (model X.prog X.w) X.A (eval iter X.env) (fun v s1=>wpAny (model X.prog X.w) X.A (pyIter v) (PIE X pins σ tg R) X.xe s1) X.xe s
theorem Yu {M:Model}{A:Around}{E:Value->Shared->Prop}{s:Shared}{tg:Expr}{it:Addr}{u:Value}{o:Obj}{n:String}{vs:Array Value}{Q:Unit->Shared->Prop}(ho:s.heap.get? it=some o) (hc:o.cls=.type n) (hd:o.data=.fields vs)
    (hn:["enumerate", "zip", "dict_itemiterator", "dict_reverseitemiterator", "odict_iterator", "itertools.zip_longest", "itertools.pairwise"].contains n=false) (hQ:Q () s):wpAny M A (letOwnedTupleGo tg (.ref it) u) Q E s:=by
  unfold letOwnedTupleGo;cases tg <;> first
    | exact wpAny_pure hQ
    | (cases u <;> first
        | exact wpAny_pure hQ
        | (refine wpAny_bind (wpAny_load ho ?_)
           rw [hc,hd]
           show wpAny M A (if (["enumerate", "zip", "dict_itemiterator", "dict_reverseitemiterator", "odict_iterator", "itertools.zip_longest", "itertools.pairwise"].contains n&&vs[0]?==some (rawInt _))=true then _ else _) Q E s;rw [if_neg (by intro h;rw [hn,Bool.false_and] at h;cases h)]
           exact wpAny_pure hQ))
noncomputable def Itl (K:PySem.W.Frag) (a:Addr):It :=
 ⟨fun i H=>∃ xs x,SqL K H a xs/\xs[i]?=some x,fun i H x H'=>H'=H/\∀ xs,SqL K H a xs->xs[i]?=some x,fun i H=>∃ xs,SqL K H a xs/\xs.length<=i⟩
noncomputable def Itt (K:PySem.W.Frag) (a:Addr):It :=
 ⟨fun i H=>∃ xs x,SqT K H a xs/\xs[i]?=some x,fun i H x H'=>H'=H/\∀ xs,SqT K H a xs->xs[i]?=some x,fun i H=>∃ xs,SqT K H a xs/\xs.length<=i⟩
noncomputable def Itr (lo:Int) (n:Nat):It:=⟨fun i _=>i < n,fun i H x H'=>H'=H/\x=.int (lo+i),fun i _=>n<=i⟩
theorem Wx {P:Program}{w:World}{K:PySem.W.Frag}{tg:Expr}(a it:Addr):Turn P w K tg (Itl K a) [it] it (fun i h=>h.IsListIter it a i) where
 mem:=by simp
 obj:=fun i h st b hb=>by
  have e:b=it:=by simpa using hb
  subst e;obtain ⟨o,e,c,d⟩:=st;exact ⟨o,e,fun v z=>by rw [d] at z;cases z⟩
 keep:=fun i h h' st k=>st.at fun o e=>k it (by simp) o e
 item:=by
  intro X hP hw hK hc i pins s σ H E I hf st hg;subst hP hw hK;obtain ⟨xs,x,hq,hx⟩:=hg;obtain ⟨its,rv,p,hz⟩:=I.list hq;obtain ⟨u,hu,ru⟩:=rv.get hx;obtain ⟨f0,f1,f2,f3,f4,f5⟩:=hf it (by simp);refine wpAny_pyNext_list_item st p.isList (x:=u) (by simpa using hu) fun h' st' sb=>?_
  have I1:Inv X pins σ H { s with heap:=h' }:=I.turned (t':=s.toks) (fun b o hb e=>(sb.2 b hb).trans e) f0 f1 f3 f4 f5;obtain ⟨o,e,c,d⟩:=id st';exact ⟨u,rfl,Yu (s:={ s with heap:=h' }) e c d (by decide) ⟨x,H,I1,ru,⟨rfl,fun ys hy=>by rw [I.list_inj hy hq];exact hx⟩,st',fun b hb=>(hf b hb).1⟩⟩
 done:=by
  intro X hP hw hK hc i pins s σ H E I hf st hg;subst hP hw hK;obtain ⟨xs,hq,hx⟩:=hg;obtain ⟨its,rv,p,hz⟩:=I.list hq;obtain ⟨f0,f1,f2,f3,f4,f5⟩:=hf it (by simp);have hl:=rv.length;exact wpAny_pyNext_list_end (I.ok.hd hc) st p.isList (by simp;omega) fun h' eb=>⟨rfl,I.turned (t':=s.toks) (fun b o hb e=>eb b o hb e) f0 f1 f3 f4 f5⟩
 self:=fun _ _ _ _ _ st h=>wpAny_pyIter_listiter st h
theorem Ti {P:Program}{w:World}{K:PySem.W.Frag}{tg:Expr}(a it:Addr):Turn P w K tg (Itt K a) [it] it (fun i h=>h.IsTupleIter it a i) where
 mem:=by simp
 obj:=fun i h st b hb=>by
  have e:b=it:=by simpa using hb
  subst e;obtain ⟨o,e,c,d⟩:=st;exact ⟨o,e,fun v z=>by rw [d] at z;cases z⟩
 keep:=fun i h h' st k=>st.at fun o e=>k it (by simp) o e
 item:=by
  intro X hP hw hK hc i pins s σ H E I hf st hg;subst hP hw hK;obtain ⟨xs,x,hq,hx⟩:=hg;obtain ⟨its,rv,p,hz⟩:=I.tuple hq;obtain ⟨u,hu,ru⟩:=rv.get hx;obtain ⟨f0,f1,f2,f3,f4,f5⟩:=hf it (by simp);refine wpAny_pyNext_tuple_item st (show s.heap.IsTuple a its.toArray from p) (x:=u) (by simpa using hu) fun h' st' sb=>?_
  have I1:Inv X pins σ H { s with heap:=h' }:=I.turned (t':=s.toks) (fun b o hb e=>(sb.2 b hb).trans e) f0 f1 f3 f4 f5;obtain ⟨o,e,c,d⟩:=id st';exact ⟨u,rfl,Yu (s:={ s with heap:=h' }) e c d (by decide) ⟨x,H,I1,ru,⟨rfl,fun ys hy=>by rw [I.tuple_inj hy hq];exact hx⟩,st',fun b hb=>(hf b hb).1⟩⟩
 done:=by
  intro X hP hw hK hc i pins s σ H E I hf st hg;subst hP hw hK;obtain ⟨xs,hq,hx⟩:=hg;obtain ⟨its,rv,p,hz⟩:=I.tuple hq;obtain ⟨f0,f1,f2,f3,f4,f5⟩:=hf it (by simp);have hl:=rv.length;exact wpAny_pyNext_tuple_end (I.ok.hd hc) st (show s.heap.IsTuple a its.toArray from p) (by simp;omega) fun h' eb=>⟨rfl,I.turned (t':=s.toks) (fun b o hb e=>eb b o hb e) f0 f1 f3 f4 f5⟩
 self:=fun _ _ _ _ _ st h=>wpAny_pyIter_tupleiter st h
theorem Tj {P:Program}{w:World}{K:PySem.W.Frag}{tg:Expr}(it:Addr) (lo:Int) (n:Nat):Turn P w K tg (Itr lo n) [it] it (fun i h=>IsRangeIter h it (lo+(i:Nat) * 1) ((n:Int) - (i:Nat)) 1) where
 mem:=by simp
 obj:=fun i h st b hb=>by
  have e:b=it:=by simpa using hb
  subst e
  exact ⟨_,st,fun v z=>by
   have z':Data.fields _=Data.cell v:=z
   cases z'⟩
 keep:=fun i h h' st k=>k it (by simp) _ st
 item:=by
  intro X hP hw hK hc i pins s σ H E I hf st hg;subst hP hw hK;obtain ⟨f0,f1,f2,f3,f4,f5⟩:=hf it (by simp);have W:=Walks.range (prog:=X.prog) (w:=X.w) (I.ok.hd hc) it lo 1 n;refine W.item i s _ _ hg st fun v h' tk hv st' kk=>?_
  obtain ⟨t,rfl⟩:=hv;have I1:Inv X pins σ H { s with heap:=h',toks:=tk }:=I.turned (fun b o hb e=>kk b o (by simpa using hb) e) f0 f1 f3 f4 f5
  refine ⟨_,rfl,Yu (s:={ s with heap:=h',toks:=tk }) (n := "range_iterator") st' rfl rfl (by decide) ⟨.int (lo+i),H,I1,⟨t,?_⟩,⟨rfl,rfl⟩,st',fun b hb=>(hf b hb).1⟩⟩;rw [Int.mul_one]
 done:=by
  intro X hP hw hK hc i pins s σ H E I hf st hg;subst hP hw hK;obtain ⟨f0,f1,f2,f3,f4,f5⟩:=hf it (by simp);exact wpAny_pyNext_range_end (I.ok.hd hc) st (by have:n<=i:=hg;omega) fun h' eb=>⟨rfl,I.turned (t':=s.toks) (fun b o hb e=>eb b o hb e) f0 f1 f3 f4 f5⟩
 self:=fun _ _ _ _ _ st h=>wpAny_pyIter_rangeiter st h
section
variable {X:Cx}{tg:Expr}
noncomputable def wX (K:PySem.W.Frag) (tl:TE):TI:=fun σ H R=>tl σ H fun x H1=>∃ a,x=.ref a/\(∃ xs,SqL K H1 a xs)/\R (Itl K a) H1
noncomputable def Aar (K:PySem.W.Frag) (tl:TE):TI:=fun σ H R=>tl σ H fun x H1=>∃ a,x=.ref a/\(∃ xs,SqT K H1 a xs)/\R (Itt K a) H1
theorem Vh {l:Expr}{tl:TE}(hl:PE X l tl):PI X tg l (wX X.K tl):=by
 intro pins s σ H R I h;refine thn (hl pins s σ H _ I h) ?_;rintro v s1 ⟨x,H1,I1,r1,q1⟩;obtain ⟨a,e,⟨xs,hq⟩,q⟩:=q1;subst e;cases r1;obtain ⟨its,rv,p,hz⟩:=I1.list hq;refine wpAny_pyIter_list p.isList ?_;refine ⟨s1.heap.objs.size,[s1.heap.objs.size],_,_,H1,rfl,I1.kept (t':=s1.toks) fun b o e=>Heap.get?_push_of_some _ e,Wx a _,⟨_,Heap.get?_push_size _ rfl,rfl,rfl⟩,fun b hb=>?_,q⟩;have e:b=s1.heap.objs.size:=by simpa using hb
 subst e;exact I1.fpOk (Nat.le_refl _) (I1.hok.fresh (Nat.le_refl _))
theorem qF {l:Expr}{tl:TE}(hl:PE X l tl):PI X tg l (Aar X.K tl):=by
 intro pins s σ H R I h;refine thn (hl pins s σ H _ I h) ?_;rintro v s1 ⟨x,H1,I1,r1,q1⟩;obtain ⟨a,e,⟨xs,hq⟩,q⟩:=q1;subst e;cases r1;obtain ⟨its,rv,p,hz⟩:=I1.tuple hq;refine wpAny_pyIter_tuple (show s1.heap.IsTuple a its.toArray from p) ?_;refine ⟨s1.heap.objs.size,[s1.heap.objs.size],_,_,H1,rfl,I1.kept (t':=s1.toks) fun b o e=>Heap.get?_push_of_some _ e,Ti a _,⟨_,Heap.get?_push_size _ rfl,rfl,rfl⟩,fun b hb=>?_,q⟩;have e:b=s1.heap.objs.size:=by simpa using hb
 subst e;exact I1.fpOk (Nat.le_refl _) (I1.hok.fresh (Nat.le_refl _))
theorem Q8 {pins:List (Addr×Obj)}{σ:St}{H:Hp}{s:Shared}{R:It->Hp->Prop}{E:Value->Shared->Prop}{lo hi:Int}{t u v:Tok}{tk:Nat}(I:Inv X pins σ H s) (h1:-(2 ^ 62)<=lo) (h2:lo < 2 ^ 62) (h3:-(2 ^ 62)<=hi) (h4:hi < 2 ^ 62)
  (q:R (Itr lo (hi - lo).toNat) H):wpAny (model X.prog X.w) X.A (pyIter (.ref s.heap.objs.size)) (PIE X pins σ tg R) E { s with heap:=s.heap.push { cls:=.type "range",data:=.fields #[.int lo t,.int hi u,.int 1 v] },toks:=tk }:=by
 refine wpAny_pyIter_range (IsRange.new ..) (small_one h1 h2 h3 h4) ?_
 have I1:Inv X pins σ H { s with heap:=s.heap.push { cls:=.type "range",data:=.fields #[.int lo t,.int hi u,.int 1 v] },toks:=tk }:=I.kept fun b o e=>Heap.get?_push_of_some _ e
 refine ⟨(s.heap.push { cls:=.type "range",data:=.fields #[.int lo t,.int hi u,.int 1 v] }).objs.size,[(s.heap.push { cls:=.type "range",data:=.fields #[.int lo t,.int hi u,.int 1 v] }).objs.size],_,_,H,rfl,
  I1.kept (t':=tk) fun b o e=>Heap.get?_push_of_some _ e,Tj _ lo (hi - lo).toNat,?_,fun b hb=>?_,q⟩
 ·have e1:lo+((0:Nat):Int) * 1=lo:=by simp
  have e2:(((hi - lo).toNat:Nat):Int) - ((0:Nat):Int)=Builtin.Range.rangeSize lo hi 1:=by rw [rangeSize_one];split <;> omega
  show IsRangeIter _ _ (lo+((0:Nat):Int) * 1) ((((hi - lo).toNat:Nat):Int) - ((0:Nat):Int)) 1;rw [e1,e2];exact Heap.get?_push_size _ rfl
 ·have e:b=(s.heap.push { cls:=.type "range",data:=.fields #[.int lo t,.int hi u,.int 1 v] }).objs.size:=by simpa using hb
  subst e;exact I1.fpOk (Nat.le_refl _) (I1.hok.fresh (Nat.le_refl _))
noncomputable def wY (ta:TA):TI:=fun σ H R=>ta σ H fun vs H1=>∃ j:Int,vs=[.int j]/\-(2 ^ 62)<=j/\j < 2 ^ 62/\R (Itr 0 j.toNat) H1
noncomputable def wZ (ta:TA):TI:=fun σ H R=>ta σ H fun vs H1=>∃ i j:Int,vs=[.int i,.int j]/\(-(2 ^ 62)<=i/\i < 2 ^ 62/\-(2 ^ 62)<=j/\j < 2 ^ 62)/\R (Itr i (j - i).toNat) H1
theorem Wz {a:Expr}{ta:TA}{p pos:Pos}(hg:Gl X "range") (hm:X.mg "range"=none) (ha:PA X [a] ta) (hs:starEach [a] X.env=[(false,eval a X.env)]:=by rfl):PI X tg (.Call (.Name "range" p) [a] [] pos) (wY ta):=by
 intro pins s σ H R I h;refine Call_ (K4 I hg hm boot_range (PyProof.Rows.callWith_type1 (thn (ha pos pins s σ H _ I h) ?_) hs rfl));rintro us s1 ⟨vs,H1,I1,r1,q1⟩;obtain ⟨j,e,q1,q2,q⟩:=q1;subst e;cases r1 with
 | cons r rr =>
  cases rr;obtain ⟨t,rfl⟩:=r;exact call_range_1 (Q8 I1 (by omega) (by omega) q1 q2 (by simpa using q))
theorem W0 {a b:Expr}{ta:TA}{p pos:Pos}(hg:Gl X "range") (hm:X.mg "range"=none) (ha:PA X [a,b] ta) (hs:starEach [a,b] X.env=[(false,eval a X.env),(false,eval b X.env)]:=by rfl) (hs2:starEach [b] X.env=[(false,eval b X.env)]:=by rfl) :
  PI X tg (.Call (.Name "range" p) [a,b] [] pos) (wZ ta):=by
 intro pins s σ H R I h;refine Call_ (K4 I hg hm boot_range (PyProof.Rows.callWith_type1 (thn (ha pos pins s σ H _ I h) fun us s1 ⟨vs,H1,I1,r1,q1⟩=>?_) (by rw [hs,hs2]) (by rw [hs2];rfl)));obtain ⟨i,j,e,⟨q1,q2,q3,q4⟩,q⟩:=q1;subst e;cases r1 with
 | cons r rr =>
  cases rr with
  | cons r' rr =>
   cases rr;obtain ⟨t,rfl⟩:=r;obtain ⟨t',rfl⟩:=r';exact call_range_2 (Q8 I1 q1 q2 q3 q4 q)
noncomputable def Aas (wi:TI) (g:TG) (tb:TS):TS:=fun D σ H=>wi σ H fun J H1=>∃ W:Nat->Nat->St->Hp->Prop,(∃ m,W 0 m σ H1)/\∀ i m σ H,W i m σ H ->
 (J.stop i H/\D.nx σ H)\/(J.go i H/\∃ N:St->Hp->Prop,(∀ σ' H',N σ' H'->∃ m',m' < m/\W (i+1) m' σ' H')/\∀ x H',J.yld i H x H'->g x σ H' fun σ2 H2=>tb { D with nx:=N,ct:=N,bk:=D.nx } σ2 H2)
noncomputable def Hx (fp:List Addr) (h:Heap):List (Addr×Obj):=fp.filterMap fun b=>(h.get? b).map fun o=>(b,o)
theorem Fv {fp:List Addr}{h:Heap}{b:Addr}{o:Obj}(hb:b∈fp) (e:h.get? b=some o):(b,o)∈Hx fp h:=List.mem_filterMap.mpr ⟨b,hb,by rw [e];rfl⟩
theorem Nq {fp:List Addr}{h:Heap}{p:Addr×Obj}(hp:p∈Hx fp h):p.1∈fp/\h.get? p.1=some p.2:=by
 obtain ⟨b,hb,e⟩:=List.mem_filterMap.mp hp;cases q:h.get? b with
 | none=>rw [q] at e;cases e
 | some o =>
  rw [q] at e;have e':(b,o)=p:=Option.some.inj e;subst e';exact ⟨hb,q⟩
theorem Inv.pinned {pins:List (Addr×Obj)}{σ:St}{H:Hp}{s:Shared}{fp:List Addr}(I:Inv X pins σ H s) (hf:∀ b∈fp,Ik X pins H b) (ho:∀ b∈fp,∃ o,s.heap.get? b=some o/\∀ v,o.data≠.cell v):Inv X (pins++Hx fp s.heap) σ H s :=
 I.pins_of fun p hp=>(List.mem_append.mp hp).elim (fun z=>I.pin p (List.mem_append_right _ z)) fun z=>by
  obtain ⟨hb,e⟩:=Nq z;obtain ⟨f0,f1,f2,_⟩:=hf p.1 hb;obtain ⟨o,e',d⟩:=ho p.1 hb;rw [e] at e';cases e';exact ⟨e,f0,f1,f2,d⟩
theorem Inv.unpinned {pins pl:List (Addr×Obj)}{σ:St}{H:Hp}{s:Shared}(I:Inv X (pins++pl) σ H s):Inv X pins σ H s:=I.pins_of fun p hp=>I.pin p (List.mem_append_right _ (List.mem_append_left _ hp))
theorem qG {iter:Expr}{body:List Stmt}{wi:TI}{g:TG}{tb:TS}{pos:Pos}(hp:PassesOwn (model X.prog X.w) X.A X.env X.xe) (hc:X.calm=true) (hi:PI X tg iter wi) (hg:PG X tg g) (hb:PSs X body tb)
  (hs:∀ x,foldedSetIterable iter X.env x=pure x:=by intro _;rfl):PS X (.For tg iter body [] pos) (Aas wi g tb):=by
 intro pins s σ H D I h;refine wpAny_For (thn (hi pins s σ H _ I h) fun v s1 h1=>thn h1 fun itv s2 h2=>?_) hs;obtain ⟨it,fp,tn,J,H2,e,I2,T,st2,f2,W,⟨m0,w0⟩,turn⟩:=h2;subst e
 -- what stays true of the iterator's objects through the loop
 have stat:∀ {H':Hp},(∀ b∈fp,H' b=none)->∀ b∈fp,Ik X pins H' b:=fun hn b hb=>⟨hn b hb,(f2 b hb).2⟩
 refine codeAny_forLoop_any (fun n s'=>∃ i σ' H',Inv X pins σ' H' s'/\tn i s'.heap/\(∀ b∈fp,H' b=none)/\W i n σ' H') ?_ m0 ⟨0,σ,H2,I2,st2,fun b hb=>(f2 b hb).1,w0⟩;rintro n s3 ⟨i,σ3,H3,I3,st3,fr3,w3⟩;rcases turn i n σ3 H3 w3 with ⟨stop,qn⟩|⟨go,N,hN,step⟩
 ·refine wpAny_passesOwn hp (thn (T.done X rfl rfl rfl hc i pins s3 σ3 H3 X.xe I3 (stat fr3) st3 stop) ?_);rintro r s4 ⟨hr,I4⟩;subst hr;exact wpAny_execs_nil ⟨σ3,H3,I4,qn⟩
 ·refine wpAny_passesOwn hp (thn (T.item X rfl rfl rfl hc i pins s3 σ3 H3 X.xe I3 (stat fr3) st3 go) ?_);rintro r s4 ⟨u,hr,h4⟩;subst hr;refine wpAny_passesOwn hp (thn h4 ?_);rintro _ s5 ⟨x,H5,I5,r5,y5,st5,fr5⟩;have I5':=I5.pinned (stat fr5) (T.obj _ _ st5);refine wpAny_passesOwn hp (thn (hg _ s5 σ3 H5 x u _ I5' r5 (step x H5 y5)) ?_);rintro _ s6 ⟨σ6,H6,I6,q6⟩;refine wpAny_passesOwn hp (thn (hb _ s6 σ6 H6 _ I6 q6) fun f s7 q7=>?_);have again:∀ {σ7:St} {H7:Hp},Inv X (pins++Hx fp s5.heap) σ7 H7 s7->N σ7 H7->∃ m,m < n/\∃ i σ' H',Inv X pins σ' H' s7/\tn i s7.heap/\(∀ b∈fp,H' b=none)/\W i m σ' H':=fun {σ7 H7} I7 n7=>by
   obtain ⟨m',hm,w7⟩:=hN σ7 H7 n7;refine ⟨m',hm,i+1,σ7,H7,I7.unpinned,T.keep _ _ _ st5 fun b hb o e=>(I7.pin (b,o) (List.mem_append_right _ (List.mem_append_right _ (Fv hb e)))).1,fun b hb=>?_,w7⟩;obtain ⟨o,e,d⟩:=T.obj _ _ st5 b hb;exact (I7.pin (b,o) (List.mem_append_right _ (List.mem_append_right _ (Fv hb e)))).2.1
  cases f with
  | next=>obtain ⟨σ7,H7,I7,n7⟩:=q7;exact again I7 n7
  | cont=>obtain ⟨σ7,H7,I7,n7⟩:=q7;exact again I7 n7
  | brk=>obtain ⟨σ7,H7,I7,q7⟩:=q7;exact ⟨σ7,H7,I7.unpinned,q7⟩
  | ret v=>obtain ⟨x7,σ7,H7,I7,r7,q7⟩:=q7;exact ⟨x7,σ7,H7,I7.unpinned,r7,q7⟩
end
noncomputable abbrev R2:=V->V->Hp->VK->Prop
noncomputable def OpR (X:Cx) (f:Value->Value->Sem Value) (r:R2):Prop :=
 ∀ (pins:List (Addr×Obj)) (s:Shared) (σ:St) (H:Hp) (x y:V) (v u:Value) (Q:VK),Inv X pins σ H s->RelV x v->RelV y u->r x y H Q ->
  wpAny (model X.prog X.w) X.A (f v u) (EP X pins σ Q) X.xe s
noncomputable def UnR (X:Cx) (f:Value->Sem Value) (r:V->Hp->VK->Prop):Prop :=
 ∀ (pins:List (Addr×Obj)) (s:Shared) (σ:St) (H:Hp) (x:V) (v:Value) (Q:VK),Inv X pins σ H s->RelV x v->r x H Q ->
  wpAny (model X.prog X.w) X.A (f v) (EP X pins σ Q) X.xe s
noncomputable def Bs (X:Cx) (f:Value) (r:List V->Hp->VK->Prop):Prop :=
 ∀ (pins:List (Addr×Obj)) (s:Shared) (σ:St) (H:Hp) (xs:List V) (us:List Value) (Q:VK),Inv X pins σ H s->Vals xs us->r xs H Q ->
  wpAny (model X.prog X.w) X.A (call f us) (EP X pins σ Q) X.xe s
noncomputable def Aat (X:Cx) (r:V->Hp->(Bool->Hp->Prop)->Prop):Prop :=
 ∀ (pins:List (Addr×Obj)) (s:Shared) (σ:St) (H:Hp) (x:V) (v:Value) (Q:Bool->Hp->Prop),Inv X pins σ H s->RelV x v->r x H Q ->
  wpAny (model X.prog X.w) X.A (truthy v) (TP X pins σ Q) X.xe s
noncomputable def tOp (r:R2) (ta tb:TE):TE:=fun σ H Q=>ta σ H fun x H1=>tb σ H1 fun y H2=>r x y H2 Q
noncomputable def tUn (r:V->Hp->VK->Prop) (ta:TE):TE:=fun σ H Q=>ta σ H fun x H1=>r x H1 Q
noncomputable def rI (C:Int->Int->Prop) (g:Int->Int->V):R2:=fun x y H Q=>∃ i j,x=.int i/\y=.int j/\C i j/\Q (g i j) H
noncomputable def rI0 (g:Int->Int->V):R2:=fun x y H Q=>∃ i j,x=.int i/\y=.int j/\Q (g i j) H
noncomputable def rU (g:Int->V):V->Hp->VK->Prop:=fun x H Q=>∃ i,x=.int i/\Q (g i) H
section
variable {X:Cx}{a b c:Expr}{ta tb tc:TE}{pos:Pos}
theorem qH (ha:PE X a ta) (hb:PE X b tb) {pins:List (Addr×Obj)}{s:Shared}{σ:St}{H:Hp}{R:V->V->Hp->Prop}(I:Inv X pins σ H s)
  (h:ta σ H fun x H1=>tb σ H1 fun y H2=>R x y H2) {Q:Value->Shared->Prop} {f:Value->Value->Sem Value}
  (hf:∀ v u s2 x y H2,Inv X pins σ H2 s2->RelV x v->RelV y u->R x y H2->wpAny (model X.prog X.w) X.A (f v u) Q X.xe s2) :
  wpAny (model X.prog X.w) X.A (eval a X.env) (fun v s₁=>wpAny (model X.prog X.w) X.A (eval b X.env) (fun u s₂=>wpAny (model X.prog X.w) X.A (f v u) Q X.xe s₂) X.xe s₁) X.xe s:=by
 refine thn (ha pins s σ H _ I h) ?_;rintro v s1 ⟨x,H1,I1,r1,q1⟩;refine thn (hb pins s1 σ H1 _ I1 q1) ?_;rintro u s2 ⟨y,H2,I2,r2,q2⟩;exact hf v u s2 x y H2 I2 r1 r2 q2
theorem xG {op:Operator}{r:R2}(ho:OpR X (binaryOp op) r) (ha:PE X a ta) (hb:PE X b tb):PE X (.BinOp a op b pos) (tOp r ta tb):=by
 intro pins s σ H Q I h;exact wpAny_BinOp (qH ha hb I h fun v u s2 x y H2 I2 rx ry q=>ho pins s2 σ H2 x y v u Q I2 rx ry q)
theorem xH {op:UnaryOp}{r:V->Hp->VK->Prop}(ho:UnR X (unaryOp op) r) (ha:PE X a ta):PE X (.UnaryOp op a pos) (tUn r ta):=by
 intro pins s σ H Q I h;refine UnaryOp_ (thn (ha pins s σ H _ I h) ?_);rintro v s1 ⟨x,H1,I1,r1,q1⟩;exact ho pins s1 σ H1 x v Q I1 r1 q1
theorem opI {f:Value->Value->Sem Value}{C:Int->Int->Prop}{g:Int->Int->Int}
  (rule:∀ (i j:Int) (t u:Tok) (s:Shared) (Q:Value->Shared->Prop) (E:Value->Shared->Prop),C i j->Q (.int (g i j) s.toks) { s with toks:=s.toks+1 }->wpAny (model X.prog X.w) X.A (f (.int i t) (.int j u)) Q E s) :
  OpR X f (rI C fun i j=>.int (g i j)):=by
 intro pins s σ H x y v u Q I rx ry h;obtain ⟨i,j,rfl,rfl,hc,q⟩:=h;obtain ⟨t,rfl⟩:=rx;obtain ⟨t',rfl⟩:=ry;exact rule i j t t' s _ _ hc ⟨.int (g i j),H,I.tok _,⟨_,rfl⟩,q⟩
theorem xJ {f:Value->Value->Sem Value}{g:Int->Int->Int}
  (rule:∀ (i j:Int) (t u:Tok) (s:Shared) (Q:Value->Shared->Prop) (E:Value->Shared->Prop),Q (.int (g i j) s.toks) { s with toks:=s.toks+1 }->wpAny (model X.prog X.w) X.A (f (.int i t) (.int j u)) Q E s) :
  OpR X f (rI0 fun i j=>.int (g i j)):=by
 intro pins s σ H x y v u Q I rx ry h;obtain ⟨i,j,rfl,rfl,q⟩:=h;obtain ⟨t,rfl⟩:=rx;obtain ⟨t',rfl⟩:=ry;exact rule i j t t' s _ _ ⟨.int (g i j),H,I.tok _,⟨_,rfl⟩,q⟩
theorem gY {f:Value->Value->Sem Value}{g:Int->Int->Bool}
  (rule:∀ (i j:Int) (t u:Tok) (s:Shared) (Q:Value->Shared->Prop) (E:Value->Shared->Prop),Q (.bool (g i j)) s->wpAny (model X.prog X.w) X.A (f (.int i t) (.int j u)) Q E s) :
  OpR X f (rI0 fun i j=>.bl (g i j)):=by
 intro pins s σ H x y v u Q I rx ry h;obtain ⟨i,j,rfl,rfl,q⟩:=h;obtain ⟨t,rfl⟩:=rx;obtain ⟨t',rfl⟩:=ry;exact rule i j t t' s _ _ ⟨.bl (g i j),H,I,rfl,q⟩
noncomputable def qI (i j:Int):Prop:=(-(2 ^ 64) < i/\i < 2 ^ 64)\/(-(2 ^ 64) < j/\j < 2 ^ 64)
theorem qI.ok {i j:Int}(h:qI i j):IntMulOk i j:=by
 rcases h with ⟨h1,h2⟩|⟨h1,h2⟩
 ·exact .of_left (intBits_le_64 h1 h2)
 ·exact .of_right (intBits_le_64 h1 h2)
theorem qJ:OpR X (binaryOp .Add) (rI0 fun i j=>.int (i+j)):=xJ fun _ _ _ _ _ _ _ q=>add_int q
theorem qK:OpR X (binaryOp .Sub) (rI0 fun i j=>.int (i - j)):=xJ fun _ _ _ _ _ _ _ q=>sub_int q
theorem qL:OpR X (binaryOp .Mult) (rI qI fun i j=>.int (i * j)):=opI fun _ _ _ _ _ _ _ hc q=>mul_int q hc.ok
theorem gZ:OpR X (binaryOp .Mod) (rI (fun _ j=>j≠0) fun i j=>.int (i.fmod j)):=opI fun _ _ _ _ _ _ _ hc q=>mod_int' hc q
theorem unI {f:Value->Sem Value}{g:Int->Int}
  (rule:∀ (i:Int) (t:Tok) (s:Shared) (Q:Value->Shared->Prop) (E:Value->Shared->Prop),Q (.int (g i) s.toks) { s with toks:=s.toks+1 }->wpAny (model X.prog X.w) X.A (f (.int i t)) Q E s) :
  UnR X f (rU fun i=>.int (g i)):=by
 intro pins s σ H x v Q I rx h;obtain ⟨i,rfl,q⟩:=h;obtain ⟨t,rfl⟩:=rx;exact rule i t s _ _ ⟨.int (g i),H,I.tok _,⟨_,rfl⟩,q⟩
theorem qM:UnR X (unaryOp .USub) (rU fun i=>.int (-i)):=unI fun _ _ _ _ _ q=>neg_int q
end
section
variable {X:Cx}{a b c:Expr}{ta tb tc:TE}{pos:Pos}
theorem xK:OpR X (compareOp .Lt) (rI0 fun i j=>.bl (decide (i < j))):=gY fun _ _ _ _ _ _ _ q=>lt_int q
theorem xM:OpR X (compareOp .LtE) (rI0 fun i j=>.bl (decide (i<=j))):=gY fun _ _ _ _ _ _ _ q=>le_int q
theorem xN:OpR X (compareOp .Gt) (rI0 fun i j=>.bl (decide (j < i))):=gY fun _ _ _ _ _ _ _ q=>gt_int q
theorem xO:OpR X (compareOp .GtE) (rI0 fun i j=>.bl (decide (j<=i))):=gY fun _ _ _ _ _ _ _ q=>ge_int q
theorem OpR.or {f:Value->Value->Sem Value}{r r':R2}(h:OpR X f r) (h':OpR X f r'):OpR X f (fun x y H Q=>r x y H Q\/r' x y H Q):=by
 intro pins s σ H x y v u Q I rx ry q;rcases q with q|q
 ·exact h pins s σ H x y v u Q I rx ry q
 ·exact h' pins s σ H x y v u Q I rx ry q
theorem iB {op:CmpOp}{r:R2}(ho:OpR X (compareOp op) r) (ha:PE X a ta) (hb:PE X b tb) (hm:behindInMarks op b=false):PE X (.Compare a [op] [b] pos) (tOp r ta tb):=by
 intro pins s σ H Q I h;exact wpAny_Compare1 (qH ha hb I h fun v u s2 x y H2 I2 rx ry q=>ho pins s2 σ H2 x y v u Q I2 rx ry q) hm
noncomputable def Yv (t:TE):TT:=fun σ H Q=>t σ H fun x H'=>∃ k,x=.bl k/\Q k H'
theorem iC {op:CmpOp}{r:R2}(ho:OpR X (compareOp op) r) (ha:PE X a ta) (hb:PE X b tb) (hm:behindInMarks op b=false):PT X (.Compare a [op] [b] pos) (Yv (tOp r ta tb)):=by
 intro pins s σ H Q I h
 refine wpAny_isTrue_Compare1 (thn (ha pins s σ H _ I h) fun v s1 ⟨x,H1,I1,r1,q1⟩=>thn (hb pins s1 σ H1 _ I1 q1) fun u s2 ⟨y,H2,I2,r2,q2⟩ =>
  thn (ho pins s2 σ H2 x y v u _ I2 r1 r2 q2) fun c s3 ⟨z,H3,I3,r3,k,e,q3⟩=>?_) hm
 subst e;cases r3;exact wpAny_truthy_bool ⟨H3,I3,q3⟩
noncomputable def Tn (r r':R2) (ta tb tc:TE):TE:=fun σ H Q=>ta σ H fun x H1=>tb σ H1 fun y H2=>r x y H2 fun z H3=>∃ k,z=.bl k /\
 (if k=true then tc σ H3 fun w' H4=>r' y w' H4 Q else Q (.bl false) H3)
theorem Yw {op op':CmpOp}{r r':R2}(ho:OpR X (compareOp op) r) (ho':OpR X (compareOp op') r') (ha:PE X a ta) (hb:PE X b tb) (hc:PE X c tc)
  (hm:lastMarks [op,op'] [b,c]=false:=by with_unfolding_all rfl):PE X (.Compare a [op,op'] [b,c] pos) (Tn r r' ta tb tc):=by
 intro pins s σ H Q I h
 refine Compare_chain (thn (ha pins s σ H _ I h) fun v s1 ⟨x,H1,I1,r1,q1⟩=>chain_link (thn (hb pins s1 σ H1 _ I1 q1) fun u s2 ⟨y,H2,I2,r2,q2⟩ =>
  thn (ho pins s2 σ H2 x y v u _ I2 r1 r2 q2) fun d s3 ⟨z,H3,I3,r3,k,e,q3⟩=>?_)) hm
 subst e;cases r3;refine wpAny_truthy_bool ?_;cases k with
 | false=>exact ite_ff ⟨.bl false,H3,I3,rfl,q3⟩
 | true=>exact ite_tt (chain_last (thn (hc pins s3 σ H3 _ I3 q3) fun w' s4 ⟨z',H4,I4,r4,q4⟩=>ho' pins s4 σ H4 y z' u w' Q I4 r2 r4 q4))
theorem Yx {op op':CmpOp}{r r':R2}(ho:OpR X (compareOp op) r) (ho':OpR X (compareOp op') r') (ha:PE X a ta) (hb:PE X b tb) (hc:PE X c tc)
  (hm:lastMarks [op,op'] [b,c]=false:=by with_unfolding_all rfl):PT X (.Compare a [op,op'] [b,c] pos) (Yv (Tn r r' ta tb tc)):=by
 intro pins s σ H Q I h
 refine isTrue_chain (thn (ha pins s σ H _ I h) fun v s1 ⟨x,H1,I1,r1,q1⟩=>test_link (thn (hb pins s1 σ H1 _ I1 q1) fun u s2 ⟨y,H2,I2,r2,q2⟩ =>
  thn (ho pins s2 σ H2 x y v u _ I2 r1 r2 q2) fun d s3 ⟨z,H3,I3,r3,k,e,q3⟩=>?_)) hm
 subst e;cases r3;refine wpAny_truthy_bool ?_;cases k with
 | false =>
  obtain ⟨k',e',q'⟩:=q3;cases e';exact ite_ff ⟨H3,I3,q'⟩
 | true =>
  refine ite_tt (test_last (thn (hc pins s3 σ H3 _ I3 q3) ?_));rintro w' s4 ⟨z',H4,I4,r4,q4⟩;refine thn (ho' pins s4 σ H4 y z' u w' _ I4 r2 r4 q4) ?_;rintro d' s5 ⟨z2,H5,I5,r5,k2,e2,q5⟩;subst e2;cases r5;exact wpAny_truthy_bool ⟨H5,I5,q5⟩
noncomputable def qN (K:PySem.W.Frag) (x:V) (H:Hp) (k:Bool):Prop :=
 match x with
 | .non=>k=false
 | .bl b=>k=b
 | .int i=>k=(i != 0)
 | .str y=>y.length<=sizeLine/\k=((y.length:Int) != 0)
 | .byt y=>y.size<=sizeLine/\k=((y.size:Int) != 0)
 | .ref p=>(∃ xs,SqL K H p xs/\k=!xs.isEmpty)\/(∃ xs,SqT K H p xs/\k=!xs.isEmpty)\/∃ kvs,H p=some (.dK kvs)/\k=!kvs.isEmpty
 | _=>False
theorem Tp {κ:Type}{kvs:List (κ×V)}{vs:List (κ×Value)}(r:KV kvs vs):(!vs.isEmpty)=!kvs.isEmpty:=by
 cases r <;> rfl
theorem K5 {xs:List V}{its:List Value}(r:Vals xs its):(!its.toArray.isEmpty)=!xs.isEmpty:=by
 cases r <;> simp
theorem Hy:(sizeLine:Nat) < 2 ^ 63:=by rw [sizeLine_eq];decide
theorem qO:Aat X (fun x H Q=>∃ k,qN X.K x H k/\Q k H):=by
 intro pins s σ H x v Q I rx h;obtain ⟨k,e,q⟩:=h;have hl:=Hy;have hs:sizeLine=16777216:=sizeLine_eq;cases x with
 | non =>
  cases rx;have e':k=false:=e;subst e';exact truthy_none ⟨H,I,q⟩
 | bl b =>
  cases rx;have e':k=b:=e;subst e';exact wpAny_truthy_bool ⟨H,I,q⟩
 | int i =>
  obtain ⟨t,rfl⟩:=rx;have e':k=(i != 0):=e;subst e';exact PySem.P.truthy_int ⟨H,I,q⟩
 | str y =>
  obtain ⟨t,rfl⟩:=rx;obtain ⟨hy,e'⟩:y.length<=sizeLine/\k=((y.length:Int) != 0):=e;subst e';exact PySem.P.truthy_str (by omega) ⟨H,I.tok _,q⟩
 | byt y =>
  obtain ⟨t,rfl⟩:=rx;obtain ⟨hy,e'⟩:y.size<=sizeLine/\k=((y.size:Int) != 0):=e;subst e';exact PySem.W.truthy_bytes (by omega) ⟨H,I.tok _,q⟩
 | ref p =>
  cases rx;have e':(∃ xs,SqL X.K H p xs/\k=!xs.isEmpty)\/(∃ xs,SqT X.K H p xs/\k=!xs.isEmpty)\/∃ kvs,H p=some (.dK kvs)/\k=!kvs.isEmpty:=e;rcases e' with ⟨xs,hx,e'⟩|⟨xs,hx,e'⟩|⟨kvs,hx,e'⟩
  ·subst e';obtain ⟨its,r,pl,hz⟩:=I.list hx;have hlen:=r.length;exact wpAny_truthy_list pl.isList (by simp only [List.size_toArray];omega) ⟨H,I.tok _,by rw [K5 r];exact q⟩
  ·subst e';obtain ⟨its,r,pl,hz⟩:=I.tuple hx;have hlen:=r.length;exact truthy_tuple pl (by simp only [List.size_toArray];omega) ⟨H,I.tok _,by rw [K5 r];exact q⟩
  ·subst e';obtain ⟨hz,hS,vs,r,m⟩:kvs.length<=sizeLine/\(p==sysModules)=false/\∃ vs,KV kvs vs/\s.heap.DictOf (Az X.prog X.w) p vs:=I.hok p _ hx;have hlen:kvs.length=vs.length:=Paired.length r;exact wpAny_truthy_dict hS m (by omega) ⟨H,I.tok _,by rw [Tp r];exact q⟩
 | _=>exact (show False from e).elim
theorem Yy (ha:PE X a ta) (he:∀ whole,isTrue a X.env whole=(do let v ← whole;standAt a.pos;holding [v] (truthy v))) :
  PT X a (fun σ H Q=>ta σ H fun x H'=>∃ k,qN X.K x H' k/\Q k H'):=by
 intro pins s σ H Q I h;exact isTrue_plain (thn (ha pins s σ H _ I h) fun v s1 ⟨x,H1,I1,r1,q1⟩=>qO pins s1 σ H1 x v Q I1 r1 q1) (he _)
theorem Tq:OpR X (binaryOp .Add) (fun x y H Q=>∃ i j,x=.str i/\y=.str j/\i.length+j.length<=sizeLine/\Q (.str (i++j)) H):=by
 intro pins s σ H x y v u Q I rx ry h;obtain ⟨i,j,rfl,rfl,hz,q⟩:=h;obtain ⟨t,rfl⟩:=rx;obtain ⟨t',rfl⟩:=ry;exact add_str (fun t' tk=>⟨.str (i++j),H,I.tok _,⟨_,rfl⟩,q⟩) hz
theorem vals1 {x:V}{us:List Value}(r:Vals [x] us):∃ u,us=[u]/\RelV x u:=by
 cases r with
 | cons r1 r2=>cases r2;exact ⟨_,rfl,r1⟩
theorem Nr:Bs X (.type "int") (fun xs H Q=>(∃ i,xs=[.int i]/\Q (.int i) H)\/∃ k,xs=[.bl k]/\Q (.int (if k then 1 else 0)) H):=by
 intro pins s σ H xs us Q I r h;rcases h with ⟨i,rfl,q⟩|⟨k,rfl,q⟩
 ·obtain ⟨u,rfl,t,rfl⟩:=vals1 r;exact call_int_int ⟨.int i,H,I,⟨_,rfl⟩,q⟩
 ·obtain ⟨u,rfl,r1⟩:=vals1 r;cases r1;exact call_int_bool ⟨.int (if k then 1 else 0),H,I.tok _,⟨_,rfl⟩,q⟩
end
section
variable {prog:Program}{w:World}{A:Around}{E:Value->Shared->Prop}{s:Shared}{K:PySem.W.Frag}{x dx C f:Addr}{mA:Str->Option Value}{name:Str}{v:Value}
end
theorem K1.some_of {v:V}{o:Option Value}(r:K1 (some v) o):∃ u,o=some u/\RelV v u:=by
 cases o with
 | none=>exact (show False from r).elim
 | some u=>exact ⟨u,rfl,r⟩
section
variable {P:Program}{w:World}{H H':Hp}{h h':Heap}{a C dx:Addr}{fs fs':List (Str×V)}
end
structure Cls (K:PySem.W.Frag) (C:Addr):Prop where
 pg:PySem.W.plainGet K C Str.empty=true
 hd:PySem.W.hasDictIn K C=true
 po:PySem.W.plainOver K C=true
 sa:PySem.W.findIn K (.ref C) "__setattr__"=some (some (.builtin "object.__setattr__"))
noncomputable def Yz (K:PySem.W.Frag) (C:Addr) (f:Str):Prop:=PySem.W.findIn K (.ref C) f=some none
structure Meth (K:PySem.W.Frag) (C:Addr) (m:Str) (f:Addr):Prop where
 at_:PySem.W.findIn K (.ref C) m=some (some (.ref f))
 fn:PySem.W.isFn K (.ref f)=true
 kp:PySem.W.keepIn K (.ref f)=true
section
variable {X:Cx}{pins:List (Addr×Obj)}{σ:St}{H:Hp}{s:Shared}{a C dx:Addr}{fs:List (Str×V)}{f:Str}{v:V}{A:Around}{E:Value->Shared->Prop}
end
section
variable {X:Cx}{o e value:Expr}{f:Str}{pos pos' tpos:Pos}{ta tv:TE}
end
section
variable {X:Cx}{pins:List (Addr×Obj)}{σ:St}{H:Hp}{s:Shared}{A:Around}{E:Value->Shared->Prop}{Q:Value->Shared->Prop}{c:Value}{b:Bool}
end
structure Room (k:Nat) (A:Around):Prop where
 hd:A.handled=none
 dp:A.depth+3 * k+5 < recursionLimit
 un:A.units+16 * k+200 < cLine
theorem Room.deeper {k:Nat}{A:Around}(r:Room (k+1) A) (env:Env):Room k (A.deeper env) :=
 ⟨r.hd,by have:=r.dp;show A.depth+1+3 * k+5 < _;omega,by have:=r.un;show A.units+3+16 * k+200 < _;omega⟩
theorem Room.depth {k:Nat}{A:Around}(r:Room k A):A.depth < recursionLimit:=by have:=r.dp;omega
theorem Room.units {k:Nat}{A:Around}(r:Room k A):A.units+64 < cLine:=by have:=r.un;omega
noncomputable def xP:TA:=fun _ H Q=>Q [] H
noncomputable def xQ (ta:TE) (tr:TA):TA:=fun σ H Q=>ta σ H fun x H1=>tr σ H1 fun xs H2=>Q (x::xs) H2
section
variable {X:Cx}{e:Expr}{es:List Expr}{te:TE}{t:TA}{pos:Pos}
theorem Y0:PA X [] xP:=fun _ _ _ _ H Q I h=>Calls.spliced_nil ⟨[],H,I,.nil,h⟩
theorem Vi (ha:PE X e te) (hr:PA X es t) (hs:starEach (e::es) X.env=(false,eval e X.env)::starEach es X.env:=by rfl):PA X (e::es) (xQ te t):=by
 intro pos pins s σ H Q I h;rw [hs];show wpAny _ _ (spliced ((false,eval e X.env)::backTo pos (starEach es X.env))) _ _ s;refine Calls.spliced_cons (thn (ha pins s σ H _ I h) ?_);rintro u s1 ⟨x,H1,I1,r1,q1⟩;refine thn (hr pos pins s1 σ H1 _ I1 q1) ?_;rintro us s2 ⟨xs,H2,I2,r2,q2⟩;exact ⟨x::xs,H2,I2,.cons r1 r2,q2⟩
noncomputable def Aau (t:TA):TE:=fun σ H Q=>t σ H fun xs H1=>xs.length<=sizeLine/\∀ p,H1 p=none->Q (.ref p) (upd H1 p (.tup xs))
noncomputable def Aav (t:TA):TE:=fun σ H Q=>t σ H fun xs H1=>xs.length<=sizeLine/\∀ p,H1 p=none->Q (.ref p) (upd H1 p (.lst xs))
theorem qP {x1}(h:PA X es t):PE X (.Tuple es x1 pos) (Aau t):=by
 intro pins s σ H Q I hq;refine wpAny_Tuple_spliced (thn (h pos pins s σ H _ I hq) ?_);rintro us s1 ⟨xs,H1,I1,r,z,q⟩;refine ⟨by rw [← r.length];exact z,?_⟩;have hf:H1 s1.heap.objs.size=none:=I1.hok.fresh (Nat.le_refl _);refine ⟨.ref s1.heap.objs.size,upd H1 s1.heap.objs.size (.tup xs),I1.laid (t':=s1.toks) (fun b u e=>Heap.get?_push_of_some _ e) (Nat.le_refl _) ?_,rfl,q _ hf⟩;exact ⟨z,us,r,⟨_,Heap.get?_push_size _ rfl,rfl,rfl,_,rfl⟩⟩
theorem qQ (h:PA X es t):PE X (.List es pos) (Aav t):=by
 intro pins s σ H Q I hq;refine wpAny_List_spliced (thn (h pos pins s σ H _ I hq) ?_);rintro us s1 ⟨xs,H1,I1,r,z,q⟩;refine ⟨by rw [← r.length];exact z,?_⟩;have hf:H1 s1.heap.objs.size=none:=I1.hok.fresh (Nat.le_refl _);refine ⟨.ref s1.heap.objs.size,upd H1 s1.heap.objs.size (.lst xs),I1.laid (t':=s1.toks) (fun b u e=>Heap.get?_push_of_some _ e) (Nat.le_refl _) ?_,rfl,q _ hf⟩;exact ⟨z,us,0,r,Heap.get?_push_size _ rfl⟩
end
noncomputable abbrev Sp:=List V->Hp->VK->XK->Prop
noncomputable abbrev CXT:=List Env->Hp->Shared->XK->Value->Shared->Prop
structure Env0 (P:Program) (w:World) (K:PySem.W.Frag) (mg:Str->Option Value) (base:Heap) (A:Around) (outer:List Env) (s:Shared) (H:Hp):Prop where
 frames:A.frames=some outer
 mod:Mod K mg base
 bs:∀ b o,base.get? b=some o->s.heap.get? b=some o/\H b=none
 bsz:base.objs.size<=s.heap.objs.size
 funs:s.heap.FunFrames base outer
 frf:∀ b∈frs outer,H b=none
 hok:HOk P w H s.heap
 bare:AllBare s.gens
noncomputable def CE (outer:List Env) (P:Program) (w:World) (H:Hp) (s:Shared) (Q:VK) (u:Value) (s':Shared):Prop :=
 ∃ v H',s'.os=s.os/\AllBare s'.gens/\Un (frs outer) [] H H' s.heap s'.heap/\HOk P w H' s'.heap/\RelV v u/\Q v H'
noncomputable def CR (CX:CXT) (outer:List Env) (P:Program) (w:World) (H:Hp) (s:Shared) (Q:VK) (E:XK) (r:Result) (s':Shared):Prop :=
 match r with
 | .ok (.ret u)=>CE outer P w H s Q u s'
 | .ok _=>False
 | .error e=>CX outer H s E e s'
structure FnOk (P:Program) (w:World) (K:PySem.W.Frag) (mg:Str->Option Value) (base:Heap) (CX:CXT) (k:Nat) (f:Addr) (fd:FuncData) (ps:List Str) (sp:Sp):Prop where
 len:∀ vs H Q E,sp vs H Q E->vs.length=ps.length
 run:∀ (A:Around) (outer:List Env) (s:Shared) (H:Hp) (args:Args) (us:List Value) (vs:List V) (Q:VK) (E:XK),Room k A->Env0 P w K mg base A outer s H->BindsTo s fd args (ps.zip us)->Vals vs us->sp vs H Q E ->
  codeAny (model P w) A (.call (.ref f) args) (CR CX outer P w H s Q E) s
section
variable {X:Cx}{pins:List (Addr×Obj)}{σ:St}{H:Hp}{s s':Shared}
theorem Inv.env0 (I:Inv X pins σ H s):Env0 X.prog X.w X.K X.mg X.base X.A X.stack s H :=
 ⟨I.ok.frames,I.ok.mod,I.bs,Nat.le_trans I.ok.bsz I.sz,I.stack,I.stkFree,I.hok,I.bare⟩
theorem Inv.after {Q:VK}{u:Value}(I:Inv X pins σ H s) (h:CE X.stack X.prog X.w H s Q u s'):EP X pins σ Q u s':=by
 obtain ⟨v,H',os,bare,un,hok,r,q⟩:=h;obtain ⟨hh,g,d,t,os'⟩:=s';obtain rfl:os'=s.os:=os;exact ⟨v,H',I.call (h':=hh) (g':=g) (d':=d) (t':=t) (ch:=[]) un hok bare (fun b z=>absurd z (by simp)),r,q⟩
end
noncomputable def nZ (sp:Sp) (dvs:List V) (E:XK) (t:TA):TE:=fun σ H Q=>t σ H fun vs H1=>sp (vs++dvs) H1 Q E
noncomputable def Binds (K:PySem.W.Frag) (fd:FuncData) (ps:List Str) (ds:List Value):Prop :=
 ∀ (s:Shared) (us:List Value),K.In s.heap->(us++ds).length=ps.length->BindsTo s fd ⟨us,[]⟩ (ps.zip (us++ds))
theorem Binds.all {K:PySem.W.Frag}{fd:FuncData}{ps:List Str}(h:∀ us:List Value,us.length=ps.length->bindArgs fd ⟨us,[]⟩=pure (ps.zip us)):Binds K fd ps []:=fun s us _ hl=>by
 rw [List.append_nil] at hl ⊢;exact .of_eq (h us hl)
noncomputable def Jo (CX:CXT) (X:Cx) (E:XK):Prop:=∀ (pins:List (Addr×Obj)) (σ:St) (H:Hp) (s:Shared) (e:Value) (s':Shared),Inv X pins σ H s->CX X.stack H s E e s'->X.xe e s'
section
variable {X:Cx}{CX:CXT}{k:Nat}{f C:Addr}{fd:FuncData}{ps:List Str}{sp:Sp}{dvs:List V}{ds:List Value}{E:XK}{x m:Str}{p pos apos:Pos}{e o:Expr}{es:List Expr}{ta:TE}{t:TA}
theorem Y4 {pins:List (Addr×Obj)}{σ:St}{H:Hp}{s:Shared}{Q:VK}{us:List Value}{vs:List V}(F:FnOk X.prog X.w X.K X.mg X.base CX k f fd ps sp) (hr:Room k X.A) (hb:Binds X.K fd ps ds) (hd:Vals dvs ds) (hx:Jo CX X E)
  (I:Inv X pins σ H s) (r:Vals vs us) (h:sp (vs++dvs) H Q E):wpAny (model X.prog X.w) X.A (call (.ref f) us) (EP X pins σ Q) X.xe s:=by
 have r2:Vals (vs++dvs) (us++ds):=r.append hd;have hl:(us++ds).length=ps.length:=by rw [← r2.length];exact F.len _ _ _ _ h
 refine wpAny_call (codeAny_mono (F.run X.A X.stack s H ⟨us,[]⟩ (us++ds) (vs++dvs) Q E hr I.env0 (hb s us I.kIn hl) r2 h) fun r s' hq=>?_);cases r with
 | error e=>exact hx pins σ H s e s' I hq
 | ok fl =>
  cases fl with
  | ret u=>exact I.after hq
  | next=>exact False.elim hq
  | brk=>exact False.elim hq
  | cont=>exact False.elim hq
theorem iH (F:FnOk X.prog X.w X.K X.mg X.base CX k f fd ps sp) (hr:Room k X.A) (hg:Gl X x) (hm:X.mg x=some (.ref f)) (hk:PySem.W.keepIn X.K (.ref f)=true) (hb:Binds X.K fd ps ds) (hd:Vals dvs ds) (hx:Jo CX X E)
  (ha:PA X (e::es) t) (hdb:(x==("__debug__":Str))=false:=by decide) (he:starEach (e::es) X.env=(false,eval e X.env)::starEach es X.env:=by rfl) (hpl:(backTo pos (starEach es X.env)).any (·.1)=false:=by rfl) :
  PE X (.Call (.Name x p) (e::es) [] pos) (nZ sp dvs E t):=by
 intro pins s σ H Q I h;refine wpAny_Call_Name_kw (O2 I hg hm ?_ hdb);refine PySem.W.callWith_K (h₀:=X.base) I.ok.mod.kin hk (thn (ha pos pins s σ H _ I h) fun us s1 ⟨vs,H1,I1,r,q⟩=>⟨I1.kIn,?_⟩) he hpl;exact Y4 F hr hb hd hx I1 r q
theorem Y5 (F:FnOk X.prog X.w X.K X.mg X.base CX k f fd ps sp) (hr:Room k X.A) (hg:Gl X x) (hm:X.mg x=some (.ref f)) (hk:PySem.W.keepIn X.K (.ref f)=true) (hb:Binds X.K fd ps ds) (hd:Vals dvs ds) (hx:Jo CX X E)
  (hdb:(x==("__debug__":Str))=false:=by decide):PE X (.Call (.Name x p) [] [] pos) (nZ sp dvs E xP):=by
 intro pins s σ H Q I h;refine wpAny_Call_Name_kw (O2 I hg hm ?_ hdb);exact PySem.W.callWith_K0 I.kIn hk (Y4 (us:=[]) F hr hb hd hx I .nil h)
structure Mk (K:PySem.W.Frag) (C f:Addr):Prop where
 makes:PySem.W.makesIn K C=true
 init:PySem.W.findIn K (.ref C) "__init__"=some (some (.ref f))
 fn:PySem.W.isFn K (.ref f)=true
 kp:PySem.W.keepIn K (.ref C)=true
end
section
variable {X:Cx}{CX:CXT}{k:Nat}{f C:Addr}{fd:FuncData}{ps ks:List Str}{sp:Sp}{E:XK}{x m:Str}{p pos apos kpos:Pos}{e o:Expr}{es:List Expr}{kws:List Keyword}{te ta:TE}{t tk:TA}{nm:Option Str}
variable {g:List Value->List Value->List Value}{gV:List V->List V->List V}
end
structure FnScope (N P:List Str) (sc:Scope):Prop where
 kind:sc.kind=.function
 co:sc.isCoroutine=false
 gen:sc.isGenerator=false
 nd:N.Nodup
 pre:N.take P.length=P
 par:∀ x∈P,sc.names.lookup x=some .local\/sc.names.lookup x=some .cell
 nofree:∀ y∈sc.names,y.2≠.free
theorem Nt {kindOf:Str->Option NameKind}{x:Str}:∀ {binds:List (Str×Value)}{m:Str->Option Value},(∀ v,(x,v) ∉ binds)->bindL kindOf binds m x=m x
 | [],_,_=>rfl
 | (n,v)::r,m,h=>by
  unfold bindL;rw [Nt fun w hw=>h w (List.mem_cons_of_mem _ hw)];split
  ·have:x≠n:=by rintro rfl;exact h v List.mem_cons_self
   simp [this]
  ·rfl
theorem Nu {kindOf:Str->Option NameKind}{x:Str}:∀ {binds:List (Str×Value)}{m:Str->Option Value},(∀ v,(x,v) ∉ binds)->bindC kindOf binds m x=m x
 | [],_,_=>rfl
 | (n,v)::r,m,h=>by
  unfold bindC;rw [Nu fun w hw=>h w (List.mem_cons_of_mem _ hw)];split
  ·rfl
  ·have:x≠n:=by rintro rfl;exact h v List.mem_cons_self
   simp [this]
theorem Nv {kindOf:Str->Option NameKind}{x:Str}{v:Value}:∀ {P:List Str}{vs:List Value}{i:Nat}{m:Str->Option Value},P.Nodup->P[i]?=some x->vs[i]?=some v->kindOf x=some .local ->
  bindL kindOf (P.zip vs) m x=some v
 | [],_,_,_,_,h,_,_=>by simp at h
 | _::_,[],_,_,_,_,h,_=>by simp at h
 | p::P,w::vs,0,m,nd,h1,h2,hk=>by
  simp at h1 h2;subst h1;subst h2;show bindL kindOf ((p,w)::P.zip vs) m p=_;unfold bindL;rw [Nt fun v hv=>(List.nodup_cons.mp nd).1 (List.of_mem_zip hv).1,if_pos hk];simp
 | p::P,w::vs,i+1,m,nd,h1,h2,hk=>by
  show bindL kindOf ((p,w)::P.zip vs) m x=_;unfold bindL;exact Nv (i:=i) (List.nodup_cons.mp nd).2 (by simpa using h1) (by simpa using h2) hk
theorem Nx {kindOf:Str->Option NameKind}{x:Str}{v:Value}:∀ {P:List Str}{vs:List Value}{i:Nat}{m:Str->Option Value},P.Nodup->P[i]?=some x->vs[i]?=some v->kindOf x≠some .local ->
  bindC kindOf (P.zip vs) m x=some v
 | [],_,_,_,_,h,_,_=>by simp at h
 | _::_,[],_,_,_,_,h,_=>by simp at h
 | p::P,w::vs,0,m,nd,h1,h2,hk=>by
  simp at h1 h2;subst h1;subst h2;show bindC kindOf ((p,w)::P.zip vs) m p=_;unfold bindC;rw [Nu fun v hv=>(List.nodup_cons.mp nd).1 (List.of_mem_zip hv).1,if_neg hk];simp
 | p::P,w::vs,i+1,m,nd,h1,h2,hk=>by
  show bindC kindOf ((p,w)::P.zip vs) m x=_;unfold bindC;exact Nx (i:=i) (List.nodup_cons.mp nd).2 (by simpa using h1) (by simpa using h2) hk
noncomputable def start (N:List Str) (vs:List V):St:=vs.map some++List.replicate (N.length - vs.length) none
noncomputable def W2 (CX:CXT) (P:Program) (w:World) (K:PySem.W.Frag) (mg:Str->Option Value) (base:Heap) (N:List Str) (qual:Str) (scope:Scope) (f:Addr) (cd:Value) (A:Around) (outer:List Env) (s:Shared) (H:Hp) (E:XK):Cx where
 prog:=P
 w:=w
 K:=K
 mg:=mg
 base:=base
 A:=A.deeper (envOfC qual scope s.heap.objs.size f cd)
 N:=N
 s₀:=s
 H₀:=H
 env:=envOfC qual scope s.heap.objs.size f cd
 outer:=outer
 stack:=envOfC qual scope s.heap.objs.size f cd::outer
 ex:=[]
 calm:=true
 fn:=fun _=>true
 pn:=[]
 xe:=fun e s'=>wpAny (model P w) (A.deeper (envOfC qual scope s.heap.objs.size f cd)) (leaving (envOfC qual scope s.heap.objs.size f cd) e) (fun _ s''=>CX outer H s E e s'') (fun e' s''=>CX outer H s E e' s'') s'
theorem Q9 {sc:Scope}{n:Nat}{x:Str}(h:sc.names.lookup x=some .cell):∃ c,(cellsFrom n sc.names []).lookup x=some c:=by
 have q:=PySem.W.cellsFrom_some sc.names n [] (.inl h);exact Option.isSome_iff_exists.mp q
theorem W3 {CX:CXT}{P:Program}{w:World}{K:PySem.W.Frag}{mg:Str->Option Value}{base:Heap}{N ps:List Str}{qual:Str}{scope:Scope}{f:Addr}{cd:Value}{A:Around}{outer:List Env}{s s1:Shared}{H:Hp}{E:XK}{us:List Value}{vs:List V}
  (S:FnScope N ps scope) (hd:A.handled=none) (e0:Env0 P w K mg base A outer s H) (hl:vs.length=ps.length) (r:Vals vs us)
  (x:InCallC s s.heap.objs.size (bindL (envOfC qual scope s.heap.objs.size f cd).kindOf (ps.zip us) fun _=>none) (cellsFrom (s.heap.objs.size+1) scope.names []) (bindC (envOfC qual scope s.heap.objs.size f cd).kindOf (ps.zip us) fun _=>none) s1) :
  Inv (W2 CX P w K mg base N qual scope f cd A outer s H E) [] (start N vs) H s1:=by
 have hpl:ps.length<=N.length:=by have:=congrArg List.length S.pre;rw [List.length_take] at this;omega
 obtain ⟨h1,tk,rfl,hk⟩:=x.done;have noA:∀ b:Addr,b ∉ (W2 CX P w K mg base N qual scope f cd A outer s H E).ex:=fun b z=>absurd (show b∈([]:List Addr) from z) (by simp)
 refine ⟨⟨e0.mod,S.kind,rfl,rfl,Nat.le_refl _,fun y z c h1 h2=>?_,fun y hy=>?_,fun y c _ h=>?_,fun _=>hd,Around.frames_deeper e0.frames,.inr ⟨rfl,rfl⟩,fun b z=>absurd z (noA b),e0.bs,e0.bsz,fun b _ _=>noA b,fun b z=>absurd z (noA b),e0.funs,e0.frf⟩,
  rfl,e0.bare,Un.kept hk,⟨_,x.toInCall.ns,fun i y v h1 h2 h3=>?_⟩,fun y c h=>⟨_,x.cell y c h⟩,e0.hok.fresh (Nat.le_refl _),fun y c h=>?_,fun p hp=>absurd (show p∈([]:List (Addr×Obj)) from hp) (by simp),e0.hok.kept hk,?_⟩
 ·exact name_of_addr x.apart (PySem.mem_of_lookup h1) (PySem.mem_of_lookup h2)
 ·have hy:scope.names.lookup y=some .cell\/scope.names.lookup y=some .free:=hy;rcases hy with hy|hy
  ·exact Q9 hy
  ·exact absurd rfl (S.nofree _ (PySem.mem_of_lookup hy))
 ·exact Nat.le_of_lt (x.above y c (PySem.mem_of_lookup h))
 ·have hi:i < vs.length:=by
   unfold start at h2
   by_cases hi:i < vs.length
   ·exact hi
   ·rw [List.getElem?_append_right (by simpa using hi)] at h2;rw [List.getElem?_replicate] at h2;split at h2 <;> cases h2
  have ha:vs[i]?=some v:=by
   unfold start at h2;rw [List.getElem?_append_left (by simpa using hi),List.getElem?_map] at h2;cases e:vs[i]? with
   | none=>rw [e] at h2;cases h2
   | some a=>rw [e] at h2;cases h2;rfl
  obtain ⟨u,hu,rv⟩:=r.get ha;have hp:ps[i]?=some y:=by
   rw [← S.pre,List.getElem?_take_of_lt (by omega)];exact h1
  have ndP:ps.Nodup:=by rw [← S.pre];exact S.nd.sublist (List.take_sublist _ _)
  refine ⟨u,rv,?_⟩;rcases S.par y (List.mem_of_getElem? hp) with k|k
  ·exact .inl ⟨k,Nv ndP hp hu k⟩
  ·obtain ⟨c,e⟩:=Q9 (n:=s.heap.objs.size+1) k;refine .inr ⟨.inl k,c,e,?_⟩;have q:=x.cell y c e;rw [Nx ndP hp hu (by show scope.names.lookup y≠_;rw [k];decide)] at q;exact q
 ·exact .inl (e0.hok.fresh (Nat.le_of_lt (x.above y c (PySem.mem_of_lookup h))))
 ·unfold start;show _=N.length;rw [List.length_append,List.length_map,List.length_replicate];omega
theorem xR {CX:CXT}{P:Program}{w:World}{K:PySem.W.Frag}{mg:Str->Option Value}{base:Heap}{k:Nat}{f:Addr}{name qual:Str}{params:Arguments}{body:List Stmt}{scope:Scope}{dV kV doc pm cdv ct oc:Value}{an od:Option Addr}
  {osl:Array (Option Value)} {N ps:List Str} {sp:Sp} (lk:K.lookup f=some ⟨oc,od,.func (PySem.W.fnOf name qual params body scope dV kV doc pm an cdv ct),osl⟩) (hcd:PySem.W.codeIn K cdv qual=true) (S:FnScope N ps scope)
  (len:∀ vs H Q E,sp vs H Q E->vs.length=ps.length)
  (hbody:∀ (A:Around) (outer:List Env) (s:Shared) (H:Hp) (vs:List V) (Q:VK) (E:XK),Room k (A.deeper (envOfC qual scope s.heap.objs.size f cdv))->sp vs H Q E ->
   ∃ t,PSs (W2 CX P w K mg base N qual scope f cdv A outer s H E) body t/\t { nx:=fun _ H'=>Q .non H',rt:=Q } (start N vs) H) :
  FnOk P w K mg base CX (k+1) f (PySem.W.fnOf name qual params body scope dV kV doc pm an cdv ct) ps sp:=by
 refine ⟨len,fun A outer s H args us vs Q E hr e0 hb r hsp=>?_⟩;have hl:=len _ _ _ _ hsp;have KX:K.In s.heap:=e0.mod.kin.keeps fun b o e=>(e0.bs b o e).1
 have lim:s.heap.NoLimit:=e0.mod.nolimit.keeps fun b o e=>(e0.bs b o e).1
 have hkind:∀ y∈ps.zip us,scope.names.lookup y.1=some .local\/(scope.names.lookup y.1=some .cell/\((cellsFrom (s.heap.objs.size+1) scope.names []).lookup y.1).isSome=true):=by
  rintro ⟨n,v⟩ hy;rcases S.par n (List.of_mem_zip hy).1 with q|q
  ·exact .inl q
  ·exact .inr ⟨q,PySem.W.cellsFrom_some _ _ _ (.inl q)⟩
 refine codeAny_call_function hr.depth (KX _ _ lk) rfl S.co S.gen rfl (PySem.W.codeRec_of KX hcd) (hb _ _ _ _ ?_);refine wpAny_newFunctionEnv_cells S.kind hkind fun env he s1 x=>?_
 subst he;refine ⟨lim.keeps x.toInCall.keep,codeAny_func ?_⟩;obtain ⟨t,ht,hq⟩:=hbody A outer s H vs Q E (hr.deeper _) hsp;have I:Inv (W2 CX P w K mg base N qual scope f cdv A outer s H E) [] (start N vs) H s1:=W3 S hr.hd e0 hl r x;refine wpAny_mono (ht [] s1 (start N vs) H _ I hq) (fun fl s' hs=>?_) fun e s' hs=>hs
 have fin:∀ {σ':St} {H':Hp} {v:V} {u:Value},Inv (W2 CX P w K mg base N qual scope f cdv A outer s H E) [] σ' H' s'->RelV v u->Q v H'->CE outer P w H s Q u s' :=
  fun {σ' H' v u} J rv q=>⟨v,H',J.os,J.bare,J.base,J.hok,rv,q⟩
 cases fl with
 | ret u =>
  obtain ⟨v,σ',H',J,rv,q⟩:=hs;exact fin J rv q
 | next =>
  obtain ⟨σ',H',J,q⟩:=hs;exact fin (v:=V.non) (u:=Value.none) J rfl q
 | brk =>
  obtain ⟨_,_,_,q⟩:=hs;exact False.elim q
 | cont =>
  obtain ⟨_,_,_,q⟩:=hs;exact False.elim q
section
variable {X:Cx}{x:Str}{p pos:Pos}{e:Expr}{es:List Expr}{t:TA}{id T:String}{r:List V->Hp->VK->Prop}
noncomputable def tCB (r:List V->Hp->VK->Prop) (t:TA):TE:=fun σ H Q=>t σ H fun vs H1=>r vs H1 Q
theorem Y6 (hc:Bs X (.builtin id) r) (hg:Gl X x) (hm:X.mg x=none) (hv:bootBuiltins x=some (.builtin id)) (ha:PA X (e::es) t) (hn:x ≠ "__name__":=by decide) (hdb:(x==("__debug__":Str))=false:=by decide)
  (he:starEach (e::es) X.env=(false,eval e X.env)::starEach es X.env:=by rfl) (hpl:(backTo pos (starEach es X.env)).any (·.1)=false:=by rfl):PE X (.Call (.Name x p) (e::es) [] pos) (tCB r t):=by
 intro pins s σ H Q I h;refine wpAny_Call_Name_kw (K4 I hg hm hv ?_ hn hdb);exact PyProof.Rows.callWith_builtin1 (thn (ha pos pins s σ H _ I h) fun us s1 ⟨vs,H1,I1,r1,q1⟩=>hc pins s1 σ H1 vs us Q I1 r1 q1) he hpl
theorem W4 (hc:Bs X (.type T) r) (hg:Gl X x) (hm:X.mg x=none) (hv:bootBuiltins x=some (.type T)) (ha:PA X (e::es) t) (hn:x ≠ "__name__":=by decide) (hdb:(x==("__debug__":Str))=false:=by decide)
  (he:starEach (e::es) X.env=(false,eval e X.env)::starEach es X.env:=by rfl) (hpl:(backTo pos (starEach es X.env)).any (·.1)=false:=by rfl):PE X (.Call (.Name x p) (e::es) [] pos) (tCB r t):=by
 intro pins s σ H Q I h;refine wpAny_Call_Name_kw (K4 I hg hm hv ?_ hn hdb);exact PyProof.Rows.callWith_type1 (thn (ha pos pins s σ H _ I h) fun us s1 ⟨vs,H1,I1,r1,q1⟩=>hc pins s1 σ H1 vs us Q I1 r1 q1) he hpl
end
end L2
namespace HT
open PySem PyProof.Rows
section
open PySem.SeqAt
open PySem.AutoSeq1 (wpAny_loadPart')
open PySem.MeetsSeq PySem.MeetsSeq2 PySem.MeetsSeq3
end
section
variable {prog:Program}{w:World}{A:Around}{E:Value->Shared->Prop}{s:Shared}
theorem cat_tup {t b:Addr}{vs ws:List Value}{Q:Value->Shared->Prop}(ht:IsTup s.heap t vs.toArray) (hb:IsTup s.heap b ws.toArray) (hv:vs≠[])
  (h1:ws=[]->Q (.ref t) s) (h2:ws≠[]->Q (.ref s.heap.objs.size) { s with heap:=s.heap.push { cls:=.type "tuple",data:=.seq (vs++ws).toArray } })
  (hsz:vs.length+ws.length<=sizeLine):wpAny (model prog w) A (binaryOp .Add (.ref t) (.ref b)) Q E s:=by
 obtain ⟨⟨cls,dd,data,sl⟩,ho,hc,n,hd⟩:=id ht;obtain ⟨⟨cls2,dd2,data2,sl2⟩,ho2,hc2,n2,hd2⟩:=id hb;simp only at hc hd hc2 hd2;subst hc hd hc2 hd2;have e:vs.toArray++ws.toArray=(vs++ws).toArray:=by simp
 by_cases hw:ws=[]
 ·exact concat_meets ⟨_,ho,rfl⟩ ⟨_,ho2,rfl⟩ noFill_tuple_add seq_tuple_add PySem.F.slot_tuple_add PySem.F.entry_tuple_add (PySem.F.args_tuple_add_2 _ _)
   (tuple_addW1 t b vs.toArray ws.toArray n n2 dd dd2 sl sl2 (by simpa using hv) (by simp [hw])) ⟨ho,ho2,h1 hw⟩
 ·refine concat_meets ⟨_,ho,rfl⟩ ⟨_,ho2,rfl⟩ noFill_tuple_add seq_tuple_add PySem.F.slot_tuple_add PySem.F.entry_tuple_add (PySem.F.args_tuple_add_2 _ _)
   (tuple_addW2 t b vs.toArray ws.toArray n n2 dd dd2 sl sl2 (by simpa using hv) (by simpa using hw) (by rw [List.size_toArray,List.size_toArray];exact hsz)) ⟨ho,ho2,?_⟩
  rw [e];exact h2 hw
noncomputable def sIx (n d:Nat):Option Int->Nat
 | none=>d
 | some v=>if v < 0 then (v+(n:Int)).toNat else min v.toNat n
theorem sIx_none (n d:Nat):sIx n d none=d:=rfl
theorem sIx_nat (n d k:Nat):sIx n d (some (k:Int))=min k n:=by
 show (if (k:Int) < 0 then ((k:Int)+(n:Int)).toNat else min (k:Int).toNat n)=min k n;rw [if_neg (by omega),Int.toNat_natCast]
theorem qR (n d:Nat) (hd:d<=n) (o:Option Int):sIx n d o<=n:=by
 cases o with
 | none=>exact hd
 | some v =>
  show (if v < 0 then (v+(n:Int)).toNat else min v.toNat n)<=n
  by_cases hv:v < 0
  ·rw [if_pos hv];omega
  ·rw [if_neg hv];exact Nat.min_le_right _ _
theorem Vj (v:Int) (n d:Nat):(if v < 0 then max (v+(n:Int)) 0 else min v (n:Int))=((sIx n d (some v):Nat):Int):=by
 show (if v < 0 then max (v+(n:Int)) 0 else min v (n:Int))=(((if v < 0 then (v+(n:Int)).toNat else min v.toNat n):Nat):Int)
 by_cases hv:v < 0
 ·simp only [if_pos hv];omega
 ·simp only [if_neg hv];omega
theorem Tr (lo hi:Option Int) (n:Nat):Builtin.Slice.sliceAdjust lo hi 1 (n:Int)=(((sIx n 0 lo:Nat):Int),((sIx n n hi:Nat):Int)):=by
 have h1:¬ ((1:Int) < 0):=by omega
 unfold Builtin.Slice.sliceAdjust;simp only [h1,if_false];refine Prod.ext ?_ ?_
 ·cases lo with
  | none=>rfl
  | some v=>exact Vj v n 0
 ·cases hi with
  | none=>rfl
  | some v=>exact Vj v n n
theorem Tv (i j:Nat):Builtin.Slice.slicePlaces (i:Int) (j:Int) 1=j - i:=by
 unfold Builtin.Slice.slicePlaces;have h1:(1:Int) > 0:=by omega
 simp only [h1,if_true,Int.ediv_one];split <;> omega
theorem K6 {v:Value}{o:Option Int}{Q:Option Int->Shared->Prop}(p:IsPart v o) (h:Q o s):wpAny (model prog w) A (Builtin.Slice.slicePartIndex v) Q E s:=by
 cases p with
 | none=>exact slicePart_none h
 | int i t=>exact slicePart_int h
theorem sliceApplied_gen {sl:Addr}{vl vu:Value}{lo hi:Option Int}{n:Nat}{Q:Int×Int×Nat->Shared->Prop}(hs:s.heap.IsSliceOf sl vl vu .none) (pl:IsPart vl lo) (pu:IsPart vu hi)
  (h:Q (((sIx n 0 lo:Nat):Int),1,sIx n n hi - sIx n 0 lo) s):wpAny (model prog w) A (Builtin.Slice.sliceApplied (.ref sl) (pure (n:Int))) Q E s:=by
 obtain ⟨os,hos,hcs,hds⟩:=id hs;unfold Builtin.Slice.sliceApplied Builtin.Slice.sliceFields;refine wpAny_bind (wpAny_bind (wpAny_field hos hds (x:=vl) rfl (wpAny_bind (wpAny_field hos hds (x:=vu) rfl (wpAny_bind (wpAny_field hos hds (x:=.none) rfl (wpAny_pure ?_)))))));refine wpAny_bind (slicePart_none ?_);show wpAny _ _ (if ((1:Int)==0)=true then _ else _) _ _ s;rw [if_neg (by decide)];refine wpAny_bind (K6 pl (wpAny_bind (K6 pu (wpAny_bind (wpAny_pure ?_)))));show wpAny _ _ (match Builtin.Slice.sliceAdjust lo hi 1 (n:Int) with | (lo,hi)=>pure (lo,(1:Int),Builtin.Slice.slicePlaces lo hi 1)) _ _ s;rw [Tr lo hi n];show wpAny _ _ (pure (((sIx n 0 lo:Nat):Int),(1:Int),Builtin.Slice.slicePlaces ((sIx n 0 lo:Nat):Int) ((sIx n n hi:Nat):Int) 1)) _ _ s;rw [Tv];exact wpAny_pure h
theorem Y7 (xs:Array Value) (i k:Nat):((List.range k).filterMap fun (m:Nat)=>xs[((i:Int)+(m:Int) * 1).toNat]?).toArray=((xs.toList.drop i).take k).toArray:=by
 have e:(fun (m:Nat)=>xs[((i:Int)+(m:Int) * 1).toNat]?)=fun m=>xs[i+m]?:=by
  funext m;have:((i:Int)+(m:Int) * 1).toNat=i+m:=by omega
  rw [this]
 rw [e];have:=pick_run xs i k;rw [List.filterMap_map] at this;have e2:((fun x=>xs[x]?) ∘ fun x=>i+x)=fun m=>xs[i+m]?:=rfl
 rw [e2] at this;rw [this]
theorem getItem_tuple_cut {t sl:Addr}{items:Array Value}{vl vu:Value}{lo hi:Option Int}{Q:Value->Shared->Prop}(ht:IsTup s.heap t items) (hs:s.heap.IsSliceOf sl vl vu .none) (pl:IsPart vl lo) (pu:IsPart vu hi)
  (hw:¬ (sIx items.size 0 lo=0/\sIx items.size items.size hi=items.size))
  (h:Q (.ref s.heap.objs.size) { s with heap:=s.heap.push { cls:=.type "tuple",data:=.seq ((items.toList.drop (sIx items.size 0 lo)).take (sIx items.size items.size hi - sIx items.size 0 lo)).toArray } })
  (hsz:items.size<=sizeLine):wpAny (model prog w) A (getItem (.ref t) (.ref sl)) Q E s:=by
 have htake:sizeOk (.seq ((items.toList.drop (sIx items.size 0 lo)).take (sIx items.size items.size hi - sIx items.size 0 lo)).toArray):=by
  show ((items.toList.drop (sIx items.size 0 lo)).take (sIx items.size items.size hi - sIx items.size 0 lo)).toArray.size<=sizeLine;rw [List.size_toArray,List.length_take,List.length_drop,Array.length_toList];omega
 have hj:sIx items.size items.size hi<=items.size:=qR _ _ (Nat.le_refl _) hi;obtain ⟨os,hos,hcs,hds⟩:=id hs
 have hTs:s.TypeIs (.ref sl) "slice":=⟨os,hos,hcs⟩
 unfold getItem
 try with_reducible refine wpAny_holding ?_
 first | refine wpAny_bind (wpAny_pure ?_) | skip
 refine wpAny_bind (wpAny_sequenceKey ht.typeIs (by decide) ?_)
 refine wpAny_bind (wpAny_callSpecial?_slot (name:=Str.ofString "__getitem__") ht.typeIs PyProof.Rows.slot_tuple_getitem
  (wpAny_call_entry PyProof.Rows.slot_tuple_getitem ht.typeIs entry_tuple_getitem ?_ (args_tuple_getitem _ _)))
 show wpAny _ _ (Builtin.Tuple.tupleItemsOf (.ref t) >>= _) _ _ s;refine wpAny_bind (tupleItemsOf_ ht ?_);refine wpAny_bind (wpAny_typeOf hTs ?_);rw [if_pos (by decide)];refine wpAny_bind (sliceApplied_gen hs pl pu ?_);have hno:¬ ((((sIx items.size 0 lo:Nat):Int)==0&&(1:Int)==1&&(sIx items.size items.size hi - sIx items.size 0 lo)==items.size)=true):=by
  intro q;rw [Bool.and_eq_true,Bool.and_eq_true] at q;have q1:((sIx items.size 0 lo:Nat):Int)=0:=eq_of_beq q.1.1;have q2:sIx items.size items.size hi - sIx items.size 0 lo=items.size:=eq_of_beq q.2;exact hw ⟨by omega,by omega⟩
 show wpAny _ _ (if (((sIx items.size 0 lo:Nat):Int)==0&&(1:Int)==1&&(sIx items.size items.size hi - sIx items.size 0 lo)==items.size)=true then _ else _) _ _ s;rw [if_neg hno,Y7]
 first
  | exact wpAny_bind (m:=Builtin.Tuple.tupleExact _) (wpAny_newObj_type (wpAny_pure ⟨_,rfl,wpAny_pure h⟩) htake)
  | exact wpAny_bind (m:=Builtin.Tuple.tupleExact _) (wpAny_newObj_type (wpAny_bind (wpAny_pure (wpAny_pure ⟨_,rfl,wpAny_pure h⟩))) htake)
  | exact wpAny_bind (wpAny_bind (m:=Builtin.Tuple.tupleExact _) (wpAny_newObj_type (wpAny_pure (wpAny_pure ⟨_,rfl,wpAny_pure h⟩)) htake))
  | exact wpAny_bind (wpAny_bind (m:=Builtin.Tuple.tupleExact _) (wpAny_newObj_type (wpAny_pure ⟨_,rfl,wpAny_pure h⟩) htake))
end
end HT
namespace L2
open PySem PySem.Spec PyProof.Rows
noncomputable abbrev TO:=St->Hp->(Option Int->Hp->Prop)->Prop
noncomputable def PO (X:Cx) (e:Option Expr) (t:TO):Prop :=
 ∀ (pins:List (Addr×Obj)) (s:Shared) (σ:St) (H:Hp) (Q:Option Int->Hp->Prop),Inv X pins σ H s->t σ H Q ->
  wpAny (model X.prog X.w) X.A (evalPart e X.env) (fun u s'=>∃ o H',Inv X pins σ H' s'/\IsPart u o/\Q o H') X.xe s
noncomputable def iJ:TO:=fun _ H Q=>Q none H
noncomputable def xT (t:TE):TO:=fun σ H Q=>t σ H fun x H1=>∃ i,x=.int i/\Q (some i) H1
section
variable {X:Cx}{e:Expr}{te:TE}{lo hi:Option Expr}{tl th:TO}{pos p2:Pos}
theorem iK:PO X none iJ:=by
 intro pins s σ H Q I h;rw [evalPart_none];exact wpAny_pure ⟨none,H,I,.none,h⟩
theorem iM (h:PE X e te):PO X (some e) (xT te):=by
 intro pins s σ H Q I hw;rw [evalPart_some];refine thn (h pins s σ H _ I hw) ?_;rintro u s1 ⟨x,H1,I1,r1,q1⟩;obtain ⟨i,rfl,q⟩:=q1;obtain ⟨t,rfl⟩:=r1;exact ⟨some i,H1,I1,.int i t,q⟩
noncomputable def SlR (X:Cx) (r:V->Option Int->Option Int->Hp->VK->Prop):Prop :=
 ∀ (pins:List (Addr×Obj)) (s:Shared) (σ:St) (H:Hp) (x:V) (v vl vu:Value) (lo hi:Option Int) (sl:Addr) (Q:VK),Inv X pins σ H s->RelV x v->s.heap.IsSliceOf sl vl vu .none->IsPart vl lo->IsPart vu hi->r x lo hi H Q ->
  ∃ T id,typeLookup (.type T) "__getitem__"=pure (some (.builtin id))/\s.TypeIs v T/\wpAny (model X.prog X.w) X.A (getItem v (.ref sl)) (EP X pins σ Q) X.xe s
theorem SlR.or {r r':V->Option Int->Option Int->Hp->VK->Prop}(h:SlR X r) (h':SlR X r'):SlR X (fun x lo hi H Q=>r x lo hi H Q\/r' x lo hi H Q):=by
 intro pins s σ H x v vl vu lo hi sl Q I rx hs pl pu q;rcases q with q|q
 ·exact h pins s σ H x v vl vu lo hi sl Q I rx hs pl pu q
 ·exact h' pins s σ H x v vl vu lo hi sl Q I rx hs pl pu q
noncomputable def tSl (r:V->Option Int->Option Int->Hp->VK->Prop) (te:TE) (tl th:TO):TE:=fun σ H Q=>te σ H fun x H1=>tl σ H1 fun l H2=>th σ H2 fun u H3=>r x l u H3 Q
theorem Y8 {r:V->Option Int->Option Int->Hp->VK->Prop}(hr:SlR X r) (he:PE X e te) (hl:PO X lo tl) (hu:PO X hi th):PE X (.Subscript e (.Slice lo hi none p2) pos) (tSl r te tl th):=by
 intro pins s σ H Q I h;refine Subscript_ (thn (he pins s σ H _ I h) ?_);rintro v s1 ⟨x,H1,I1,r1,q1⟩;refine wpAny_Slice (thn (hl pins s1 σ H1 _ I1 q1) ?_);rintro vl s2 ⟨l,H2,I2,pl,q2⟩;refine thn (hu pins s2 σ H2 _ I2 q2) ?_;rintro vu s3 ⟨u,H3,I3,pu,q3⟩;rw [evalPart_none];refine wpAny_pure ?_
 have I4:Inv X pins σ H3 { s3 with heap:=s3.heap.push { cls:=.type "slice",data:=.fields #[vl,vu,.none] } }:=I3.kept (t':=s3.toks) fun b ob q=>Heap.get?_push_of_some _ q
 obtain ⟨T,id,hT,ht,hg⟩:=hr pins { s3 with heap:=s3.heap.push { cls:=.type "slice",data:=.fields #[vl,vu,.none] } } σ H3 x v vl vu l u s3.heap.objs.size Q I4 r1 (Heap.IsSliceOf.new ..) pl pu q3
 show wpAny (model X.prog X.w) X.A (subscriptTail e (.Slice lo hi none p2) v (.ref s3.heap.objs.size)) (EP X pins σ Q) X.xe { s3 with heap:=s3.heap.push { cls:=.type "slice",data:=.fields #[vl,vu,.none] } };exact tail_any (ops:=[.ref s3.heap.objs.size,v]) ht hT hg (by with_unfolding_all rfl)
noncomputable def Ra (xs:List V) (lo hi:Option Int):List V:=(xs.drop (HT.sIx xs.length 0 lo)).take (HT.sIx xs.length xs.length hi - HT.sIx xs.length 0 lo)
theorem J4 (xs:List V) (lo hi:Option Int):(Ra xs lo hi).length<=xs.length:=by
 unfold Ra;rw [List.length_take,List.length_drop];omega
noncomputable def Aaw (K:PySem.W.Frag):V->Option Int->Option Int->Hp->VK->Prop:=fun x lo hi H Q=>∃ a xs,x=.ref a/\SqT K H a xs /\
 ¬ (HT.sIx xs.length 0 lo=0/\HT.sIx xs.length xs.length hi=xs.length)/\∀ p,H p=none->Q (.ref p) (upd H p (.tup (Ra xs lo hi)))
theorem qT:SlR X (Aaw X.K):=by
 intro pins s σ H x v vl vu lo hi sl Q I rx hs pl pu h;obtain ⟨a,xs,rfl,hx,hw,q⟩:=h;cases rx;obtain ⟨its,r,ht,hz⟩:=I.tuple hx;have hlen:its.toArray.size=xs.length:=by rw [List.size_toArray];exact r.length.symm
 refine ⟨"tuple",_,PyProof.Rows.slot_tuple_getitem.lookup,ht.typeIs,?_⟩;refine HT.getItem_tuple_cut ht hs pl pu (by rw [hlen];exact hw) ?_ (by rw [hlen];exact hz);rw [hlen];refine ⟨.ref s.heap.objs.size,_,I.laid (t':=s.toks) (o:=.tup (Ra xs lo hi)) (fun b ob q=>Heap.get?_push_of_some _ q) (Nat.le_refl _) ?_,rfl,q _ (I.hok.fresh (Nat.le_refl _))⟩;exact ⟨Nat.le_trans (J4 xs lo hi) hz,_,(r.drop (HT.sIx xs.length 0 lo)).take (HT.sIx xs.length xs.length hi - HT.sIx xs.length 0 lo),Kf.new _ _⟩
noncomputable def xU (K:PySem.W.Frag):R2:=fun x y H Q=>∃ a b xs ys,x=.ref a/\y=.ref b/\SqT K H a xs/\SqT K H b ys/\xs≠[]/\xs.length+ys.length<=sizeLine /\
 (ys=[]->Q (.ref a) H)/\(ys≠[]->∀ p,H p=none->Q (.ref p) (upd H p (.tup (xs++ys))))
theorem Vals.nil_iff {xs:List V}{us:List Value}(r:Vals xs us):us=[] ↔ xs=[]:=by
 cases r with
 | nil=>simp
 | cons _ _=>simp
theorem iQ:OpR X (binaryOp .Add) (xU X.K):=by
 intro pins s σ H x y v u Q I rx ry h;obtain ⟨a,b,xs,ys,rfl,rfl,ha,hb,hx,hz,q1,q2⟩:=h;cases rx;cases ry;obtain ⟨its,r1,p1,_⟩:=I.tuple ha;obtain ⟨its2,r2,p2,_⟩:=I.tuple hb;refine HT.cat_tup p1 p2 (fun z=>hx (r1.nil_iff.mp z)) (fun z=>⟨.ref a,H,I,rfl,q1 (r2.nil_iff.mp z)⟩) (fun z=>?_) (by rw [← r1.length,← r2.length];exact hz);refine ⟨.ref s.heap.objs.size,_,I.laid (t':=s.toks) (o:=.tup (xs++ys)) (fun b ob q=>Heap.get?_push_of_some _ q) (Nat.le_refl _) ?_,rfl,q2 (fun w=>z (r2.nil_iff.mpr w)) _ (I.hok.fresh (Nat.le_refl _))⟩;exact ⟨by rw [List.length_append];exact hz,_,r1.append r2,Kf.new _ _⟩
end
noncomputable def ixN (n:Nat) (i:Int):Option Nat:=if 0<=i then (if i < n then some i.toNat else none) else if -(n:Int)<=i then some (i+n).toNat else none
noncomputable def atI {α:Type}(xs:List α) (i:Int):Option α:=(ixN xs.length i).bind fun j=>xs[j]?
theorem Vk {n:Nat}{i:Int}{j:Nat}(h:ixN n i=some j):seqIndex? i n=some j/\j < n/\-(n:Int)<=i/\i < n:=by
 unfold ixN at h
 by_cases h0:0<=i
 ·rw [if_pos h0] at h
  by_cases h1:i < n
  ·rw [if_pos h1] at h;have e:i.toNat=j:=Option.some.inj h;exact ⟨by rw [seqIndex_of h0 h1,e],by omega,by omega,h1⟩
  ·rw [if_neg h1] at h;cases h
 ·rw [if_neg h0] at h
  by_cases h1:-(n:Int)<=i
  ·rw [if_pos h1] at h;have e:(i+n).toNat=j:=Option.some.inj h;exact ⟨by rw [seqIndex_neg (by omega) h1,e],by omega,h1,by omega⟩
  ·rw [if_neg h1] at h;cases h
theorem O3 {α:Type}{xs:List α}{i:Int}{v:α}(h:atI xs i=some v):∃ j,seqIndex? i xs.length=some j/\xs[j]?=some v/\j < xs.length/\-(xs.length:Int)<=i/\i < xs.length:=by
 unfold atI at h;cases e:ixN xs.length i with
 | none=>rw [e] at h;cases h
 | some j =>
  rw [e] at h;obtain ⟨h1,h2,h3,h4⟩:=Vk e;exact ⟨j,h1,h,h2,h3,h4⟩
theorem O4 {α:Type}{xs:List α}{j:Nat}{v:α}(h:xs[j]?=some v):atI xs (j:Int)=some v:=by
 have hj:j < xs.length:=(List.getElem?_eq_some_iff.mp h).1;have e:ixN xs.length (j:Int)=some j:=by
  unfold ixN;rw [if_pos (by omega),if_pos (by omega)];simp
 unfold atI;rw [e];exact h
noncomputable def O5 (b:Expr):Prop:=∀ o i,subscripted b false o i=operate [o,i] (getItem o i)
noncomputable def IxR (X:Cx) (r:R2):Prop :=
 ∀ (value slice:Expr) (pins:List (Addr×Obj)) (s:Shared) (σ:St) (H:Hp) (x y:V) (v u:Value) (Q:VK),Inv X pins σ H s->RelV x v->RelV y u->r x y H Q ->
  subscripted slice false v u=operate [v,u] (getItem v u)->wpAny (model X.prog X.w) X.A (subscriptTail value slice v u) (EP X pins σ Q) X.xe s
noncomputable def MtR (X:Cx) (id:String) (r:V->List V->Hp->VK->Prop):Prop :=
 ∀ (pins:List (Addr×Obj)) (s:Shared) (σ:St) (H:Hp) (x:V) (xs:List V) (v:Value) (us:List Value) (Q:VK),Inv X pins σ H s->RelV x v->Vals xs us->r x xs H Q ->
  wpAny (model X.prog X.w) X.A (call (.builtin id) (v::us)) (EP X pins σ Q) X.xe s
section
variable {X:Cx}{a b:Expr}{ta tb:TE}{pos:Pos}
theorem IxR.or {r r':R2}(h:IxR X r) (h':IxR X r'):IxR X (fun x y H Q=>r x y H Q\/r' x y H Q):=by
 intro value slice pins s σ H x y v u Q I rx ry q hs;rcases q with q|q
 ·exact h value slice pins s σ H x y v u Q I rx ry q hs
 ·exact h' value slice pins s σ H x y v u Q I rx ry q hs
theorem xV {r:R2}(hr:IxR X r) (ha:PE X a ta) (hb:PE X b tb) (hs:O5 b):PE X (.Subscript a b pos) (tOp r ta tb):=by
 intro pins s σ H Q I h;exact Subscript_ (qH ha hb I h fun v u s2 x y H2 I2 rx ry q=>hr a b pins s2 σ H2 x y v u Q I2 rx ry q (hs _ _))
noncomputable def xW (K:PySem.W.Frag):R2:=fun x y H Q=>∃ p xs i v,x=.ref p/\y=.int i/\SqL K H p xs/\atI xs i=some v/\Q v H
noncomputable def xX (K:PySem.W.Frag):R2:=fun x y H Q=>∃ p xs i v,x=.ref p/\y=.int i/\SqT K H p xs/\atI xs i=some v/\Q v H
noncomputable def xY:R2:=fun x y H Q=>∃ z i c,x=.str z/\y=.int i/\z.length<=sizeLine/\atI z.cps.toList i=some c/\Q (.str ⟨#[c]⟩) H
theorem iR:IxR X (xW X.K):=by
 intro value slice pins s σ H x y v u Q I rx ry h hs;obtain ⟨p,xs,i,z,rfl,rfl,hq,he,q⟩:=h;cases rx;obtain ⟨t,rfl⟩:=ry;obtain ⟨its,r,pl,hz⟩:=I.list hq;obtain ⟨j,h1,h2,h3,h4,h5⟩:=O3 he;obtain ⟨w,ew,rw'⟩:=r.get h2;have hl:=r.length;have hn:=Hy;have fin:EP X pins σ Q w s:=⟨z,H,I,rw',q⟩
 by_cases h0:0<=i
 ·have hj:i.toNat=j:=by
   rw [seqIndex_of h0 h5] at h1;exact Option.some.inj h1
  exact item_listR pl.isList h0 (by omega) (by rw [hj];simpa using ew) fin hs
 ·have hj:(i+(its.toArray.size:Int)).toNat=j:=by
   rw [seqIndex_neg (by omega) h4] at h1;rw [List.size_toArray,← hl];exact Option.some.inj h1
  exact subscriptTail_builtinR (x:=w) pl.isList.typeIs slot_list_getitem.lookup
   (wpAny_getItem_list_neg (Q:=fun r s'=>r=w/\EP X pins σ Q r s') pl.isList (by omega) (by rw [List.size_toArray] <;> omega) (by omega) (by rw [hj];simpa using ew) ⟨rfl,fin⟩) hs
theorem qU:IxR X (xX X.K):=by
 intro value slice pins s σ H x y v u Q I rx ry h hs;obtain ⟨p,xs,i,z,rfl,rfl,hq,he,q⟩:=h;cases rx;obtain ⟨t,rfl⟩:=ry;obtain ⟨its,r,pl,hz⟩:=I.tuple hq;obtain ⟨j,h1,h2,h3,h4,h5⟩:=O3 he;obtain ⟨w,ew,rw'⟩:=r.get h2;have hl:=r.length;have hn:=Hy;have fin:EP X pins σ Q w s:=⟨z,H,I,rw',q⟩;exact subscriptTail_builtinR (x:=w) pl.typeIs slot_tuple_getitem.lookup
  (getItem_tuple (j:=j) (Q:=fun r s'=>r=w/\EP X pins σ Q r s') pl (by omega) (by omega) (by rw [List.size_toArray,← hl];exact h1) (by simpa using ew) ⟨rfl,fin⟩) hs
theorem qW:IxR X xY:=by
 intro value slice pins s σ H x y v u Q I rx ry h hs;obtain ⟨z,i,c,rfl,rfl,hz,he,q⟩:=h;obtain ⟨t,rfl⟩:=rx;obtain ⟨t',rfl⟩:=ry;obtain ⟨j,h1,h2,h3,h4,h5⟩:=O3 he;have hl:z.cps.toList.length=z.length:=by simp [Str.length]
 rw [hl] at h1 h4 h5;have hn:=Hy
 exact tail_any (typeIs_str s z t) slot_str_getitem.lookup (getItem_str (c:=c) (by
  have e1:decide (i < -(2 ^ 63:Int))=false:=decide_eq_false (by omega);have e2:decide (i ≥ 2 ^ 63)=false:=decide_eq_false (by omega)
  rw [e1,e2,Bool.or_false]) (by rw [h1];simpa using h2) ⟨.str ⟨#[c]⟩,H,I.tok _,⟨_,rfl⟩,q⟩) hs
noncomputable def rIx (K:PySem.W.Frag):R2:=fun x y H Q=>xW K x y H Q\/xX K x y H Q\/xY x y H Q
theorem qX:IxR X (rIx X.K):=iR.or (qU.or qW)
theorem Tw (its:List Value) (n j:Nat) (u:Value):Obj.mapSeq (·.setIfInBounds j u) { cls:=.type "list",data:=.seq its.toArray n }={ cls:=.type "list",data:=.seq (its.set j u).toArray n }:=by
 simp [Obj.mapSeq]
theorem Inv.lst {pins:List (Addr×Obj)}{σ:St}{H:Hp}{s:Shared}{p:Addr}{xs:List V}(I:Inv X pins σ H s) (h:H p=some (.lst xs)) :
  ∃ (its:List Value) (n:Nat),Vals xs its/\s.heap.get? p=some { cls:=.type "list",data:=.seq its.toArray n }/\xs.length<=sizeLine:=by
 obtain ⟨z,its,n,r,e⟩:=I.hok p _ h;exact ⟨its,n,r,e,z⟩
theorem Inv.lstUpd {pins:List (Addr×Obj)}{σ:St}{H:Hp}{s:Shared}{p:Addr}{xs ys:List V}{its its':List Value}{n n':Nat}{f:Obj->Obj}(I:Inv X pins σ H s) (h:H p=some (.lst xs))
  (ho:s.heap.get? p=some { cls:=.type "list",data:=.seq its.toArray n }) (hf:f { cls:=.type "list",data:=.seq its.toArray n }={ cls:=.type "list",data:=.seq its'.toArray n' }) (r:Vals ys its') (hz:ys.length<=sizeLine) (t:Nat) :
  Inv X pins σ (upd H p (.lst ys)) { s with heap:=s.heap.update p f,toks:=t }:=by
 have e:(s.heap.update p f).get? p=some { cls:=.type "list",data:=.seq its'.toArray n' }:=by
  rw [Heap.get?_update_self f ho (by rw [hf] <;> rfl),hf]
 refine I.write (x:=p) (e:=p) (by rw [h];trivial) (.inl rfl) (fun b u hb q=>(Heap.get?_update_other _ _ (Ne.symm hb)).trans q) ⟨_,e⟩ ?_;exact ⟨hz,its',n',r,e⟩
noncomputable def xZ:V->V->V->Hp->(Hp->Prop)->Prop:=fun o i v H Q=>∃ p xs k j,o=.ref p/\i=.int k/\H p=some (.lst xs)/\ixN xs.length k=some j/\Q (upd H p (.lst (xs.set j v)))
theorem set_list:wU X xZ:=by
 intro pins s σ H o i v ov iv u Q I ro ri rv h;obtain ⟨p,xs,k,j,rfl,rfl,hp,hj,q⟩:=h;cases ro;obtain ⟨t,rfl⟩:=ri;obtain ⟨its,n,r,ho,hz⟩:=I.lst hp;obtain ⟨h1,h2,h3,h4⟩:=Vk hj;have hl:=r.length;have hn:=Hy;have I':Inv X pins σ (upd H p (.lst (xs.set j v))) { s with heap:=s.heap.update p (Obj.mapSeq (·.setIfInBounds j u)) } :=
  I.lstUpd hp ho (Tw its n j u) (r.set rv j) (by rw [List.length_set];exact hz) s.toks
 by_cases h0:0<=k
 ·have hk:k.toNat=j:=by
   rw [seqIndex_of h0 h4] at h1;exact Option.some.inj h1
  exact PySem.W.ki_setAt ho h0 (by omega) (by rw [List.size_toArray,← hl];exact h4) (by rw [hk];exact ⟨_,I',q⟩)
 ·have hk:(k+(its.toArray.size:Int)).toNat=j:=by
   rw [seqIndex_neg (by omega) h3] at h1;rw [List.size_toArray,← hl];exact Option.some.inj h1
  exact PySem.W.ki_setBack ho (by omega) (by rw [List.size_toArray,← hl];exact h3) (by omega) (by rw [hk];exact ⟨_,I',q⟩)
theorem O6 (lo hi:Option Int) (n:Nat):(sliceBounds lo hi none n).1=((HT.sIx n 0 lo:Nat):Int)/\(sliceBounds lo hi none n).2.1=((HT.sIx n n hi:Nat):Int)/\(sliceBounds lo hi none n).2.2=1:=by
 refine ⟨?_,?_,rfl⟩
 ·cases lo with
  | none=>simp [sliceBounds,HT.sIx]
  | some i =>
   simp only [sliceBounds,HT.sIx,Option.getD_none,show (1:Int) > 0 by decide,if_true]
   by_cases h:i < 0
   ·simp only [h,if_true] <;> omega
   ·simp only [h,if_false] <;> omega
 ·cases hi with
  | none=>simp [sliceBounds,HT.sIx]
  | some i =>
   simp only [sliceBounds,HT.sIx,Option.getD_none,show (1:Int) > 0 by decide,if_true]
   by_cases h:i < 0
   ·simp only [h,if_true] <;> omega
   ·simp only [h,if_false] <;> omega
theorem M8 (its:List Value) (lo hi:Option Int):slicePick its.toArray lo hi none=((its.drop (HT.sIx its.length 0 lo)).take (HT.sIx its.length its.length hi - HT.sIx its.length 0 lo)).toArray:=by
 obtain ⟨h1,h2,h3⟩:=O6 lo hi its.toArray.size;unfold slicePick;rw [h1,h2,h3];simp only [sliceRange_one,pick_run,List.size_toArray] <;> rfl
noncomputable def Aax (K:PySem.W.Frag):V->Option Int->Option Int->Hp->VK->Prop:=fun x lo hi H Q=>∃ a xs,x=.ref a/\SqL K H a xs/\∀ p,H p=none->Q (.ref p) (upd H p (.lst (Ra xs lo hi)))
theorem iU:SlR X (Aax X.K):=by
 intro pins s σ H x v vl vu lo hi sl Q I rx hs pl pu h;obtain ⟨a,xs,rfl,hx,q⟩:=h;cases rx;obtain ⟨its,r,ht,hz⟩:=I.list hx;have hlen:=r.length
 refine ⟨"list",_,slot_list_getitem.lookup,ht.isList.typeIs,?_⟩;refine wpAny_getItem_list_slice ht.isList hs pl pu .none (by simp) ?_ (by rw [List.size_toArray] <;> omega);rw [M8,← hlen];refine ⟨.ref s.heap.objs.size,_,I.laid (t':=s.toks) (o:=.lst (Ra xs lo hi)) (fun b ob q=>Heap.get?_push_of_some _ q) (Nat.le_refl _) ?_,rfl,q _ (I.hok.fresh (Nat.le_refl _))⟩;exact ⟨Nat.le_trans (J4 xs lo hi) hz,_,0,(r.drop (HT.sIx xs.length 0 lo)).take (HT.sIx xs.length xs.length hi - HT.sIx xs.length 0 lo),Heap.get?_push_size _ rfl⟩
theorem O7:Bs X (.builtin "len") (fun xs H Q=>∃ p ys,xs=[.ref p]/\(SqL X.K H p ys\/SqT X.K H p ys)/\Q (.int ys.length) H):=by
 intro pins s σ H xs us Q I r h;obtain ⟨p,ys,rfl,hq,q⟩:=h;obtain ⟨u,rfl,rx⟩:=vals1 r;cases rx;have hn:=Hy;rcases hq with hq|hq
 ·obtain ⟨its,r',pl,hz⟩:=I.list hq;have hlen:=r'.length;exact Calls.call_len_list pl.isList (by simp only [List.size_toArray] <;> omega) ⟨.int ys.length,H,I.tok _,⟨s.toks+1,by rw [List.size_toArray,hlen]⟩,q⟩
 ·obtain ⟨its,r',pl,hz⟩:=I.tuple hq;have hlen:=r'.length;exact len_tuple pl (by simp only [List.size_toArray] <;> omega) ⟨.int ys.length,H,I.tok _,⟨s.toks+1,by rw [List.size_toArray,hlen]⟩,q⟩
theorem O8:Bs X (.builtin "len") (fun xs H Q=>∃ z,xs=[.str z]/\z.length<=sizeLine/\Q (.int z.length) H):=by
 intro pins s σ H xs us Q I r h;obtain ⟨z,rfl,hz,q⟩:=h;obtain ⟨u,rfl,t,rfl⟩:=vals1 r;have hn:=Hy;exact len_str (by omega) ⟨.int z.length,H,I.tok _,⟨_,rfl⟩,q⟩
theorem Bs.or {f:Value}{r r':List V->Hp->VK->Prop}(h:Bs X f r) (h':Bs X f r'):Bs X f (fun xs H Q=>r xs H Q\/r' xs H Q):=by
 intro pins s σ H xs us Q I rs q;rcases q with q|q
 ·exact h pins s σ H xs us Q I rs q
 ·exact h' pins s σ H xs us Q I rs q
theorem O9:Bs X (.type "list") (fun xs H Q=>∃ p ys,xs=[.ref p]/\(SqL X.K H p ys\/SqT X.K H p ys)/\∀ l,H l=none->Q (.ref l) (upd H l (.lst ys))):=by
 intro pins s σ H xs us Q I r h;obtain ⟨p,ys,rfl,hq,q⟩:=h;obtain ⟨u,rfl,rx⟩:=vals1 r;cases rx;have fin:∀ (its:List Value),Vals ys its->ys.length<=sizeLine->∀ (h':Heap) (c':Nat),(∀ b o',s.heap.get? b=some o'->h'.get? b=some o') ->
   h'.get? s.heap.objs.size=some { cls:=.type "list",dict:=none,data:=.seq its.toArray c',slots:=#[] }->EP X pins σ Q (.ref s.heap.objs.size) { s with heap:=h' }:=fun its r' hz h' c' kp e =>
  ⟨.ref s.heap.objs.size,_,I.laid (t':=s.toks) kp (Nat.le_refl _) (show Br X.prog X.w _ h' _ (.lst ys) from ⟨hz,its,c',r',e⟩),rfl,q _ (I.hok.fresh (Nat.le_refl _))⟩
 rcases hq with hq|hq
 ·obtain ⟨its,r',pl,hz⟩:=I.list hq;have hlen:=r'.length;obtain ⟨o,ho,hc,n,hd⟩:=pl.isList;exact call_list_seq p (.inl rfl) ho hc hd (fun h' c' kp e=>fin its r' hz h' c' kp e) (by simp only [List.size_toArray] <;> omega)
 ·obtain ⟨its,r',pl,hz⟩:=I.tuple hq;have hlen:=r'.length;obtain ⟨o,ho,hc,n,hd⟩:=pl;exact call_list_seq p (.inr rfl) ho hc hd (fun h' c' kp e=>fin its r' hz h' c' kp e) (by simp only [List.size_toArray] <;> omega)
theorem M9:Bs X (.type "tuple") (fun xs H Q=>∃ p ys,xs=[.ref p]/\((SqL X.K H p ys/\∀ l,H l=none->Q (.ref l) (upd H l (.tup ys)))\/(SqT X.K H p ys/\Q (.ref p) H))):=by
 intro pins s σ H xs us Q I r h;obtain ⟨p,ys,rfl,h⟩:=h;obtain ⟨u,rfl,rx⟩:=vals1 r;cases rx;rcases h with ⟨hq,q⟩|⟨hq,q⟩
 ·obtain ⟨its,r',pl,hz⟩:=I.list hq;have hlen:=r'.length;refine call_tuple_list pl.isList (fun h' kp=>?_) (by simp only [List.size_toArray] <;> omega);have I1:Inv X pins σ H { s with heap:=h' }:=I.kept (t':=s.toks) kp
  have I2:Inv X pins σ (upd H h'.objs.size (.tup ys)) { s with heap:=h'.push { cls:=.type "tuple",data:=.seq its.toArray } } :=
   I1.laid (t':=s.toks) (fun b o e=>Heap.get?_push_of_some _ e) (Nat.le_refl _) (show Br X.prog X.w _ _ _ (.tup ys) from ⟨hz,its,r',Kf.new _ _⟩)
  exact ⟨.ref h'.objs.size,_,I2,rfl,q _ (I1.hok.fresh (Nat.le_refl _))⟩
 ·obtain ⟨its,r',pl,hz⟩:=I.tuple hq;exact call_tuple_same pl ⟨.ref p,H,I,rfl,q⟩
noncomputable def tyV (K:PySem.W.Frag) (T:String) (x:V) (H:Hp):Prop:=match x with
 | .str _=>T = "str"
 | .int _=>T = "int"
 | .ref p=>(T = "list"/\∃ xs,SqL K H p xs)\/(T = "tuple"/\∃ xs,SqT K H p xs) \/
   (T = "dict"/\((∃ kvs,H p=some (.dK kvs))\/∃ kvs,H p=some (.dT kvs)))\/(T = "set"/\∃ S n,H p=some (.set S n))
 | _=>False
theorem Y9 {pins:List (Addr×Obj)}{σ:St}{H:Hp}{s:Shared}{T:String}{x:V}{v:Value}(I:Inv X pins σ H s) (r:RelV x v) (ty:tyV X.K T x H) :
  s.TypeIs v T/\∀ a,v=.ref a->∃ ob,s.heap.get? a=some ob/\ob.dict=none:=by
 cases x with
 | str z =>
  obtain ⟨t,rfl⟩:=r
  cases (show T = "str" from ty);exact ⟨typeIs_str s z t,fun _ e=>nomatch e⟩
 | int i =>
  obtain ⟨t,rfl⟩:=r
  cases (show T = "int" from ty);exact ⟨typeIs_int s i t,fun _ e=>nomatch e⟩
 | ref p =>
  cases r;rcases ty with ⟨rfl,xs,hq⟩|⟨rfl,xs,hq⟩|⟨rfl,hk⟩|⟨rfl,S,n,hk⟩
  ·obtain ⟨its,_,pl,_⟩:=I.list hq;refine ⟨pl.isList.typeIs,fun a e=>?_⟩;cases e;obtain ⟨o,n,e,c,hd,_⟩:=pl;exact ⟨o,e,hd⟩
  ·obtain ⟨its,_,⟨o,e,c,d,n,dd⟩,_⟩:=I.tupleP hq;refine ⟨⟨o,e,c⟩,fun a e2=>?_⟩;cases e2;exact ⟨o,e,d⟩
  ·have z:∃ o,s.heap.get? p=some o/\o.ExactDict:=by
    rcases hk with ⟨kvs,hk⟩|⟨kvs,hk⟩
    ·obtain ⟨_,_,_,_,o,_,_,e,ex,_⟩:=I.hok p _ hk;exact ⟨o,e,ex⟩
    ·obtain ⟨_,_,_,_,o,_,_,e,ex,_⟩:=I.hok p _ hk;exact ⟨o,e,ex⟩
   obtain ⟨o,e,ex⟩:=z;refine ⟨⟨o,e,ex.1⟩,fun a e2=>?_⟩;cases e2;exact ⟨o,e,ex.2.1⟩
  ·obtain ⟨o,_,_,_,e,ex,_⟩:=I.hok p _ hk;refine ⟨⟨o,e,ex.1⟩,fun a e2=>?_⟩;cases e2;exact ⟨o,e,ex.2.1⟩
 | _=>exact False.elim ty
noncomputable def Aay (K:PySem.W.Frag) (T:String) (r:V->List V->Hp->VK->Prop) (to:TE):TE:=fun σ H Q=>to σ H fun x H1=>tyV K T x H1/\r x [] H1 Q
noncomputable def tBM (K:PySem.W.Frag) (T:String) (r:V->List V->Hp->VK->Prop) (to:TE) (t:TA):TE:=fun σ H Q=>to σ H fun x H1=>tyV K T x H1/\t σ H1 fun xs H2=>r x xs H2 Q
variable {o e:Expr}{es:List Expr}{to:TE}{t:TA}{name:Str}{apos cpos:Pos}{T id:String}{r:V->List V->Hp->VK->Prop}
theorem qY (pa:PlainAttrs T) (slot:Slot T name id) (hty:typeOf (.builtin id)=pure (.type "method_descriptor")) (hm:MtR X id r) (ho:PE X o to)
  (hbase:attributeBase o name X.env (eval o X.env)=eval o X.env:=by rfl) (hline:(apos.endLine==cpos.line)=true:=by rfl):PE X (.Call (.Attribute o name apos) [] [] cpos) (Aay X.K T r to):=by
 intro pins s σ H Q I h;refine wpAny_Call_method0_late hbase hline (thn (ho pins s σ H _ I h) ?_);rintro v s1 ⟨x,H1,I1,r1,ty,q1⟩;obtain ⟨h1,h2⟩:=Y9 I1 r1 ty;exact ⟨T,id,pa,slot,hty,h1,h2,Calls.callWith_builtin rfl (PySem.evalArgs_none (hm pins s1 σ H1 x [] v [] Q I1 r1 .nil q1))⟩
theorem yC (pa:PlainAttrs T) (slot:Slot T name id) (hty:typeOf (.builtin id)=pure (.type "method_descriptor")) (hm:MtR X id r) (ho:PE X o to) (ha:PA X (e::es) t)
  (hbase:attributeBase o name X.env (eval o X.env)=eval o X.env:=by rfl)
  (hfew:((backTo cpos (starEach (e::es) X.env)).all (fun x=>!x.1)&&(backToKw cpos (keywordEach [] X.env)).all (fun x=>x.1.isSome)
   && decide ((e::es).length+([]:List Keyword).length+(if ([]:List Keyword).isEmpty then 0 else 1) < 30))=true:=by rfl)
  (hline:(apos.endLine==cpos.line)=true:=by rfl) (hs:starEach (e::es) X.env=(false,eval e X.env)::starEach es X.env:=by rfl) (hplain:(backTo cpos (starEach es X.env)).any (·.1)=false:=by rfl) :
  PE X (.Call (.Attribute o name apos) (e::es) [] cpos) (tBM X.K T r to t):=by
 intro pins s σ H Q I h;refine wpAny_Call_method_late hbase hfew hline rfl (thn (ho pins s σ H _ I h) ?_);rintro v s1 ⟨x,H1,I1,r1,ty,q1⟩;obtain ⟨h1,h2⟩:=Y9 I1 r1 ty;refine ⟨T,id,pa,slot,hty,h1,h2,?_⟩;have hA:=ha cpos pins s1 σ H1 _ I1 q1;rw [hs] at hA ⊢;refine Calls.callWith_builtin (by show (false || (backTo cpos (starEach es X.env)).any (·.1))=false;rw [hplain] <;> rfl) (Calls.evalArgs_plain ?_);refine thn hA ?_;rintro us s2 ⟨vs,H2,I2,r2,q2⟩;exact hm pins s2 σ H2 x vs v us Q I2 r1 r2 q2
end
noncomputable def MtM (X:Cx) (id:String) (r:V->List V->Hp->VK->Prop):Prop :=
 ∀ (pins:List (Addr×Obj)) (s:Shared) (σ:St) (H:Hp) (x:V) (xs:List V) (v:Value) (us:List Value) (Q:VK),Inv X pins σ H s->RelV x v->Vals xs us->r x xs H Q ->
  wpAny (model X.prog X.w) X.A (call (.builtin id) (v::us)) (EP X pins σ Q) X.xe s
theorem Vals.one {x:V}{us:List Value}(h:Vals [x] us):∃ u,us=[u]/\RelV x u:=by
 cases h with
 | cons r t=>cases t;exact ⟨_,rfl,r⟩
theorem Vals.zero:∀ {us:List Value},Vals [] us->us=[]
 | _,.nil=>rfl
theorem Vals.dropLast {xs:List V}{us:List Value}(h:Vals xs us):Vals xs.dropLast us.dropLast:=by
 induction h with
 | nil=>exact .nil
 | cons r t ih =>
  cases t with
  | nil=>exact .nil
  | cons q t'=>exact .cons r ih
theorem Vals.rep {xs:List V}{us:List Value}(h:Vals xs us):∀ k:Nat,Vals (List.replicate k xs).flatten (List.replicate k us).flatten
 | 0=>.nil
 | k+1=>by
  rw [List.replicate_succ,List.replicate_succ,List.flatten_cons,List.flatten_cons];exact Vals.append h (Vals.rep h k)
theorem Tz {α:Type}(l:List α):l.eraseIdx (l.length - 1)=l.dropLast:=by
 induction l with
 | nil=>rfl
 | cons a r ih =>
  cases r with
  | nil=>rfl
  | cons b r =>
   have e:(a::b::r).length - 1=((b::r).length - 1)+1:=by
    have h1:(a::b::r).length=r.length+2:=rfl;have h2:(b::r).length=r.length+1:=rfl;omega
   rw [e,List.eraseIdx_cons_succ,ih]
   all_goals rfl
theorem foldl_rep (its:List Value):∀ (k:Nat) (acc:List Value),
  List.foldl (fun x1 x2=>x1++x2) acc.toArray (List.replicate k its.toArray)=(acc++(List.replicate k its).flatten).toArray
 | 0,acc=>by simp
 | k+1,acc=>by
  have e:acc.toArray++its.toArray=(acc++its).toArray:=by simp
  have e2:(acc++its)++(List.replicate k its).flatten=acc++(List.replicate (k+1) its).flatten:=by
   rw [List.replicate_succ,List.flatten_cons,List.append_assoc]
  rw [← e2,← foldl_rep its k (acc++its),← e,List.replicate_succ,List.foldl_cons]
section
variable {X:Cx}{pins:List (Addr×Obj)}{σ:St}{H:Hp}{s:Shared}{l b:Addr}{xs ys zs:List V}
theorem Inv.lset {its its':List Value}{n:Nat}{f:Array Value->Array Value}{t':Nat}(I:Inv X pins σ H s) (hH:H l=some (.lst xs))
  (e:s.heap.get? l=some { cls:=.type "list",data:=.seq its.toArray n }) (hf:f its.toArray=its'.toArray) (hv:Vals ys its') (hz:ys.length<=sizeLine) :
  Inv X pins σ (upd H l (.lst ys)) { s with heap:=s.heap.update l (Obj.mapSeq f),toks:=t' }:=by
 have q:=PySem.IsL.update e f;rw [hf] at q;refine I.write (x:=l) (e:=l) (by rw [hH];exact trivial) (.inl rfl) (fun b' u hb hu=>(Heap.get?_update_other s.heap (Obj.mapSeq f) (Ne.symm hb)).trans hu) ⟨_,q⟩ ?_;exact ⟨hz,its',_,hv,q⟩
theorem Inv.lnew {its:List Value}{t':Nat}(I:Inv X pins σ H s) (hv:Vals ys its) (hz:ys.length<=sizeLine) :
  Inv X pins σ (upd H s.heap.objs.size (.lst ys)) { s with heap:=s.heap.push { cls:=.type "list",data:=.seq its.toArray },toks:=t' } :=
 I.laid (fun _ _ q=>Heap.get?_push_of_some _ q) (Nat.le_refl _) ⟨hz,its,0,hv,Heap.get?_push_size _ rfl⟩
theorem Inv.fresh (I:Inv X pins σ H s):H s.heap.objs.size=none:=I.hok.fresh (Nat.le_refl _)
theorem Inv.lstM (I:Inv X pins σ H s) (hH:H l=some (.lst xs)):xs.length<=sizeLine/\∃ (its:List Value) (n:Nat),Vals xs its/\xs.length=its.length/\s.heap.get? l=some { cls:=.type "list",data:=.seq its.toArray n }:=by
 obtain ⟨z,its,n,r,e⟩:=I.hok l _ hH;exact ⟨z,its,n,r,r.length,e⟩
theorem K7 {n:Nat}(h:n<=sizeLine):Builtin.List.listTooLong n=false:=by
 unfold Builtin.List.listTooLong;exact decide_eq_false (by omega)
end
section
variable {X:Cx}
noncomputable def iV:V->List V->Hp->VK->Prop:=fun x vs H Q=>∃ l xs y,x=.ref l/\vs=[y]/\H l=some (.lst xs)/\xs.length < sizeLine/\Q .non (upd H l (.lst (xs++[y])))
theorem W5:MtM X "list.append" iV:=by
 intro pins s σ H x vs v us Q I rx rv h;obtain ⟨l,xs,y,rfl,rfl,hH,hz,q⟩:=h;cases rx;obtain ⟨u,rfl,ru⟩:=rv.one;obtain ⟨z,its,n,r,hl,e⟩:=I.lstM hH;refine call_meets F.slot_list_append ⟨_,e,rfl⟩ F.entry_list_append (F.args_list_append_2 _ _) (PySem.list_append l its.toArray n u (by rw [List.size_toArray];omega)) ⟨e,?_⟩;refine ⟨.non,_,I.lset (its':=its++[u]) hH e (by simp) (r.append (.cons ru .nil)) ?_,rfl,q⟩;rw [List.length_append,List.length_singleton];omega
noncomputable def iW:V->List V->Hp->VK->Prop:=fun x vs H Q=>∃ l b xs zs,x=.ref l/\vs=[.ref b]/\H l=some (.lst xs)/\H b=some (.lst zs)/\xs.length+zs.length<=sizeLine/\Q .non (upd H l (.lst (xs++zs)))
theorem W6:MtM X "list.extend" iW:=by
 intro pins s σ H x vs v us Q I rx rv h;obtain ⟨l,b,xs,zs,rfl,rfl,hH,hB,hz,q⟩:=h;cases rx;obtain ⟨u,rfl,ru⟩:=rv.one;cases ru;obtain ⟨z,its,n,r,hl,e⟩:=I.lstM hH;obtain ⟨z2,its2,n2,r2,hl2,e2⟩:=I.lstM hB;have hsz:its.toArray.size+its2.toArray.size<=sizeLine:=by rw [List.size_toArray,List.size_toArray];omega
 have hlong:¬ (!its.toArray.isEmpty&&Builtin.List.listTooLong (its.toArray.size+its2.toArray.size))=true:=by
  rw [K7 hsz,Bool.and_false];exact Bool.false_ne_true
 refine call_meets F.slot_list_extend ⟨_,e,rfl⟩ F.entry_list_extend (F.args_list_extend_2 _ _)
  (AutoSeq1.list_extend_list_list_0 l its.toArray n b its2.toArray n2 hlong (by rw [List.size_toArray];omega) (by omega)) ⟨e,e2,?_⟩
 refine ⟨.non,_,I.lset (its':=its++its2) hH e (by simp) (r.append r2) ?_,rfl,q⟩;rw [List.length_append];omega
noncomputable def Aaz:V->List V->Hp->VK->Prop:=fun x vs H Q=>∃ l xs y,x=.ref l/\vs=[]/\H l=some (.lst xs)/\xs[xs.length - 1]?=some y/\Q y (upd H l (.lst xs.dropLast))
theorem qZ:MtM X "list.pop" Aaz:=by
 intro pins s σ H x vs v us Q I rx rv h;obtain ⟨l,xs,y,rfl,rfl,hH,hy,q⟩:=h;cases rx;have hus:=rv.zero;subst hus;obtain ⟨z,its,n,r,hl,e⟩:=I.lstM hH;obtain ⟨u,hu,ru⟩:=r.get hy;have hy':its.toArray[its.toArray.size - 1]?=some u:=by
  show its.toArray[its.length - 1]?=some u;rw [← Array.getElem?_toList,← hl];exact hu
 refine call_meets F.slot_list_pop ⟨_,e,rfl⟩ F.entry_list_pop (F.args_list_pop_1 _) (MeetsSeq.list_pop_last l its.toArray n u hy' (by rw [List.size_toArray];omega)) ⟨e,?_⟩;refine ⟨y,_,I.lset (its':=its.dropLast) hH e ?_ r.dropLast ?_,ru,q⟩
 ·show its.toArray.eraseIdxIfInBounds (its.toArray.size - 1)=its.dropLast.toArray;rw [List.size_toArray,List.eraseIdxIfInBounds_toArray,Tz]
 ·rw [List.length_dropLast];omega
noncomputable def Aa0:R2:=fun x y H Q=>∃ l b xs zs,x=.ref l/\y=.ref b/\H l=some (.lst xs)/\H b=some (.lst zs)/\xs.length+zs.length<=sizeLine/\∀ p,H p=none->Q (.ref p) (upd H p (.lst (xs++zs)))
theorem rA:OpR X (binaryOp .Add) Aa0:=by
 intro pins s σ H x y v u Q I rx ry h;obtain ⟨l,b,xs,zs,rfl,rfl,hH,hB,hz,q⟩:=h;cases rx;cases ry;obtain ⟨z,its,n,r,hl,e⟩:=I.lstM hH;obtain ⟨z2,its2,n2,r2,hl2,e2⟩:=I.lstM hB;refine PySem.P.add_list e e2 ?_ (by rw [List.size_toArray,List.size_toArray];omega);have ea:its.toArray++its2.toArray=(its++its2).toArray:=by simp
 rw [ea];exact ⟨.ref _,_,I.lnew (t':=s.toks) (r.append r2) (by rw [List.length_append];omega),rfl,q _ I.fresh⟩
noncomputable def Aa1:R2:=fun x y H Q=>∃ l k xs,x=.ref l/\y=.int k/\H l=some (.lst xs)/\-(2 ^ 63)<=k/\k < 2 ^ 63/\xs.length * k.toNat<=sizeLine /\
 ∀ p,H p=none->Q (.ref p) (upd H p (.lst (List.replicate k.toNat xs).flatten))
theorem len_rep {α:Type}(xs:List α) (k:Nat):(List.replicate k xs).flatten.length=k * xs.length:=by
 induction k with
 | zero=>simp
 | succ k ih=>rw [List.replicate_succ,List.flatten_cons,List.length_append,ih,Nat.succ_mul,Nat.add_comm]
theorem rB:OpR X (binaryOp .Mult) Aa1:=by
 intro pins s σ H x y v u Q I rx ry h;obtain ⟨l,k,xs,rfl,rfl,hH,h1,h2,hz,q⟩:=h;cases rx;obtain ⟨t,rfl⟩:=ry;obtain ⟨z,its,n,r,hl,e⟩:=I.lstM hH;have hlen:its.toArray.size * k.toNat<=sizeLine:=by rw [List.size_toArray,← hl];exact hz
 have hcap:¬ its.toArray.size * k.toNat > (2 ^ 63 - 1) / 8:=by
  have:(sizeLine:Nat)<=(2 ^ 63 - 1) / 8:=by decide
  omega
 have hfit:¬ (!Builtin.List.listFitsIndex k)=true:=by
  rw [fitsIndex_both h1 h2];exact Bool.false_ne_true
 have hlong:¬ Builtin.List.listTooLong (its.toArray.size * k.toNat)=true:=by
  rw [K7 hlen];exact Bool.false_ne_true
 have hnew:List.foldl (fun x1 x2=>x1++x2) #[] (List.replicate (if its.toArray.isEmpty=true then 0 else k.toNat) its.toArray)=(List.replicate k.toNat its).flatten.toArray:=by
  have f0:∀ m:Nat,List.foldl (fun x1 x2=>x1++x2) #[] (List.replicate m its.toArray)=(List.replicate m its).flatten.toArray:=fun m=>by
   have:=foldl_rep its m [];rw [List.nil_append] at this;exact this
  rw [f0];cases its with
  | nil=>simp
  | cons a r'=>rw [if_neg (by simp)]
 refine wpAny_binaryOp_repeat_ref (T := "list") (U := "int") (by decide) ⟨_,e,rfl⟩ (fun s'=>typeIs_int s' k t) noFill_list_mul F.fills_int_mul F.slot_int_rmul repeat_list F.slot_int_index.lookup
  (call_meets F.slot_int_rmul (typeIs_int s k t) F.entry_int_rmul (F.args_int_rmul_2 _ _) (int___rmul___int_list k t l its.toArray n)
   ⟨e,rfl,⟨_,e,rfl⟩,call_meets F.slot_list_mul ⟨_,e,rfl⟩ F.entry_list_mul (F.args_list_mul_2 _ _) (AutoListH.list___mul___list_int_3 l its.toArray n k t hfit hcap hlong) ⟨e,?_⟩⟩)
 rw [hnew];exact ⟨.ref _,_,I.lnew (t':=s.toks) (r.rep k.toNat) (by rw [len_rep,Nat.mul_comm];exact hz),rfl,q _ I.fresh⟩
end
section
variable {prog:Program}{w:World}{A:Around}{E:Value->Shared->Prop}{s:Shared}
end
section
variable {X:Cx}
end
end L2
namespace Att
open PySem PySem.W PySem.Calls PyProof.Rows
theorem Kg {P:Params}{h:Heap}:∀ (ns:List Int) (vs:List Value),WellAll P h vs (ns.map WData.int)->IntsAre vs ns:=by
 intro ns
 induction ns with
 | nil =>
  intro vs w;rw [List.map_nil] at w;cases w;exact .nil
 | cons n ns ih =>
  intro vs w;rw [List.map_cons] at w;cases w with
  | cons a b =>
   cases a;exact .cons _ _ (ih _ b)
theorem W7 {l:OpenLaw}{n:Nat}(hn:l.most=some n) {P:Params}{h:Heap}{args:List WData}{vals:List Value}
  (hpre:l.row.toRowW.claim.pre args=true) (hwl:WellAll P h vals args) :
  ∃ a vs ns,vals=[Value.ref a]/\args=[WData.list (ns.map WData.int)]/\h.get? a=some { cls:=.type "list",data:=.seq vs.toArray }/\IntsAre vs ns/\ns.length<=n:=by
 have hsh:WShape.hasAll [] args [.list .int]=true:=(pre_splitW hpre).1;have hc:l.pre.holds [] { args:=args }=true:=(pre_splitW hpre).2;obtain ⟨d,r,rfl,h1,h2⟩:=hasAllW_cons hsh;obtain rfl:=hasAllW_nil h2;obtain ⟨xs,rfl,h3⟩:=hasW_list h1;obtain ⟨ns,rfl⟩:=items_int h3;have hlen:ns.length<=n:=by
  unfold OpenLaw.pre at hc;have h4:(WTm.not (.lt (.lit (.int (n:Int))) (.len (.arg 0)))).holds [] { args:=[.list (ns.map .int)] }=true:=by
   have h4:=(holds_andW hc).1;rw [hn] at h4;exact h4
  have h5:=condW_of h4 (w_not (w_lt w_lit (w_len_list (w_arg rfl))));rw [List.length_map] at h5;refine Nat.le_of_not_lt fun q=>?_
  have q':(n:Int) < ((ns.length:Nat):Int):=by omega
  first
   | (rw [decide_eq_true q'] at h5;exact absurd h5 (by decide))
   | (simp at h5;omega)
 cases hwl with
 | cons w1 w2 =>
  cases w2;cases w1 with
  | list ho hall=>exact ⟨_,_,ns,rfl,rfl,ho,Kg ns _ hall,hlen⟩
theorem W8 (l:OpenLaw) (args:List WData):l.row.toRowW.claim.post args (.bool true) args=true :=
 postW_of (r:=l.row.toRowW) (X:=(true==true))
  (show WShape.has [] (.bool true) .bool=true by first | rfl | decide | simp [WShape.has,WShape.arms,WShape.armsAll])
  (show (WTm.eq .res (.lit (.bool true))).value [] { args:=args,res:=some (.bool true),after:=args }=some (.bool (true==true)) from w_eq_bool (w_res rfl) w_lit) rfl
theorem attach_call {l:OpenLaw}{n:Nat}{q:Program}{loose:List Str}{XP:(Str->Option Value)->Heap->Prop}{YP:World->Heap->Prop}{d:DefRec}
  (hn:l.most=some n) (hdf:d.params.defaults=[])
  (call:∀ (w:World) (s₀ s₁:Shared) (mg mb:Str->Option Value) (fa:Addr) (o:Obj) (pm cd doc:Value) (a:Addr) (vs:List Value) (ns:List Int),
   Ground q loose [] XP w s₀ mg mb s₁.heap->YP w s₁.heap ->
   s₁.heap.get? fa=some o->o.data=.func (docDef d.name d.params d.body d.scope pm cd doc)->s₁.heap.CodeRec cd d.name->mg d.name=some (.ref fa) ->
   s₁.heap.get? a=some { cls:=.type "list",data:=.seq vs.toArray }->IntsAre vs ns->ns.length<=n->s₁.gens=#[] ->
   codeAny (model l.prog w) callerA (.call (.ref fa) ⟨[.ref a],[]⟩) (fun r s'=>r=.ok (.ret (.bool true))/\OldK s₁.heap s'.heap/\s'.os=s₁.os/\AllBare s'.gens) s₁) :
  WalkO q loose XP YP l.row.toRowW d [] (fun f vs=>PySem.call f vs):=by
 intro w s₀ s₁ mg mb G Y fa o pm cd doc dV kV ho hd hcd hD hmg hg args vals as hpre hlay hrd hwl hlo;obtain rfl:dV=.none:=Dflts.none hD hdf;obtain rfl:kV=.none:=Dflts.noKw hD;obtain ⟨a,vs,ns,rfl,rfl,hobj,hints,hlen⟩:=W7 hn hpre hwl;refine enter_call (codeAny_mono (call w s₀ s₁ mg mb fa o pm cd doc a vs ns G Y ho (fd_plain hd) hcd hmg hobj hints hlen hg) fun r s' hq=>?_);obtain ⟨rfl,h2,h3,h4⟩:=hq;exact ⟨.inl ⟨.bool true,.bool true,[],rfl,fun _=>rfl,.bool true,W8 l _,fun _=>⟨List.Pairwise.nil,fun _ hm=>(nomatch hm)⟩⟩,h2,h3,h4⟩
section
variable {prog:Program}{w:World}{A:Around}{E:Value->Shared->Prop}{s:Shared}{K:Frag}
end
end Att
namespace L2
open PySem PySem.Spec PyProof.Rows
theorem Ey:∀ {vs:List Value}{ns:List Int},IntsAre vs ns->Vals (ns.map V.int) vs
 | _,_,.nil=>.nil
 | _,_,.cons n t h=>.cons ⟨t,rfl⟩ (Ey h)
noncomputable def Only (H:Hp):Prop:=∀ b,H b=none\/∃ o xs,H b=some (.frz o (.lst xs))
theorem Za {P:Program}{w:World}{K:PySem.W.Frag}{mg mb:Str->Option Value}{CX:CXT}{k:Nat}{fa a:Addr}{fd:FuncData}{x:Str}{sp:Sp}{s₁:Shared}{vs:List Value}{ns:List Int}
  (KX:K.In s₁.heap) (hns:s₁.heap.Ns mainGlobals mg) (hb:s₁.heap.Ns builtinsNs mb) (hbb:∀ x:Str,x ≠ "__name__"->mb x=bootBuiltins x) (hlim:s₁.heap.NoLimit) (hg:s₁.gens=#[])
  (ha:s₁.heap.get? a=some { cls:=.type "list",data:=.seq vs.toArray }) (hi:IntsAre vs ns) (hl:ns.length<=sizeLine) (hr:Room k callerA)
  (F:∀ base:Heap,K.In base->base.Ns mainGlobals mg->FnOk P w K mg base CX k fa fd [x] sp) (hbind:∀ (s:Shared) (u:Value),BindsTo s fd ⟨[u],[]⟩ [(x,u)])
  (hsp:∀ H:Hp,Only H->SqL K H a (ns.map V.int)->sp [.ref a] H (fun v _=>v=.bl true) fun _ _ _=>False)
  (hCX:∀ H e s',CX [] H s₁ (fun _ _ _=>False) e s'->False) :
  codeAny (model P w) callerA (.call (.ref fa) ⟨[.ref a],[]⟩) (fun r s'=>r=.ok (.ret (.bool true))/\OldK s₁.heap s'.heap/\s'.os=s₁.os/\AllBare s'.gens) s₁:=by
 have rv:=Ey hi;have lenV:=hi.length
 -- from an abstract heap in which nothing but the script may be tracked
 have core:∀ H:Hp,Only H->SqL K H a (ns.map V.int)->HOk P w H s₁.heap->(∀ b,H b≠none->b=a)->(H a≠none->K.lookup a=none) ->
   codeAny (model P w) callerA (.call (.ref fa) ⟨[.ref a],[]⟩) (fun r s'=>r=.ok (.ret (.bool true))/\OldK s₁.heap s'.heap/\s'.os=s₁.os/\AllBare s'.gens) s₁:=by
  intro H hO hS hok hA hK;have base_of:∀ {b:Addr} {o:Obj},s₁.heap.get? b=some o->H b=none->(O1 s₁.heap H).get? b=some o:=fun e n=>Yn e n
  have noA:∀ {b:Addr} {o:Obj} {es:Array DictEntry} {ep:Nat},s₁.heap.get? b=some o->o.data=.dict es ep->H b=none:=fun {b o es ep} e d=>by
   cases q:H b with
   | none=>rfl
   | some u =>
    have e':b=a:=hA b (by rw [q];simp);subst e';rw [ha] at e;cases e;have d':Data.seq vs.toArray _=Data.dict es ep:=d;cases d'
  have nsK:∀ {b:Addr} {m:Str->Option Value},s₁.heap.Ns b m->(O1 s₁.heap H).Ns b m:=fun {b m} ⟨o,es,ep,e,d,r⟩=>⟨o,es,ep,base_of e (noA e d),d,r⟩
  have hKb:K.In (O1 s₁.heap H):=fun b o e=>base_of (KX b o e) (by
   cases q:H b with
   | none=>rfl
   | some u =>
    have e':b=a:=hA b (by rw [q];simp);subst e'
    rw [hK (by rw [q];simp)] at e;cases e)
  have hM:Mod K mg (O1 s₁.heap H):=⟨hKb,nsK hns,⟨mb,nsK hb,hbb⟩,let ⟨mc,h1,h2⟩:=hlim;⟨mc,nsK h1,h2⟩⟩;have e0:Env0 P w K mg (O1 s₁.heap H) callerA [] s₁ H:=⟨rfl,hM,fun b o e=>gK e,Nat.le_of_eq (Wv _ _),trivial,fun b hb=>absurd (show b∈([]:List Addr) from hb) (by simp),hok,.of_eq hg⟩;refine codeAny_mono ((F _ hKb (nsK hns)).run callerA [] s₁ H ⟨[.ref a],[]⟩ [.ref a] [.ref a] _ _ hr e0 (hbind s₁ (.ref a)) (.cons rfl .nil) (hsp H hO hS)) fun r s' h=>?_
  cases r with
  | error e=>exact (hCX H e s' h).elim
  | ok fl =>
   cases fl with
   | next=>exact False.elim h
   | brk=>exact False.elim h
   | cont=>exact False.elim h
   | ret u =>
    obtain ⟨v,H',os,bare,un,hok',r',q⟩:=h;have q':v=.bl true:=q;subst q';obtain rfl:u=Value.bool true:=r';refine ⟨rfl,OldK.of_keep fun b o e=>?_,os,bare⟩;cases q:H b with
    | none=>exact un.keep b o e q (by intro z;exact absurd (show b∈([]:List Addr) from z) (by simp)) (by simp)
    | some u =>
     rcases hO b with z|⟨ob,xs,z⟩
     ·rw [q] at z;cases z
     ·have z2:=un.frzs b ob _ z;obtain ⟨e1,_⟩:=hok b _ z;obtain ⟨e2,_⟩:=hok' b _ z2;rw [e] at e1;cases e1;exact e2
 cases hk:K.lookup a with
 | some o =>
  -- the script is one of the module's own objects
  have e:=KX a o hk;rw [ha] at e;cases e;refine core (fun _=>none) (fun _=>.inl rfl) (.inr ⟨_,vs.toArray,_,hk,rfl,rfl,rfl,by rw [List.size_toArray,lenV];exact hl,by simpa using rv⟩) (fun b u z=>by have z':(none:Option HO)=some u:=z;cases z') (fun b z=>absurd rfl z) fun z=>absurd rfl z
 | none =>
  refine core (fun b=>if b=a then some (.frz { cls:=.type "list",data:=.seq vs.toArray } (.lst (ns.map V.int))) else none) (fun b=>?_) (.inl (.inr ⟨{ cls:=.type "list",data:=.seq vs.toArray },if_pos rfl⟩)) (fun b u z=>?_) (fun b z=>?_) fun _=>hk
  ·by_cases hb:b=a
   ·exact .inr ⟨_,_,if_pos hb⟩
   ·exact .inl (if_neg hb)
  ·by_cases hb:b=a
   ·have z':=(if_pos hb).symm.trans z;cases z';subst hb;exact ⟨ha,by rw [List.length_map];exact hl,vs,_,rv,ha⟩
   ·have z':=(if_neg hb).symm.trans z;cases z'
  ·by_cases hb:b=a
   ·exact hb
   ·exact absurd (if_neg hb) z
theorem iY {l:PySem.W.OpenLaw}{n k:Nat}{q:Program}{loose:List Str}{XP:(Str->Option Value)->Heap->Prop}{YP:World->Heap->Prop}{d:DefRec}{K:Params->PySem.W.Frag}{CX:World->CXT}{sp:World->Sp}{x:Str}
  (hn:l.most=some n) (hn2:n<=sizeLine) (hdf:d.params.defaults=[]) (hr:Room k callerA)
  (hY:∀ (w:World) (h:Heap),YP w h->(K w.params).In h)
  (F:∀ (w:World) (mg:Str->Option Value) (fa:Addr) (h:Heap),(K w.params).In h->h.Ns mainGlobals mg->mg d.name=some (.ref fa) ->
   ∃ fd:FuncData,(∀ (s:Shared) (u:Value),BindsTo s fd ⟨[u],[]⟩ [(x,u)]) /\
    ∀ base:Heap,(K w.params).In base->base.Ns mainGlobals mg->FnOk l.prog w (K w.params) mg base (CX w) k fa fd [x] (sp w))
  (hsp:∀ (w:World) (H:Hp) (a:Addr) (ns:List Int),ns.length<=n->Only H->SqL (K w.params) H a (ns.map V.int)->sp w [.ref a] H (fun v _=>v=.bl true) fun _ _ _=>False)
  (hCX:∀ (w:World) (H:Hp) (s:Shared) (e:Value) (s':Shared),CX w [] H s (fun _ _ _=>False) e s'->False) :
  PySem.W.WalkO q loose XP YP l.row.toRowW d [] (fun f vs=>PySem.call f vs):=by
 refine Att.attach_call hn hdf fun w s₀ s₁ mg mb fa o pm cd doc a vs ns G Y ho hd hcd hmg hobj hints hlen hg=>?_
 have KX:=hY w _ Y;obtain ⟨fd,hb,hF⟩:=F w mg fa _ KX G.T.g hmg;exact Za KX G.T.g G.T.b G.T.builtins G.T.nolimit hg hobj hints (Nat.le_trans hlen hn2) hr hF hb (fun H hO hS=>hsp w H a ns hlen hO hS) fun H e s'=>hCX w H s₁ e s'
noncomputable def Dq (s:Stmt):Arguments:=match s with
 | .FunctionDef _ a _ _ _ _ _ _ _ _=>a
 | _=>{ posonlyargs:=[],args:=[],vararg:=none,kwonlyargs:=[],kw_defaults:=[],kwarg:=none,defaults:=[] }
noncomputable def Bw (s:Stmt):List Stmt:=match s with
 | .FunctionDef _ _ b _ _ _ _ _ _ _=>b
 | _=>[]
noncomputable def Ar (s:Stmt):Scope:=match s with
 | .FunctionDef _ _ _ _ _ _ sc _ _ _=>sc
 | _=>{ kind:=.function,names:=[],isGenerator:=false,isCoroutine:=false }
noncomputable abbrev CX0:CXT:=fun _ _ _ _ _ _=>False
noncomputable abbrev E0:XK:=fun _ _ _=>False
theorem oA {X:Cx}:Jo CX0 X E0:=fun _ _ _ _ _ _ _ h=>h.elim
structure Fun (K:PySem.W.Frag) (x qual:Str) (st:Stmt) (f:Addr) (fd:FuncData):Prop where
 ex:∃ (oc:Value) (od:Option Addr) (kV doc pm:Value) (an:Option Addr) (cdv ct:Value) (osl:Array (Option Value)),
  fd=PySem.W.fnOf x qual (Dq st) (Bw st) (Ar st) .none kV doc pm an cdv ct/\K.lookup f=some ⟨oc,od,.func fd,osl⟩/\PySem.W.codeIn K cdv qual=true
 kp:PySem.W.keepIn K (.ref f)=true
section
variable {P:Program}{w:World}{K:PySem.W.Frag}{mg:Str->Option Value}{base:Heap}
theorem Fun.ok {x qual:Str}{st:Stmt}{f:Addr}{fd:FuncData}{N ps:List Str}{k:Nat}{sp:Sp}(F:Fun K x qual st f fd) (S:FnScope N ps (Ar st)) (len:∀ vs H Q E,sp vs H Q E->vs.length=ps.length)
  (hbody:∀ (cdv:Value) (A:Around) (outer:List Env) (s:Shared) (H:Hp) (vs:List V) (Q:VK) (E:XK),Room k (A.deeper (envOfC qual (Ar st) s.heap.objs.size f cdv))->sp vs H Q E ->
   ∃ t,PSs (W2 CX0 P w K mg base N qual (Ar st) f cdv A outer s H E).nox (Bw st) t/\t { nx:=fun _ H'=>Q .non H',rt:=Q } (start N vs) H):FnOk P w K mg base CX0 (k+1) f fd ps sp:=by
 obtain ⟨oc,od,kV,doc,pm,an,cdv,ct,osl,rfl,lk,hcd⟩:=F.ex;refine xR lk hcd S len fun A outer s H vs Q E hr hsp=>?_
 obtain ⟨t,h,q⟩:=hbody cdv A outer s H vs Q E hr hsp;exact ⟨t,h.nox,q⟩
theorem rC {x qual:Str}{st:Stmt}{f:Addr}{oc:Value}{od an:Option Addr}{osl:Array (Option Value)}{kV doc pm cdv ct:Value}(l:K.lookup f=some ⟨oc,od,.func (PySem.W.fnOf x qual (Dq st) (Bw st) (Ar st) .none kV doc pm an cdv ct),osl⟩)
  (c:PySem.W.codeIn K cdv qual=true) (k:PySem.W.keepIn K (.ref f)=true):Fun K x qual st f (PySem.W.fnOf x qual (Dq st) (Bw st) (Ar st) .none kV doc pm an cdv ct):=⟨⟨oc,od,kV,doc,pm,an,cdv,ct,osl,rfl,l,c⟩,k⟩
end
section
variable {X:Cx}
end
theorem Pa {A B:Prop}(h:B):if false=true then A else B:=by
 rw [if_neg Bool.false_ne_true];exact h
theorem Pb {A B:Prop}(h:A):if true=true then A else B:=by
 rw [if_pos rfl];exact h
section
variable {κ:Type} [DecidableEq κ]
noncomputable def Il (kvs:List (κ×V)) (k:κ):Option V:=(kvs.find? fun kv=>decide (kv.1=k)).map (·.2)
noncomputable def putK (kvs:List (κ×V)) (k:κ) (v:V):List (κ×V) :=
 if (kvs.any fun kv=>decide (kv.1=k))=true then kvs.map (fun kv=>if kv.1=k then (kv.1,v) else kv) else kvs++[(k,v)]
theorem Im {p:κ×V}{r:List (κ×V)}{k:κ}(e:p.1=k):Il (p::r) k=some p.2:=by simp [Il,List.find?_cons,e]
theorem Io {p:κ×V}{r:List (κ×V)}{k:κ}(e:¬ p.1=k):Il (p::r) k=Il r k:=by simp [Il,List.find?_cons,e]
theorem Rb (k:κ):∀ kvs:List (κ×V),(kvs.any fun kv=>decide (kv.1=k))=(Il kvs k).isSome
 | []=>rfl
 | p::r=>by
  rw [List.any_cons]
  by_cases e:p.1=k
  ·simp only [Im e,decide_eq_true e,Bool.true_or,Option.isSome_some]
  ·rw [Io e,decide_eq_false e,Bool.false_or];exact Rb k r
theorem Gn (kvs:List (κ×V)) (k:κ) (v:V):(putK kvs k v).length<=kvs.length+1:=by
 unfold putK;split
 ·rw [List.length_map];omega
 ·rw [List.length_append,List.length_cons,List.length_nil];omega
theorem K1.isSome_eq {o:Option V}{u:Option Value}(r:K1 o u):o.isSome=u.isSome:=by
 cases o with
 | none=>cases u with
  | none=>rfl
  | some _=>exact (show False from r).elim
 | some _=>cases u with
  | none=>exact (show False from r).elim
  | some _=>rfl
theorem K1.getD {o:Option V}{u:Option Value}{d:V}{d':Value}(r:K1 o u) (rd:RelV d d'):RelV (o.getD d) (u.getD d'):=by
 cases o with
 | none=>cases u with
  | none=>exact rd
  | some _=>exact (show False from r).elim
 | some _=>cases u with
  | none=>exact (show False from r).elim
  | some _=>exact r
theorem KV.val {kvs:List (κ×V)}{vs:List (κ×Value)}(r:KV kvs vs) (k:κ):K1 (Il kvs k) (valueAt vs k):=by
 unfold KV at r
 induction r with
 | nil=>exact True.intro
 | @cons p q ps qs h t ih =>
  obtain ⟨h1,h2⟩:=h
  by_cases e:p.1=k
  ·have e':q.1=k:=h1.symm.trans e;have b:valueAt (q::qs) k=some q.2:=by simp [valueAt,List.find?_cons,e']
   rw [Im e,b];exact h2
  ·have e':¬ q.1=k:=fun z=>e (h1.trans z)
   have b:valueAt (q::qs) k=valueAt qs k:=by simp [valueAt,List.find?_cons,e']
   rw [Io e,b];exact ih
theorem KV.any {kvs:List (κ×V)}{vs:List (κ×Value)}(r:KV kvs vs) (k:κ):(kvs.any fun kv=>decide (kv.1=k))=vs.any fun kv=>decide (kv.1=k):=by
 unfold KV at r
 induction r with
 | nil=>rfl
 | cons h t ih=>rw [List.any_cons,List.any_cons,ih,h.1]
theorem KV.repl {kvs:List (κ×V)}{vs:List (κ×Value)}(r:KV kvs vs) (k:κ) {y:V}{u:Value}(ry:RelV y u) :
  KV (kvs.map fun kv=>if kv.1=k then (kv.1,y) else kv) (vs.map fun kv=>if kv.1=k then (kv.1,u) else kv):=by
 unfold KV at r ⊢
 induction r with
 | nil=>exact .nil
 | @cons p q ps qs h t ih =>
  rw [List.map_cons,List.map_cons];refine .cons ?_ ih;obtain ⟨h1,h2⟩:=h
  by_cases e:p.1=k
  ·rw [if_pos e,if_pos (h1.symm.trans e)];exact ⟨h1,ry⟩
  ·rw [if_neg e,if_neg (fun z=>e (h1.trans z))];exact ⟨h1,h2⟩
theorem KV.put {kvs:List (κ×V)}{vs:List (κ×Value)}(r:KV kvs vs) (k:κ) {y:V}{u:Value}(ry:RelV y u):KV (putK kvs k y) (stored vs k u):=by
 unfold putK stored;rw [r.any k]
 by_cases e:(vs.any fun kv=>decide (kv.1=k))=true
 ·rw [if_pos e,if_pos e];exact r.repl k ry
 ·rw [if_neg e,if_neg e];exact Paired.snoc r ⟨rfl,ry⟩
theorem KV.keys {kvs:List (κ×V)}{vs:List (κ×Value)}(r:KV kvs vs):kvs.map (·.1)=vs.map (·.1):=by
 unfold KV at r
 induction r with
 | nil=>rfl
 | cons h t ih=>rw [List.map_cons,List.map_cons,ih,h.1]
theorem KV.length {kvs:List (κ×V)}{vs:List (κ×Value)}(r:KV kvs vs):kvs.length=vs.length:=Paired.length r
end
theorem K8 {P:Program}{w:World}{k:Key}{u:Value}(r:RelV (kV k) u):(Az P w).is k u=true:=by
 cases k with
 | inl i=>obtain ⟨t,e⟩:=(show ∃ t,u=Value.int i t from r);subst e;exact Q0 P w i t
 | inr x=>obtain ⟨t,e⟩:=(show ∃ t,u=Value.str x t from r);subst e;exact Q5 P w x t
theorem Ny {P:Program}{w:World}:∀ {ks:List Key}{us:List Value},Vals (ks.map kV) us->ItemsAre (Az P w) ks us
 | [],_,r=>by rw [List.map_nil] at r;cases r;exact .nil
 | k::ks,_,r=>by
  rw [List.map_cons] at r;cases r with
  | cons h t=>exact .cons (K8 h) (Ny t)
noncomputable abbrev KT (H:Hp):List (List Key×V)->List (List Key×Addr×Value)->Prop:=Paired fun p q=>p.1=q.1/\H q.2.1=some (.tup (p.1.map kV))/\RelV p.2 q.2.2
theorem KT.val {H:Hp}{kvs:List (List Key×V)}{xs:List (List Key×Addr×Value)}(r:KT H kvs xs) (k:List Key):K1 (Il kvs k) ((atKey xs k).map (·.2)):=by
 induction r with
 | nil=>exact True.intro
 | @cons p q ps qs h t ih =>
  obtain ⟨h1,_,h2⟩:=h
  by_cases e:p.1=k
  ·have e':q.1=k:=h1.symm.trans e;have b:atKey (q::qs) k=some q.2:=by simp [atKey,List.find?_cons,e']
   rw [Im e,b];exact h2
  ·have e':¬ q.1=k:=fun z=>e (h1.trans z)
   have b:atKey (q::qs) k=atKey qs k:=by simp [atKey,List.find?_cons,e']
   rw [Io e,b];exact ih
theorem KT.repl {H:Hp}{kvs:List (List Key×V)}{xs:List (List Key×Addr×Value)}(r:KT H kvs xs) (k:List Key) {y:V}{u:Value}(ry:RelV y u) :
  KT H (kvs.map fun kv=>if kv.1=k then (kv.1,y) else kv) (xs.map (putAt k u)):=by
 induction r with
 | nil=>exact .nil
 | @cons p q ps qs h t ih =>
  rw [List.map_cons,List.map_cons];refine .cons ?_ ih;obtain ⟨h1,h2,h3⟩:=h;unfold putAt
  by_cases e:p.1=k
  ·rw [if_pos e,if_pos (h1.symm.trans e)];exact ⟨h1,h2,ry⟩
  ·rw [if_neg e,if_neg (fun z=>e (h1.trans z))];exact ⟨h1,h2,h3⟩
theorem KT.put {H:Hp}{kvs:List (List Key×V)}{xs:List (List Key×Addr×Value)}(r:KT H kvs xs) (k:List Key) {b:Addr}{y:V}{u:Value}(hb:H b=some (.tup (k.map kV))) (ry:RelV y u) :
  KT H (putK kvs k y) (storedH xs k b u):=by
 have e:(kvs.any fun kv=>decide (kv.1=k))=(atKey xs k).isSome:=by
  rw [Rb,(r.val k).isSome_eq,Option.isSome_map]
 unfold putK storedH;rw [e]
 by_cases q:(atKey xs k).isSome=true
 ·rw [if_pos q,if_pos q];exact r.repl k ry
 ·rw [if_neg q,if_neg q];exact Paired.snoc r ⟨rfl,hb,ry⟩
theorem KT.keeps {H H':Hp}{kvs:List (List Key×V)}{xs:List (List Key×Addr×Value)}(r:KT H kvs xs) (ht:∀ b ys,H b=some (.tup ys)->H' b=some (.tup ys)):KT H' kvs xs :=
 Paired.mapP r fun _ _ z=>⟨z.1,ht _ _ z.2.1,z.2.2⟩
section
variable {P:Program}{w:World}{H:Hp}{h:Heap}{a:Addr}
theorem oE {u:HO}(ok:HOk P w H h) (e:Rd H a u):Br P w H h a u:=e.ok ok
theorem Rc {kvs:List (Key×V)}(ok:HOk P w H h) (e:Rd H a (.dK kvs)):kvs.length<=sizeLine/\(a==sysModules)=false/\∃ vs,KV kvs vs/\h.DictOf (Az P w) a vs :=
 show Br P w H h a (.dK kvs) from oE ok e
theorem Ho {kvs:List (Key×V)}(ok:HOk P w H h) (e:H a=some (.dK kvs)):kvs.length<=sizeLine/\(a==sysModules)=false/\∃ vs,KV kvs vs/\h.DictOf (Az P w) a vs:=Rc ok (.inl e)
theorem K9 {ks:List Key}(ok:HOk P w H h) (e:H a=some (.tup (ks.map kV))):(tupleKind (Az P w)).is h ks a:=by
 obtain ⟨_,its,r,o,h1,h2,_,n,h3⟩:=(show Br P w H h a (.tup (ks.map kV)) from ok a _ e);exact ⟨o,its.toArray,n,h1,h2,h3,by simpa using Ny r⟩
theorem Vl {kvs:List (List Key×V)}(ok:HOk P w H h) (e:Rd H a (.dT kvs)):kvs.length<=sizeLine/\(a==sysModules)=false /\
  ∃ xs,KT H kvs xs/\h.DictOfH (tupleKind (Az P w)) a xs:=by
 obtain ⟨z,y,xs,r,o,es,ep,h1,h2,h3,h4,h5⟩:=(show Br P w H h a (.dT kvs) from oE ok e);refine ⟨z,y,xs,r,o,es,ep,h1,h2,h3,h4,fun x hx=>?_,h5⟩;have all:∀ {l:List (List Key×V)} {m:List (List Key×Addr×Value)},KT H l m->∀ x∈m,(tupleKind (Az P w)).is h x.1 x.2.1:=by
  intro l m q
  induction q with
  | nil=>intro x hx;exact nomatch hx
  | @cons p q ps qs hq t ih =>
   intro x hx;rcases List.mem_cons.mp hx with e|hx
   ·subst e;exact K9 ok (by rw [← hq.1];exact hq.2.1)
   ·exact ih x hx
 exact all r x hx
theorem yD {kvs:List (List Key×V)}(ok:HOk P w H h) (e:H a=some (.dT kvs)):kvs.length<=sizeLine/\(a==sysModules)=false /\
  ∃ xs,KT H kvs xs/\h.DictOfH (tupleKind (Az P w)) a xs:=Vl ok (.inl e)
end
noncomputable def Rf (H:Hp) (a:Addr) (y:V) (r:Option V):Prop :=
 (∃ kvs k,Rd H a (.dK kvs)/\y=kV k/\r=Il kvs k)\/∃ kvs k b,Rd H a (.dT kvs)/\y=.ref b/\H b=some (.tup (k.map kV))/\r=Il kvs k
noncomputable def iZ (H:Hp) (a:Addr) (y v:V) (H':Hp):Prop :=
 (∃ kvs k,H a=some (.dK kvs)/\y=kV k/\kvs.length < sizeLine/\H'=upd H a (.dK (putK kvs k v))) \/
 ∃ kvs k b,H a=some (.dT kvs)/\y=.ref b/\H b=some (.tup (k.map kV))/\kvs.length < sizeLine/\H'=upd H a (.dT (putK kvs k v))
theorem Rf.k {H:Hp}{a:Addr}{kvs:List (Key×V)}{k:Key}(e:H a=some (.dK kvs)):Rf H a (kV k) (Il kvs k):=.inl ⟨kvs,k,.inl e,rfl,rfl⟩
theorem iZ.k {H:Hp}{a:Addr}{kvs:List (Key×V)}{k:Key}{v:V}(e:H a=some (.dK kvs)) (hl:kvs.length < sizeLine):iZ H a (kV k) v (upd H a (.dK (putK kvs k v))):=.inl ⟨kvs,k,e,rfl,hl,rfl⟩
section
variable {X:Cx}{pins:List (Addr×Obj)}{σ:St}{H:Hp}{s:Shared}{a:Addr}{y v:V}{u r:Value}{o:Option V}{A:Around}{E:Value->Shared->Prop}
theorem Inv.big (I:Inv X pins σ H s):sysModules < s.heap.objs.size:=by
 have h:mainGlobals < s.heap.objs.size:=(I.mod.glob.keeps I.bk).lt;exact Nat.lt_trans (by decide) h
theorem Aa2 {Q:Value->Shared->Prop}(hu:A.units+1 < cLine) (I:Inv X pins σ H s) (g:Rf H a y o) (ry:RelV y u) (h:∀ s',Inv X pins σ H s'->Q (.bool o.isSome) s') :
  wpAny (model X.prog X.w) A (compareOp .In u (.ref a)) Q E s:=by
 rcases g with ⟨kvs,k,e,ey,l⟩|⟨kvs,k,b,e,ey,eb,l⟩
 ·subst ey;obtain ⟨z,hd,vs,rel,dd⟩:=Rc I.hok e;refine wpAny_in_of (K8 ry) hd dd.mapOf ?_;rw [← (rel.val k).isSome_eq,← l];exact h _ (I.tok _)
 ·subst ey;cases (show u=Value.ref b from ry);obtain ⟨z,hd,xs,rel,dd⟩:=Vl I.hok e;refine wpAny_in_heap (tupleKind_room_in1 hu) (K9 I.hok eb) hd dd ?_;have q:=(rel.val k).isSome_eq;rw [Option.isSome_map] at q;rw [← q,← l];exact h _ (I.tok _)
theorem jA {Q:Value->Shared->Prop}(hu:A.units+1 < cLine) (I:Inv X pins σ H s) (g:Rf H a y o) (ry:RelV y u) (h:∀ s',Inv X pins σ H s'->Q (.bool (!o.isSome)) s') :
  wpAny (model X.prog X.w) A (compareOp .NotIn u (.ref a)) Q E s:=by
 rcases g with ⟨kvs,k,e,ey,l⟩|⟨kvs,k,b,e,ey,eb,l⟩
 ·subst ey;obtain ⟨z,hd,vs,rel,dd⟩:=Rc I.hok e;refine wpAny_notIn_of (K8 ry) hd dd.mapOf ?_;rw [← (rel.val k).isSome_eq,← l];exact h _ (I.tok _)
 ·subst ey;cases (show u=Value.ref b from ry);obtain ⟨z,hd,xs,rel,dd⟩:=Vl I.hok e;refine wpAny_notIn_heap (tupleKind_room_in1 hu) (K9 I.hok eb) hd dd ?_;have q:=(rel.val k).isSome_eq;rw [Option.isSome_map] at q;rw [← q,← l];exact h _ (I.tok _)
theorem Fw {h':Heap}{t':Nat}{ob:HO}(I:Inv X pins σ H s) (mu:Mut (H a)) (hs:Heap.SameBut a s.heap h') (he:∃ q,h'.get? a=some q) (new:Br X.prog X.w (upd H a ob) h' a ob) :
  Inv X pins σ (upd H a ob) { s with heap:=h',toks:=t' } :=
 I.write (x:=a) (e:=a) mu (.inl rfl) (fun b q hb z=>(hs.2 b hb).trans z) he new
theorem Zc {P:Program}{w:World}{H':Hp}{h':Heap}{kvs:List (Key×V)}{vs:List (Key×Value)}(z:kvs.length<=sizeLine) (hd:(a==sysModules)=false) (rel:KV kvs vs) (dd:h'.DictOf (Az P w) a vs) :
  Br P w H' h' a (.dK kvs):=⟨z,hd,vs,rel,dd⟩
theorem W9 {H':Hp}{Q:Unit->Shared->Prop}(hu:A.units+1 < cLine) (I:Inv X pins σ H s) (g:iZ H a y v H') (ry:RelV y u) (rv:RelV v r) (h:∀ s',Inv X pins σ H' s'->Q () s') :
  wpAny (model X.prog X.w) A (setItem (.ref a) u r) Q E s:=by
 rcases g with ⟨kvs,k,e,ey,l,eH⟩|⟨kvs,k,b,e,ey,eb,l,eH⟩
 ·subst ey eH;obtain ⟨z,hd,vs,rel,dd⟩:=Ho I.hok e;have hz:vs.length<=sizeLine:=by rw [← rel.length];exact z
  have hl:(putK kvs k v).length<=sizeLine:=by have:=Gn kvs k v;omega
  refine wpAny_setItem_pairs (hsz:=hz) (K8 ry) dd fun h' dd' hs=>h _ ?_
  have he:∃ q,h'.get? a=some q:=let ⟨q,_,_,hq,_⟩:=dd';⟨q,hq⟩;exact Fw I (by rw [e];exact True.intro) hs he (Zc hl hd (rel.put k rv) dd')
 ·subst ey eH;cases (show u=Value.ref b from ry);obtain ⟨z,hd,xs,rel,dd⟩:=yD I.hok e;have hz:xs.length<=sizeLine:=by rw [← Paired.length rel];exact z
  have hl:(putK kvs k v).length<=sizeLine:=by have:=Gn kvs k v;omega
  refine wpAny_setItem_heap (hsz:=hz) (tupleKind_room_in1 hu) (K9 I.hok eb) dd fun h' dd' hs=>h _ ?_
  obtain ⟨q,es,ep,hq,h2,h3,h4,_,h5⟩:=dd';refine Fw I (by rw [e];exact True.intro) hs ⟨q,hq⟩ ⟨hl,hd,_,(rel.put k eb rv).keeps fun c ys ec=>?_,q,es,ep,hq,h2,h3,h4,h5⟩;rw [Ac (Gm ec e (fun z=>nomatch z))];exact ec
end
section
variable {X:Cx}{pins:List (Addr×Obj)}{σ:St}{H:Hp}{s:Shared}{a:Addr}{kvs:List (Key×V)}{k:Key}{u:Value}{A:Around}{E:Value->Shared->Prop}
theorem yE {Q:Value->Shared->Prop}(I:Inv X pins σ H s) (e:Rd H a (.dK kvs)) (h:∀ t s',Inv X pins σ H s'->Q (.int kvs.length t) s'):wpAny (model X.prog X.w) A (call (.builtin "len") [.ref a]) Q E s:=by
 obtain ⟨z,hd,vs,rel,dd⟩:=Rc I.hok e;refine call_len_dict hd dd (by rw [← rel.length];rw [sizeLine_eq] at z;omega) ?_;rw [← rel.length];exact h _ _ (I.tok _)
end
section
variable {X:Cx}{o i e value:Expr}{pos pos' tpos:Pos}{td ty tv:TE}
end
theorem Rg {P:Program}{w:World}{H:Hp}(h:Heap) (hb:sysModules < h.objs.size):Br P w H (h.push { cls:=.type "dict",data:=.dict #[] }) h.objs.size (.dK []) :=
 ⟨Nat.zero_le _,beq_eq_false_iff_ne.mpr (Ne.symm (Nat.ne_of_lt hb)),[],.nil,Heap.DictOf.new h⟩
noncomputable def rE:TE:=fun _ H Q=>∀ p,H p=none->Q (.ref p) (upd H p (.dK []))
section
variable {X:Cx}{pos:Pos}
theorem Zd:PE X (.Dict [] [] pos) rE:=fun pins s σ H Q I h =>
 wpAny_Dict_empty ⟨.ref s.heap.objs.size,_,I.laid (a:=s.heap.objs.size) (o:=.dK []) (t':=s.toks) (fun _ _ q=>Heap.get?_push_of_some _ q) (Nat.le_refl _) (Rg s.heap I.big),rfl,h _ (I.hok.fresh (Nat.le_refl _))⟩
end
section
variable {X:Cx}{pins:List (Addr×Obj)}{σ:St}{H:Hp}{s:Shared}{a:Addr}{y d:V}{u r:Value}{o:Option V}{A:Around}{E:Value->Shared->Prop}
theorem rF {Q:Value->Shared->Prop}(hu:A.units+1 < cLine) (I:Inv X pins σ H s) (g:Rf H a y o) (ry:RelV y u) (rd:RelV d r) (h:∀ w' s',Inv X pins σ H s'->RelV (o.getD d) w'->Q w' s') :
  wpAny (model X.prog X.w) A (call (.builtin "dict.get") [.ref a,u,r]) Q E s:=by
 rcases g with ⟨kvs,k,e,ey,l⟩|⟨kvs,k,b,e,ey,eb,l⟩
 ·subst ey;obtain ⟨z,hd,vs,rel,dd⟩:=Rc I.hok e;refine call_meetsIn PySem.F.slot_dict_get dd.typeIs PySem.F.entry_dict_get (PySem.F.args_dict_get_3 _ _ _) (meets_dict_get_default (Az X.prog X.w) a (K8 ry) hd r) ⟨_,dd.mapOf,h _ _ (I.tok _) ?_⟩;rw [l];exact (rel.val k).getD rd
 ·subst ey;cases (show u=Value.ref b from ry);obtain ⟨z,hd,xs,rel,dd⟩:=Vl I.hok e;refine call_meetsIn PySem.F.slot_dict_get dd.typeIs PySem.F.entry_dict_get (PySem.F.args_dict_get_3 _ _ _) (meetsH_dict_get_default (tupleKind (Az X.prog X.w)) a b hd r) ⟨tupleKind_room_in1 hu,k,xs,K9 I.hok eb,dd,h _ _ (I.tok _) ?_⟩;rw [l];exact (rel.val k).getD rd
end
section
variable {X:Cx}{o e f:Expr}{apos cpos:Pos}{td ty tx:TE}
end
section
variable {X:Cx}{pins:List (Addr×Obj)}{σ:St}{H:Hp}{s:Shared}{a:Addr}{kvs:List (Key×V)}{A:Around}{E:Value->Shared->Prop}
end
section
variable {X:Cx}{pins:List (Addr×Obj)}{σ:St}{H:Hp}{s:Shared}{a:Addr}{y:V}{u:Value}{A:Around}{E:Value->Shared->Prop}
end
theorem La {α β:Type}(g:α->β->β):∀ (l:List α) (f:α->β->Sem (ForInStep β)) (c:β),(∀ x∈l,∀ c,f x c=pure (.yield (g x c)))->forIn l c f=pure (l.foldl (fun c x=>g x c) c)
 | [],f,c,_=>by rw [List.forIn_nil];rfl
 | x::r,f,c,h=>by
  rw [List.forIn_cons,h x List.mem_cons_self];show (forIn r (g x c) f)=_;rw [La g r f (g x c) fun y hy=>h y (List.mem_cons_of_mem _ hy)];rfl
noncomputable def J5 (env:Env) (x:Str×NameKind) (cs:List (Str×Addr)):List (Str×Addr):=if x.2==.free then (x.1,(env.cells.lookup x.1).getD 0)::cs else cs
noncomputable def En (env:Env) (names:List (Str×NameKind)):List (Str×Addr):=names.foldl (fun c x=>J5 env x c) []
theorem Hq {scope:Scope}{env:Env}(h:∀ x∈scope.names,x.2=.free->∃ c,env.cells.lookup x.1=some c):closureFor scope env=pure (En env scope.names):=by
 unfold closureFor En;dsimp only;rw [La (J5 env)]
 ·rfl
 ·intro x hx c;obtain ⟨n,k⟩:=x;dsimp only;unfold J5
  by_cases e:(k==NameKind.free)=true
  ·obtain ⟨a,ha⟩:=h _ hx (beq_iff_eq.mp e);have ha':List.lookup n env.cells=some a:=ha;dsimp only;rw [if_pos e,if_pos e];unfold cellOf;rw [ha'];rfl
  ·dsimp only;rw [if_neg e,if_neg e]
theorem Hz {env:Env}:∀ (names:List (Str×NameKind)) (acc:List (Str×Addr)) (x:Str) (c:Addr),(x,c)∈names.foldl (fun c x=>J5 env x c) acc->(x,c)∈acc\/((x,NameKind.free)∈names/\c=(env.cells.lookup x).getD 0)
 | [],acc,x,c,h=>.inl h
 | (n,k)::r,acc,x,c,h=>by
  rcases Hz r _ x c h with q|⟨q1,q2⟩
  ·unfold J5 at q;dsimp only at q;split at q
   ·rename_i e;have e:=beq_iff_eq.mp e;rcases List.mem_cons.mp q with q|q
    ·cases q;exact .inr ⟨by rw [e];exact List.mem_cons_self,rfl⟩
    ·exact .inl q
   ·exact .inl q
  ·exact .inr ⟨List.mem_cons_of_mem _ q1,q2⟩
theorem Lb {env:Env}:∀ (names:List (Str×NameKind)) (acc:List (Str×Addr)) (x:Str),(acc.lookup x).isSome=true\/(x,NameKind.free)∈names->((names.foldl (fun c x=>J5 env x c) acc).lookup x).isSome=true
 | [],acc,x,h=>by
  rcases h with h|h
  ·exact h
  ·exact absurd h (by simp)
 | (n,k)::r,acc,x,h=>by
  refine Lb r _ x ?_;unfold J5;rcases h with h|h
  ·left;dsimp only;split
   ·rw [List.lookup_cons];split
    ·rfl
    ·exact h
   ·exact h
  ·rcases List.mem_cons.mp h with h|h
   ·cases h;left;dsimp only;rw [if_pos (by rfl),List.lookup_cons];simp
   ·exact .inr h
theorem Pg {env:Env}{names:List (Str×NameKind)}{x:Str}{c:Addr}(h:(En env names).lookup x=some c):(x,NameKind.free)∈names/\c=(env.cells.lookup x).getD 0:=by
 rcases Hz names [] x c (PySem.mem_of_lookup h) with q|q
 ·exact absurd q (by simp)
 ·exact q
theorem Nz {env:Env}{names:List (Str×NameKind)}{x:Str}(h:(x,NameKind.free)∈names):(En env names).lookup x=some ((env.cells.lookup x).getD 0):=by
 obtain ⟨c,e⟩:=Option.isSome_iff_exists.mp (Lb (env:=env) names [] x (.inr h));rw [show En env names=names.foldl (fun c x=>J5 env x c) [] from rfl,e,(Pg e).2]
theorem Dh:∀ (names:List (Str×NameKind)) (n:Nat) (acc:List (Str×Addr)) (x:Str) (c:Addr),(x,c)∈cellsFrom n names acc->(x,c)∈acc\/(n<=c/\(x,NameKind.cell)∈names)
 | [],_,_,_,_,h=>.inl h
 | (y,k)::r,n,acc,x,c,h=>by
  unfold cellsFrom at h;split at h
  ·rename_i e;have e:=beq_iff_eq.mp e;rcases Dh r (n+1) _ x c h with q|⟨q1,q2⟩
   ·rcases List.mem_cons.mp q with q|q
    ·cases q;exact .inr ⟨Nat.le_refl _,by rw [e];exact List.mem_cons_self⟩
    ·exact .inl q
   ·exact .inr ⟨by omega,List.mem_cons_of_mem _ q2⟩
  ·rcases Dh r n acc x c h with q|⟨q1,q2⟩
   ·exact .inl q
   ·exact .inr ⟨q1,List.mem_cons_of_mem _ q2⟩
theorem Di:∀ (names:List (Str×NameKind)) (n lo:Nat) (acc:List (Str×Addr)) (x:Str) (c:Addr),lo<=n->((x,NameKind.cell)∈names\/∀ c',acc.lookup x=some c'->lo<=c')->(cellsFrom n names acc).lookup x=some c->lo<=c
 | [],_,_,acc,x,c,_,h,e=>by
  rcases h with h|h
  ·exact absurd h (by simp)
  ·exact h c e
 | (y,k)::r,n,lo,acc,x,c,hl,h,e=>by
  unfold cellsFrom at e;split at e
  ·rename_i ek;refine Di r (n+1) lo _ x c (by omega) ?_ e;rcases h with h|h
   ·rcases List.mem_cons.mp h with h|h
    ·cases h;right;intro c' hc;rw [List.lookup_cons] at hc;rw [beq_self_eq_true] at hc;cases hc;exact hl
    ·exact .inl h
   ·right;intro c' hc;rw [List.lookup_cons] at hc;split at hc
    ·cases hc;omega
    ·exact h c' hc
  ·rename_i ek;refine Di r n lo acc x c hl ?_ e;rcases h with h|h
   ·rcases List.mem_cons.mp h with h|h
    ·cases h;exact absurd rfl ek
    ·exact .inl h
   ·exact .inr h
theorem Ep:∀ (names:List (Str×NameKind)) (n:Nat) (acc:List (Str×Addr)),(∀ x y c,(x,c)∈acc->(y,c)∈acc->x=y)->(∀ x c,(x,c)∈acc->c < n) ->
  ∀ x y c,(x,c)∈cellsFrom n names acc->(y,c)∈cellsFrom n names acc->x=y
 | [],_,_,h,_=>h
 | (z,k)::r,n,acc,h,hb=>by
  unfold cellsFrom;split
  ·refine Ep r (n+1) _ (fun x y c hx hy=>?_) fun x c hx=>?_
   ·rcases List.mem_cons.mp hx with hx | hx <;> rcases List.mem_cons.mp hy with hy|hy
    ·cases hx;cases hy;rfl
    ·cases hx;exact absurd (hb _ _ hy) (Nat.lt_irrefl _)
    ·cases hy;exact absurd (hb _ _ hx) (Nat.lt_irrefl _)
    ·exact h x y c hx hy
   ·rcases List.mem_cons.mp hx with hx|hx
    ·cases hx;exact Nat.lt_succ_self _
    ·exact Nat.lt_succ_of_lt (hb x c hx)
  ·exact Ep r n acc h hb
theorem Dw:∀ (names:List (Str×NameKind)) (h:Heap) (acc:List (Str×Addr)) (x:Str) (c:Addr),(∀ x c,(x,c)∈acc->∃ v,h.IsCell c v)->(x,c)∈cellsFrom h.objs.size names acc->∃ v,(pushCells h names).IsCell c v
 | [],h,acc,x,c,hb,e=>hb x c e
 | (y,k)::r,h,acc,x,c,hb,e=>by
  unfold cellsFrom at e;unfold pushCells;split at e
  ·rename_i ek;rw [if_pos ek];refine Dw r _ ((y,h.objs.size)::acc) x c (fun x c hx=>?_) (by rw [Heap.size_push];exact e);rcases List.mem_cons.mp hx with hx|hx
   ·cases hx;exact ⟨none,_,Heap.get?_push_size _ rfl,rfl⟩
   ·obtain ⟨v,q⟩:=hb x c hx;exact ⟨v,q.keeps fun b o e=>Heap.get?_push_of_some _ e⟩
  ·rename_i ek;rw [if_neg ek];exact Dw r h acc x c hb e
theorem Dy:∀ (names:List (Str×NameKind)) (h:Heap),h.objs.size<=(pushCells h names).objs.size
 | [],h=>Nat.le_refl _
 | (y,k)::r,h=>by
  unfold pushCells;split
  ·refine Nat.le_trans ?_ (Dy r _);rw [Heap.size_push];omega
  ·exact Dy r h
theorem Rh {M:Model}{A:Around}{E:Value->Shared->Prop}{s:Shared}{scope:Scope}{globals:Addr}{cl:List (Str×Addr)}{qual:Str}{env:Env}{Q:Env->Shared->Prop}
  (hQ:Q (newEnv scope s.heap.objs.size globals (cellsFrom (s.heap.objs.size+1) scope.names cl) qual none .none (some env) builtinsNs) { s with heap:=pushCells (s.heap.push { cls:=.type "dict",data:=.dict #[] }) scope.names }) :
  wpAny M A (newFunctionEnv scope globals cl [] qual none .none (some env)) Q E s:=by
 simp only [newFunctionEnv,Option.isSome_some,if_true];refine wpAny_bind (wpAny_alloc ?_);refine wpAny_bind (wpAny_layCells _ (fun name kind cells=>by cases hkc:kind==NameKind.cell <;> simp [hkc]) _ _ _ _ ?_)
 rw [show ({ s with heap:=s.heap.push { cls:=.type "dict",data:=.dict #[] } }:Shared).heap.objs.size=s.heap.objs.size+1 from Heap.size_push ..];rw [List.forIn_nil];exact wpAny_bind (wpAny_pure (wpAny_pure hQ))
theorem Dj {α:Type}:∀ {l:List (Str×α)}{n:Str}{c:α},(l.map (·.1)).Nodup->(n,c)∈l->l.lookup n=some c
 | [],_,_,_,h=>absurd h (by simp)
 | (k,v)::r,n,c,nd,h=>by
  rw [List.map_cons,List.nodup_cons] at nd;rw [List.lookup_cons];rcases List.mem_cons.mp h with q|q
  ·cases q;rw [beq_self_eq_true]
  ·have:(n==k)=false:=by
    rw [beq_eq_false_iff_ne];intro e;subst e;exact nd.1 (List.mem_map.mpr ⟨(n,c),q,rfl⟩)
   rw [this];exact Dj nd.2 q
theorem Dz {env:Env}(scope:Scope) (x:Str):(relabel scope env).names.lookup x=(scope.names.lookup x).map fun k=>if (k==.free&&env.scope.kind==.function&&env.kindOf x==some .cell) then .cell else k:=by
 show (scope.names.map _).lookup x=_
 induction scope.names with
 | nil=>rfl
 | cons a r ih =>
  obtain ⟨n,k⟩:=a;rw [List.map_cons];dsimp only;rw [List.lookup_cons (b:=k)]
  by_cases e:(x==n)=true
  ·rw [e];have e':=beq_iff_eq.mp e;subst e';dsimp only;split
   ·rename_i hc;rw [List.lookup_cons,e];simp only [Option.map_some,hc,if_true]
   ·rename_i hc;rw [List.lookup_cons,e];rw [Option.map_some,if_neg hc]
  ·have e2:(x==n)=false:=by simpa using e
   rw [e2];dsimp only;split
   ·rw [List.lookup_cons,e2];exact ih
   ·rw [List.lookup_cons,e2];exact ih
structure CompOk (X:Cx) (scope:Scope):Prop where
 kind:scope.kind=.function
 nd:(scope.names.map (·.1)).Nodup
 fr:∀ x∈scope.names,x.2=.free->X.env.kindOf x.1=some .cell\/X.env.kindOf x.1=some .free
noncomputable def Bj (X:Cx) (pins:List (Addr×Obj)) (N':List Str) (scope:Scope) (C:Addr) (cells:List (Str×Addr)) (s₀:Shared) (H₀:Hp) (fp:List Addr):Cx where
 prog:=X.prog
 w:=X.w
 K:=X.K
 mg:=X.mg
 base:=X.base
 A:=X.A
 N:=N'
 s₀:=s₀
 H₀:=H₀
 env:={ scope:=relabel scope X.env,locals:=C,globals:=X.env.globals,cells:=cells,qual:=X.env.qual,func:=none,code:=X.env.code,frame:=X.env.frame,builtins:=X.env.builtins }
 outer:=X.stack
 stack:=X.stack
 ex:=fp
 fn:=fun x=>decide ((x,NameKind.cell)∈scope.names)
 calm:=X.calm
 pn:=X.pn++pins
 xe:=fun _ _=>False
noncomputable def Cap (X:Cx) (N':List Str) (scope:Scope) (σ σ0:St):Prop:=σ0.length=N'.length/\∀ (i:Nat) (x:Str) (v:V),N'[i]?=some x->σ0[i]?=some (some v) ->
 scope.names.lookup x=some .free/\∃ j:Nat,X.N[j]?=some x/\σ[j]?=some (some v)
noncomputable abbrev Am (its:List Value) (n:Nat):Obj:={ cls:=.type "list",data:=.seq its.toArray n }
section
variable {X:Cx}{pins:List (Addr×Obj)}{σ:St}{H:Hp}{s:Shared}
theorem T3 {N':List Str}{scope:Scope}{fp:List Addr}{σ0:St}(I:Inv X pins σ H s) (S:CompOk X scope) (hf:∀ b∈fp,Ik X pins H b) (hb:∀ b∈fp,∃ o,s.heap.get? b=some o) (hσ:Cap X N' scope σ σ0) :
    Inv (Bj X pins N' scope (s.heap.objs.size+1) (cellsFrom (s.heap.objs.size+1+1) scope.names (En X.env scope.names)) s H fp) [(s.heap.objs.size,Am [] 0)] σ0 H
      { s with heap:=pushCells ((s.heap.push (Am [] 0)).push { cls:=.type "dict",data:=.dict #[] }) scope.names }:=by
  have sz1:(s.heap.push (Am [] 0)).objs.size=s.heap.objs.size+1:=Heap.size_push ..
  have sz2:((s.heap.push (Am [] 0)).push { cls:=.type "dict",data:=.dict #[] }).objs.size=s.heap.objs.size+1+1:=by rw [Heap.size_push,sz1]
  have keep:∀ b o,s.heap.get? b=some o->(pushCells ((s.heap.push (Am [] 0)).push { cls:=.type "dict",data:=.dict #[] }) scope.names).get? b=some o:=fun b o e=>pushCells_keeps _ _ b o (Heap.get?_push_of_some _ (Heap.get?_push_of_some _ e))
  have capt:∀ x c,(x,c)∈En X.env scope.names->X.env.cells.lookup x=some c:=fun x c h=>by
    rcases Hz scope.names [] x c h with q|⟨q1,q2⟩
    · exact absurd q (by simp)
    · obtain ⟨c',e⟩:=I.ok.has x (S.fr _ q1 rfl);rw [e] at q2;rw [e,q2];rfl
  have cells:∀ x c,(cellsFrom (s.heap.objs.size+1+1) scope.names (En X.env scope.names)).lookup x=some c->X.env.cells.lookup x=some c\/s.heap.objs.size+1+1<=c:=fun x c h=>by
    rcases Dh _ _ _ x c (PySem.mem_of_lookup h) with q|⟨q,_⟩
    · exact .inl (capt x c q)
    · exact .inr q
  have stk:∀ b∈frs X.stack,b < s.heap.objs.size:=fun b hb=>by
    rcases Nat.lt_or_ge b s.heap.objs.size with z|z
    · exact z
    · rcases List.mem_cons.mp (I.stkSub b hb) with q|q
      · rw [q];exact I.lt
      · exact absurd q (I.nofs z)
  have fpb:∀ b∈fp,b < s.heap.objs.size:=fun b h=>let ⟨o,e⟩:=hb b h;Heap.lt_size e
  refine ⟨⟨I.ok.mod,S.kind,I.ok.glob,I.ok.blt,Nat.le_succ _,fun x y c h1 h2=>?_,fun x hx=>?_,fun x c hx h=>?_,I.ok.hd,I.ok.frames,.inl rfl,fun b hb=>⟨?_,fun x c h=>?_⟩,I.bs,Nat.le_trans I.ok.bsz I.sz,fun b o h z=>?_,fun b hb z=>?_,I.stack,I.stkFree⟩,
    rfl,I.bare,Un.kept keep,⟨fun _=>none,?_,fun i x v h1 h2 h3=>?_⟩,fun x c h=>?_,I.hok.fresh (Nat.le_succ _),fun x c h=>?_,fun p hp=>?_,I.hok.kept keep,hσ.1⟩
  · refine Ep scope.names (s.heap.objs.size+1+1) (En X.env scope.names) (fun x y c h1 h2=>I.ok.inj x y c (capt x c h1) (capt y c h2)) (fun x c h=>?_) x y c (PySem.mem_of_lookup h1) (PySem.mem_of_lookup h2);obtain ⟨v,q⟩:=I.cell x c (capt x c h);exact Nat.lt_succ_of_lt (Nat.lt_succ_of_lt q.lt)
  · have hx:(relabel scope X.env).names.lookup x=some .cell\/(relabel scope X.env).names.lookup x=some .free:=hx;rw [Dz] at hx;refine Option.isSome_iff_exists.mp (PySem.W.cellsFrom_some scope.names _ _ ?_);cases e:scope.names.lookup x with
    | none=>rw [e] at hx;rcases hx with h | h <;> cases h
    | some k =>
      cases k with
      | cell=>exact .inl rfl
      | free=>right;rw [Nz (PySem.mem_of_lookup e)];rfl
      | «local»=>rw [e] at hx;rcases hx with h | h <;> cases h
      | globalExplicit=>rw [e] at hx;rcases hx with h | h <;> cases h
      | globalImplicit=>rw [e] at hx;rcases hx with h | h <;> cases h
  · exact Nat.le_trans (Nat.le_succ_of_le (Nat.le_succ _)) (Di scope.names _ (s.heap.objs.size+1+1) _ x c (Nat.le_refl _) (.inl (of_decide_eq_true hx)) h)
  · exact Nat.ne_of_lt (Nat.lt_succ_of_lt (fpb b hb))
  · rcases cells x c h with q|q
    · exact (hf b hb).2.2.2.2.1 x c q
    · exact Nat.ne_of_gt (Nat.lt_of_lt_of_le (fpb b hb) (by omega))
  · rcases (hf b z).2.2.2.1 with q|q
    · exact I.ok.noex b o h q
    · exact absurd (Nat.lt_of_lt_of_le (Heap.lt_size h) (Nat.le_trans I.ok.bsz q)) (Nat.lt_irrefl _)
  · rcases List.mem_cons.mp (I.stkSub b z) with q|q
    · exact (hf b hb).2.1 q
    · exact (hf b hb).2.2.1 q
  · show (pushCells _ _).Ns (s.heap.objs.size+1) _
    have n:=(Heap.Ns.new (s.heap.push (Am [] 0)) (.type "dict")).keeps (pushCells_keeps scope.names _);rw [sz1] at n;exact n
  · obtain ⟨e1,j,e2,e3⟩:=hσ.2 i x v h1 h2;obtain ⟨m,hn,hl⟩:=I.loc;have fr:=S.fr _ (PySem.mem_of_lookup e1) rfl;have vis:Vis X.env.scope x:=by
      rcases fr with q|q
      · exact .inr (.inl q)
      · exact .inr (.inr q)
    obtain ⟨u,r,l⟩:=hl j x v e2 e3 vis;refine ⟨u,r,.inr ⟨?_,?_⟩⟩
    · show (relabel scope X.env).names.lookup x=some .cell\/(relabel scope X.env).names.lookup x=some .free;rw [Dz,e1];simp only [Option.map_some];split
      · exact .inl rfl
      · exact .inr rfl
    · rcases l with ⟨k,_⟩|⟨_,c,ec,hc⟩
      · rcases fr with q | q <;> · rw [k] at q;cases q
      · refine ⟨c,?_,hc.keeps keep⟩;obtain ⟨c2,e⟩:=Option.isSome_iff_exists.mp (PySem.W.cellsFrom_some (x:=x) scope.names (s.heap.objs.size+1+1) (En X.env scope.names) (.inr (by rw [Nz (PySem.mem_of_lookup e1)];rfl)));show (cellsFrom _ _ _).lookup x=some c;rw [e];rcases Dh _ _ _ x c2 (PySem.mem_of_lookup e) with q|⟨_,q⟩
        · rw [capt x c2 q] at ec;exact ec
        · rw [Dj S.nd q] at e1;cases e1
  · refine Dw scope.names ((s.heap.push (Am [] 0)).push { cls:=.type "dict",data:=.dict #[] }) (En X.env scope.names) x c (fun x c h=>?_) ?_
    · obtain ⟨v,q⟩:=I.cell x c (capt x c h);exact ⟨v,q.keeps fun b o e=>Heap.get?_push_of_some _ (Heap.get?_push_of_some _ e)⟩
    · rw [sz2];exact PySem.mem_of_lookup h
  · rcases cells x c h with q|q
    · rcases I.freeC x c q with fc|⟨_,oz,uz,fz⟩
      · exact .inl fc
      · refine .inr ⟨Bool.eq_false_iff.mpr fun hx=>?_,oz,uz,fz⟩;have h1:=Di scope.names _ (s.heap.objs.size+1+1) _ x c (Nat.le_refl _) (.inl (of_decide_eq_true hx)) h;have h2:c < s.heap.objs.size:=Heap.lt_size (I.hok c _ fz).1;have h3:s.heap.objs.size+1+1<=c:=by first | exact h1 | (rw [← sz2];exact h1)
        exact absurd (Nat.lt_of_lt_of_le h2 (Nat.le_trans (Nat.le_succ_of_le (Nat.le_succ _)) h3)) (Nat.lt_irrefl _)
    · exact .inl (I.hok.fresh (by omega))
  · rcases List.mem_append.mp hp with hp|hp
    · obtain ⟨q1,q2,q3,q4,q5⟩:=I.pin p hp;have lt:=Heap.lt_size q1;refine ⟨keep _ _ q1,q2,Nat.ne_of_lt (Nat.lt_succ_of_lt lt),fun z=>?_,q5⟩;rcases List.mem_cons.mp (I.stkSub p.1 z) with r|r
      · exact q3 r
      · exact q4 r
    · have e:p=(s.heap.objs.size,Am [] 0):=by simpa using hp
      subst e;refine ⟨pushCells_keeps _ _ _ _ (Heap.get?_push_of_some _ (Heap.get?_push_size _ rfl)),I.hok.fresh (Nat.le_refl _),Nat.ne_of_lt (Nat.lt_succ_self _),fun z=>?_,fun v=>by intro z;cases z⟩;exact Nat.lt_irrefl _ (stk _ z)
theorem Ze {N':List Str}{scope:Scope}{fp:List Addr}{σ':St}{C:Addr}{cells:List (Str×Addr)}{H':Hp}{s':Shared}{its:List Value}{n:Nat}{ys:List V}{pl:List (Addr×Obj)}(I:Inv X pins σ H s) (hf:∀ b∈fp,Ik X pins H b)
  (J:Inv (Bj X pins N' scope C cells s H fp) ((s.heap.objs.size,Am its n)::pl) σ' H' s') (r:Vals ys its) (hz:ys.length<=sizeLine) :
  Inv X pins σ (upd H' s.heap.objs.size (.lst ys)) s':=by
 obtain ⟨p1,p2,p3,p4,p5⟩:=J.pin (s.heap.objs.size,Am its n) (List.mem_append_right _ List.mem_cons_self);have hD:H' s.heap.objs.size=none:=p2;have ne:∀ b o,s.heap.get? b=some o->b≠s.heap.objs.size:=fun b o e=>Nat.ne_of_lt (Heap.lt_size e)
 have U:=J.base;refine I.call' (ch:=fp) J.os ⟨fun b o e h1 h2 h3=>U.keep b o e h1 h2 h3,fun b o e h1 h2 h3=>U.slot b o e h1 h2 h3,fun b o e h1 h2=>?_,U.there,fun b xs e=>?_,fun b o u e=>?_,fun b ps e=>?_⟩ ?_ J.bare fun b hb=>?_
 ·rw [Ac (ne b o e)];exact U.free b o e h1 h2
 ·have q:=U.tups b xs e;rw [Ac (Ai q hD)];exact q
 ·have q:=U.frzs b o u e;rw [Ac (Ai q hD)];exact q
 ·obtain ⟨m,q⟩:=U.tbls b ps e;exact ⟨m,by rw [Ac (Ai q hD)];exact q⟩
 ·intro b u e
  by_cases hb:b=s.heap.objs.size
  ·subst hb;rw [Be] at e;cases e;exact ⟨hz,its,n,r,p1⟩
  ·rw [Ac hb] at e;exact (J.hok b u e).stay (fun _ _ _ q=>q) (fun c q=>by rw [Ac (Ai q hD)];exact q) fun c xs q=>by rw [Ac (Ai q hD)];exact q
 ·obtain ⟨q0,q1,q2,q3,q4,q5⟩:=hf b hb;exact ⟨q3,q1,q4,q5⟩
end
section
variable {prog:Program}{w:World}{A:Around}{E:Value->Shared->Prop}{R:Result->Shared->Prop}{s:Shared}
noncomputable abbrev Vm (ifs:List Expr) (env:Env):Sem Bool:=forIn ifs true fun c r=>if r=true then do let ok ← isTrue c env (eval c env);pure (ForInStep.yield ok) else pure (ForInStep.yield r)
theorem Ph {elt target iter:Expr}{ifs:List Expr}{scope:Scope}{pos:Pos}{it acc:Value}{env:Env}(I:Nat->Shared->Prop)
  (turn:∀ n s,I n s->wpAny (model prog w) A (pyNext it) (fun r s₁=>match r with
   | none=>R (.ok .next) s₁
   | some v=>wpAny (model prog w) A (letOwnedTupleGo target it v) (fun _ s'=>wpAny (model prog w) A (assign target env v) (fun _ s₂ =>
     wpAny (model prog w) A (Vm ifs env) (fun ok s₃ =>
      if ok=true then wpAny (model prog w) A (eval elt env) (fun x s₄ =>
       wpAny (model prog w) A (call (.builtin "list.append") [acc,x]) (fun _ s₅=>∃ m,m < n/\I m s₅) (fun _ _=>False) s₄) (fun _ _=>False) s₃
      else ∃ m,m < n/\I m s₃) (fun _ _=>False) s₂) (fun _ _=>False) s') (fun _ _=>False) s₁) (fun _ _=>False) s)
  (n:Nat) (h:I n s) :
  codeAny (model prog w) A (.compLoop (.ListComp elt [⟨target,iter,ifs,0⟩] scope pos) 0 it acc env) R s:=by
 refine codeAny_loop rfl I (fun n s hI=>?_) n h;show wpAny _ A ((compTurn (.ListComp elt [⟨target,iter,ifs,0⟩] scope pos) 0 it acc env).onRaise (fun x=>do noteFrame x env;theTreesLotGoes x)) _ _ s;refine wpAny_noted ?_;rw [compTurn_list];refine wpAny_bind (wpAny_standAt (wpAny_bind (wpAny_mono (turn n s hI) (fun r s₁ h₁=>?_) fun _ _ h'=>h'.elim)));cases r with
 | none=>exact wpAny_pure h₁
 | some v =>
  refine wpAny_bind (wpAny_mono h₁ (fun _ s' h'=>?_) fun _ _ h'=>h'.elim);refine wpAny_bind (wpAny_mono h' (fun _ s₂ h₂=>wpAny_bind (wpAny_mono h₂ (fun ok s₃ h₃=>?_) fun _ _ h'=>h'.elim)) fun _ _ h'=>h'.elim);cases ok with
  | false=>exact wpAny_pure ⟨rfl,h₃⟩
  | true =>
   exact wpAny_bind (wpAny_bind (wpAny_mono h₃ (fun x s₄ h₄=>wpAny_bind (wpAny_mono h₄ (fun _ s₅ h₅=>wpAny_pure (wpAny_pure ⟨rfl,h₅⟩)) fun _ _ h'=>h'.elim)) fun _ _ h'=>h'.elim))
end
noncomputable def PIf (X:Cx) (ifs:List Expr) (t:TT):Prop :=
 ∀ (pins:List (Addr×Obj)) (s:Shared) (σ:St) (H:Hp) (Q:Bool->Hp->Prop),Inv X pins σ H s->t σ H Q->wpAny (model X.prog X.w) X.A (Vm ifs X.env) (TP X pins σ Q) X.xe s
theorem jB {X:Cx}:PIf X [] (fun _ H Q=>Q true H):=fun pins s σ H Q I h=>wpAny_tests_nil ⟨H,I,h⟩
theorem jC {X:Cx}{c:Expr}{t:TT}(h:PT X c t):PIf X [c] t:=fun pins s σ H Q I q=>wpAny_tests_one (h pins s σ H Q I q)
noncomputable def Kept (σ0 σ2:St):Prop:=σ2.length=σ0.length/\∀ (i:Nat) v,σ0[i]?=some (some v)->σ2[i]?=some (some v)
noncomputable def Zf (X:Cx) (N':List Str) (scope:Scope) (wi:TI) (g:TG) (tc:TT) (te:TE):TE:=fun σ H Q=>wi σ H fun J H1=>∃ σ0,Cap X N' scope σ σ0/\∃ W:Nat->Nat->List V->Hp->Prop,(∃ m,W 0 m [] H1)/\∀ i m acc H,W i m acc H ->
 (J.stop i H/\∀ p,H p=none->Q (.ref p) (upd H p (.lst acc))) \/
 (J.go i H/\∃ N:List V->Hp->Prop,(∀ acc' H',N acc' H'->∃ m',m' < m/\W (i+1) m' acc' H')/\∀ x H',J.yld i H x H'->g x σ0 H' fun σ2 H2=>Kept σ0 σ2/\tc σ2 H2 fun b H3=>if b=true then acc.length < sizeLine/\te σ2 H3 fun y H4=>N (acc++[y]) H4 else N acc H3)
section
variable {X:Cx}{N':List Str}{scope:Scope}{wi:TI}{g:TG}{tc:TT}{te:TE}{elt target iter:Expr}{ifs:List Expr}{pos:Pos}
theorem Ld {pins:List (Addr×Obj)}{s:Shared}{σ σ0:St}{H:Hp}{it:Addr}{fp:List Addr}{tn:Nat->Heap->Prop}{J:It}{QQ:List V->Hp->Prop}{E:Value->Shared->Prop}{RR:Value->Addr->Result->Shared->Prop}(hc:X.calm=true) (S:CompOk X scope)
  (hg:∀ pins C cells s₀ H₀ fp,PG (Bj X pins N' scope C cells s₀ H₀ fp) target g)
  (hi:∀ pins C cells s₀ H₀ fp,PIf (Bj X pins N' scope C cells s₀ H₀ fp) ifs tc)
  (he:∀ pins C cells s₀ H₀ fp,PE (Bj X pins N' scope C cells s₀ H₀ fp) elt te)
  (I:Inv X pins σ H s) (T:Turn X.prog X.w X.K target J fp it tn) (st:tn 0 s.heap) (hf:∀ b∈fp,Ik X pins H b) (hσ:Cap X N' scope σ σ0)
  (W:Nat->Nat->List V->Hp->Prop) (w0:∃ m,W 0 m [] H)
  (turn:∀ i m acc H,W i m acc H->(J.stop i H/\QQ acc H) \/
   (J.go i H/\∃ N:List V->Hp->Prop,(∀ acc' H',N acc' H'->∃ m',m' < m/\W (i+1) m' acc' H')/\∀ x H',J.yld i H x H'->g x σ0 H' fun σ2 H2=>Kept σ0 σ2/\tc σ2 H2 fun b H3=>if b=true then acc.length < sizeLine/\te σ2 H3 fun y H4=>N (acc++[y]) H4 else N acc H3))
  (hRR:∀ (C:Addr) (acc:List V) (H':Hp) (s':Shared) (m:Str->Option Value),QQ acc H'->Inv X pins σ (upd H' s.heap.objs.size (.lst acc)) s'->H' s.heap.objs.size=none->s'.heap.Ns C m->H' C=none->C≠s.heap.objs.size->s.heap.objs.size<=C->RR (.ref s.heap.objs.size) C (.ok .next) s') :
  wpAny (model X.prog X.w) X.A (newList []) (fun acc s₃=>wpAny (model X.prog X.w) X.A (newFunctionEnv scope X.env.globals (En X.env scope.names) [] X.env.qual none .none (some X.env)) (fun cenv s₄ =>
   codeAny (model X.prog X.w) X.A (.compStart (.ListComp elt [⟨target,iter,ifs,0⟩] scope pos) 0 (.ref it) acc { cenv with scope:=relabel scope X.env }) (RR acc cenv.locals) s₄) E s₃) E s:=by
 refine wpAny_newObj_type (Rh ?_);have sz1:(s.heap.push (Am [] 0)).objs.size=s.heap.objs.size+1:=Heap.size_push ..;have I0:=T3 (N':=N') (σ0:=σ0) I S hf (fun b hb=>let ⟨o,e,_⟩:=T.obj 0 _ st b hb;⟨o,e⟩) hσ
 show codeAny (model X.prog X.w) X.A (.compStart (.ListComp elt [⟨target,iter,ifs,0⟩] scope pos) 0 (.ref it) (.ref s.heap.objs.size) _) (RR (.ref s.heap.objs.size) (s.heap.push (Am [] 0)).objs.size) { s with heap:=pushCells ((s.heap.push (Am [] 0)).push { cls:=.type "dict",data:=.dict #[] }) scope.names };rw [sz1];show codeAny (model X.prog X.w) X.A (.compStart (.ListComp elt [⟨target,iter,ifs,0⟩] scope pos) 0 (.ref it) (.ref s.heap.objs.size) (Bj X pins N' scope (s.heap.objs.size+1) (cellsFrom (s.heap.objs.size+1+1) scope.names (En X.env scope.names)) s H fp).env) _ _;generalize hX':Bj X pins N' scope (s.heap.objs.size+1) (cellsFrom (s.heap.objs.size+1+1) scope.names (En X.env scope.names)) s H fp=X' at I0 ⊢
 have keep0:∀ b o,s.heap.get? b=some o->(pushCells ((s.heap.push (Am [] 0)).push { cls:=.type "dict",data:=.dict #[] }) scope.names).get? b=some o:=fun b o e=>pushCells_keeps _ _ b o (Heap.get?_push_of_some _ (Heap.get?_push_of_some _ e))
 have st0:tn 0 (pushCells ((s.heap.push (Am [] 0)).push { cls:=.type "dict",data:=.dict #[] }) scope.names):=T.keep _ _ _ st fun b _ o e=>keep0 b o e
 have hA:X'.A=X.A:=by rw [← hX'];rfl
 have hP:X'.prog=X.prog:=by rw [← hX'];rfl
 have hw:X'.w=X.w:=by rw [← hX'];rfl
 have hK:X'.K=X.K:=by rw [← hX'];rfl
 have hC:X'.calm=true:=by rw [← hX'];exact hc
 have hL:X'.env.locals=s.heap.objs.size+1:=by rw [← hX'];rfl
 have hS0:X'.s₀=s:=by rw [← hX'];rfl
 have hxe:X'.xe=fun _ _=>False:=by rw [← hX'];rfl
 have hex:X'.ex=fp:=by rw [← hX'];rfl
 have hpn:X'.pn=X.pn++pins:=by rw [← hX'];rfl
 have hgX:PG X' target g:=by rw [← hX'];exact hg _ _ _ _ _ _
 have hiX:PIf X' ifs tc:=by rw [← hX'];exact hi _ _ _ _ _ _
 have heX:PE X' elt te:=by rw [← hX'];exact he _ _ _ _ _ _
 -- the iterator's own objects,in the block
 have fpo:∀ {pl:List (Addr×Obj)} {H':Hp} {its:List Value} {n:Nat},(∀ b∈fp,H' b=none)->∀ b∈fp,Ik X' [(s.heap.objs.size,Am its n)] H' b:=fun {pl H' its n} hn b hb=>by
  obtain ⟨q0,q1,q2,q3,q4,q5⟩:=hf b hb;obtain ⟨e1,e2⟩:=I0.ok.exf b (by rw [hex];exact hb);have lt:b < s.heap.objs.size:=let ⟨o,e,_⟩:=T.obj 0 _ st b hb;Heap.lt_size e;refine ⟨hn b hb,e1,I0.ok.exfs b (by rw [hex];exact hb),.inl (by rw [hex];exact hb),e2,fun p hp=>?_⟩;rw [hpn] at hp;rcases List.mem_append.mp hp with hp|hp
  ·exact q5 p hp
  ·have e:p=(s.heap.objs.size,Am its n):=by simpa using hp
   subst e;exact Nat.ne_of_gt lt
 obtain ⟨m0,w0⟩:=w0
 have loop:codeAny (model X.prog X.w) X.A (.compLoop (.ListComp elt [⟨target,iter,ifs,0⟩] scope pos) 0 (.ref it) (.ref s.heap.objs.size) X'.env) (RR (.ref s.heap.objs.size) (s.heap.objs.size+1)) { s with heap:=pushCells ((s.heap.push (Am [] 0)).push { cls:=.type "dict",data:=.dict #[] }) scope.names }:=by
  refine Ph (fun k s'=>∃ i H' acc its n,Inv X' [(s.heap.objs.size,Am its n)] σ0 H' s'/\tn i s'.heap/\(∀ b∈fp,H' b=none)/\Vals acc its/\acc.length<=sizeLine/\W i k acc H') ?_ m0
   ⟨0,H,[],[],0,I0,st0,fun b hb=>(hf b hb).1,.nil,Nat.zero_le _,w0⟩
  rintro k s3 ⟨i,H3,acc,its,n,I3,st3,fr3,rv,hz,w3⟩;rcases turn i k acc H3 w3 with ⟨stop,qn⟩|⟨go,N,hN,step⟩
  ·have z:=T.done X' hP hw hK hC i _ s3 σ0 H3 (fun _ _=>False) I3 (fpo (pl:=[]) fr3) st3 stop;rw [hA] at z;refine thn z ?_;rintro r s4 ⟨hr,I4⟩;subst hr;obtain ⟨m,hn,_⟩:=I4.loc;rw [hL] at hn;have fC:=I4.free;rw [hL] at fC;have e:=I4;rw [← hX'] at e;exact hRR _ acc H3 s4 m qn (Ze I hf e rv hz) (I4.pin (s.heap.objs.size,Am its n) (List.mem_append_right _ List.mem_cons_self)).2.1 hn fC (Nat.succ_ne_self _) (Nat.le_succ _)
  ·have z:=T.item X' hP hw hK hC i _ s3 σ0 H3 (fun _ _=>False) I3 (fpo (pl:=[]) fr3) st3 go;rw [hA] at z;refine thn z ?_;rintro r s4 ⟨u,hr,h4⟩;subst hr;refine thn h4 ?_;rintro _ s5 ⟨x,H5,I5,r5,y5,st5,fr5⟩;have I5':=I5.pinned (fpo (pl:=[]) fr5) (T.obj _ _ st5);have zg:=hgX _ s5 σ0 H5 x u _ I5' r5 (step x H5 y5);rw [hP,hw,hA,hxe] at zg;refine thn zg ?_;rintro _ s6 ⟨σ6,H6,I6,kp,q6⟩;have zi:=hiX _ s6 σ6 H6 _ I6 q6;rw [hP,hw,hA,hxe] at zi;refine thn zi ?_;rintro b s7 ⟨H7,I7,q7⟩
   -- back to the loop's head
   have back:∀ {H8:Hp} {s8:Shared} {acc':List V} {its':List Value} {n':Nat},Inv X' ([(s.heap.objs.size,Am its' n')]++Hx fp s5.heap) σ6 H8 s8->Vals acc' its'->acc'.length<=sizeLine->N acc' H8 ->
     ∃ m,m < k/\∃ i H' acc its n,Inv X' [(s.heap.objs.size,Am its n)] σ0 H' s8/\tn i s8.heap/\(∀ b∈fp,H' b=none)/\Vals acc its/\acc.length<=sizeLine/\W i m acc H':=fun {H8 s8 acc' its' n'} I8 rv' hz' n8=>by
    obtain ⟨m',hm,w8⟩:=hN acc' H8 n8;refine ⟨m',hm,i+1,H8,acc',its',n',(I8.unpinned).weak kp.1.symm kp.2,T.keep _ _ _ st5 fun b hb o e=>(I8.pin (b,o) (List.mem_append_right _ (List.mem_append_right _ (Fv hb e)))).1,fun b hb=>?_,rv',hz',w8⟩;obtain ⟨o,e,d⟩:=T.obj _ _ st5 b hb;exact (I8.pin (b,o) (List.mem_append_right _ (List.mem_append_right _ (Fv hb e)))).2.1
   cases b with
   | false =>
    rw [if_neg Bool.false_ne_true] at q7;rw [if_neg Bool.false_ne_true];exact back I7 rv hz q7
   | true =>
    rw [if_pos rfl] at q7;rw [if_pos rfl];obtain ⟨hlt,q7⟩:=q7;have ze:=heX _ s7 σ6 H7 _ I7 q7;rw [hP,hw,hA,hxe] at ze;refine thn ze ?_;rintro y s8 ⟨yv,H8,I8,r8,q8⟩;obtain ⟨p1,p2,p3,p4,p5⟩:=I8.pin (s.heap.objs.size,Am its n) (List.mem_append_right _ (List.mem_append_left _ List.mem_cons_self));have len:its.toArray.size<=sizeLine:=by
     have:=rv.length;simp only [List.size_toArray];omega
    refine wpAny_list_append_plain (hsz:=len) ⟨n,p1⟩ ?_;rintro h' ⟨n',pl⟩ sb;have pl':h'.get? s.heap.objs.size=some (Am (its++[y]) n'):=by rw [pl];simp [Am]
    have lD:s.heap.objs.size < (pushCells ((s.heap.push (Am [] 0)).push { cls:=.type "dict",data:=.dict #[] }) scope.names).objs.size:=by
     refine Nat.lt_of_lt_of_le ?_ (Dy _ _);rw [Heap.size_push,Heap.size_push];omega
    have cne:∀ z c,X'.env.cells.lookup z=some c->c≠s.heap.objs.size:=fun z c e q=>by
     obtain ⟨v,hv⟩:=I8.cell z c e;obtain ⟨o,ho,hd⟩:=hv;rw [q] at ho;rw [show s8.heap.get? s.heap.objs.size=some (Am its n) from p1] at ho;cases ho;cases hd
    have J9:Inv X' (Hx fp s5.heap) σ6 H8 { s8 with heap:=h' }:=by
     refine Inv.turned (t':=s8.toks) (it:=s.heap.objs.size) (I8.pins_of fun p hp=>I8.pin p (List.mem_append_right _ (List.mem_append_right _ hp))) (fun b o hb e=>sb.extBut b o hb e) p2 (by rw [hL];exact Nat.ne_of_lt (Nat.lt_succ_self _)) (.inr (by rw [hS0];exact Nat.le_refl _)) cne fun p hp=>?_
     rw [hpn] at hp;rcases List.mem_append.mp hp with hp|hp
     ·have:p.1 < s.heap.objs.size:=Heap.lt_size (I.pin p hp).1;exact Nat.ne_of_lt this
     ·obtain ⟨hb,_⟩:=Nq hp;have:p.1 < s.heap.objs.size:=let ⟨o,e,_⟩:=T.obj 0 _ st p.1 hb;Heap.lt_size e;exact Nat.ne_of_lt this
    have I9:Inv X' ([(s.heap.objs.size,Am (its++[y]) n')]++Hx fp s5.heap) σ6 H8 { s8 with heap:=h' }:=by
     refine J9.pins_of fun p hp=>?_
     rcases List.mem_append.mp hp with hp|hp
     ·have e:p=(s.heap.objs.size,Am (its++[y]) n'):=by simpa using hp
      subst e;exact ⟨pl',p2,p3,p4,fun v=>by intro z;cases z⟩
     ·exact J9.pin p (List.mem_append_right _ hp)
    exact back I9 (rv.append (.cons r8 .nil)) (by rw [List.length_append,List.length_singleton];omega) q8
 exact codeAny_compStart_list loop (T.self X.A 0 _ _ _ st0 loop)
theorem jD (hc:X.calm=true) (S:CompOk X scope) (hit:PI X target iter wi)
  (hg:∀ pins C cells s₀ H₀ fp,PG (Bj X pins N' scope C cells s₀ H₀ fp) target g)
  (hi:∀ pins C cells s₀ H₀ fp,PIf (Bj X pins N' scope C cells s₀ H₀ fp) ifs tc)
  (he:∀ pins C cells s₀ H₀ fp,PE (Bj X pins N' scope C cells s₀ H₀ fp) elt te)
  (hs:∀ x,foldedSetIterable iter X.env x=pure x:=by intro _;rfl) :
  PE X (.ListComp elt [⟨target,iter,ifs,0⟩] scope pos) (Zf X N' scope wi g tc te):=by
 intro pins s σ H Q I h;rw [eval_ListComp];have hfree:∀ x∈scope.names,x.2=.free->∃ c,X.env.cells.lookup x.1=some c:=fun x hx e=>I.ok.has x.1 (S.fr x hx e)
 refine wpAny_comprehension_free (use:=none) rfl hs (Hq hfree) S.kind (fun x hx e=>Dj S.nd (by rw [← e];exact hx)) (thn (hit pins s σ H _ I h) fun v s1 h1=>thn h1 fun itv s2 h2=>?_);obtain ⟨it,fp,tn,J,H2,e,I2,T,st2,f2,σ0,hσ,W,w0,turn⟩:=h2;subst e;refine Ld (QQ:=fun acc H=>∀ p,H p=none->Q (.ref p) (upd H p (.lst acc))) (RR:=fun acc C=>compPost (model X.prog X.w) X.A X.xe none (EP X pins σ Q) acc C) hc S hg hi he I2 T st2 f2 hσ W w0 turn ?_;intro C acc H' s' m q I' hD hn hC hne hle;refine ⟨m,hn,fun h' sb=>?_⟩;obtain ⟨oC,_,_,hoC,_⟩:=id hn;have uC:upd H' s2.heap.objs.size (.lst acc) C=none:=by rw [Ac hne];exact hC
 have hCL:C≠X.env.locals:=Nat.ne_of_gt (Nat.lt_of_lt_of_le I2.lt hle);refine ⟨.ref s2.heap.objs.size,_,I'.turned (t':=s'.toks) (it:=C) (fun b o hb e=>sb.extBut b o hb e) uC hCL (.inr (Nat.le_trans I2.sz hle)) (fun x c e z=>?_) fun p hp z=>?_,rfl,q _ hD⟩
 ·obtain ⟨v,hv⟩:=I2.cell x c e;have:=hv.lt;rw [z] at this;exact Nat.lt_irrefl _ (Nat.lt_of_lt_of_le this hle)
 ·have:=Heap.lt_size (I2.pin p hp).1;rw [z] at this;exact Nat.lt_irrefl _ (Nat.lt_of_lt_of_le this hle)
theorem T4 {y:Str}{py spos:Pos}{gy:TG}(hc:X.calm=true) (S:CompOk X scope) (hit:PI X target iter wi)
  (hg:∀ pins C cells s₀ H₀ fp,PG (Bj X pins N' scope C cells s₀ H₀ fp) target g)
  (hi:∀ pins C cells s₀ H₀ fp,PIf (Bj X pins N' scope C cells s₀ H₀ fp) ifs tc)
  (he:∀ pins C cells s₀ H₀ fp,PE (Bj X pins N' scope C cells s₀ H₀ fp) elt te)
  (hgy:PG X (.Name y py) gy)
  (hsw:swapsWith (.ListComp elt [⟨target,iter,ifs,0⟩] scope pos) (some (.Name y py)) spos.line X.env=pure true)
  (hs:∀ x,foldedSetIterable iter X.env x=pure x:=by intro _;rfl) :
  PS X (.Assign [.Name y py] (.ListComp elt [⟨target,iter,ifs,0⟩] scope pos) spos) (pY (Zf X N' scope wi g tc te) gy):=by
 intro pins s σ H D I h;rw [exec_Assign_Name_used _ _ _ _ hsw];refine wpAny_bind (wpAny_standAt (wpAny_bind ?_));show wpAny _ X.A (do let _ ← comprehension (.ListComp elt [⟨target,iter,ifs,0⟩] scope pos) scope X.env _ (newList []) false (eval iter X.env) (some (assign (.Name y py) X.env))) _ _ s;have hfree:∀ x∈scope.names,x.2=.free->∃ c,X.env.cells.lookup x.1=some c:=fun x hx e=>I.ok.has x.1 (S.fr x hx e)
 refine wpAny_bind (wpAny_mono (wpAny_comprehension_free (use:=some (assign (.Name y py) X.env)) (Q:=fun _ s'=>SP X pins D .next s') rfl hs (Hq hfree) S.kind (fun x hx e=>Dj S.nd (by rw [← e];exact hx)) (thn (hit pins s σ H _ I h) fun v s1 h1=>thn h1 fun itv s2 h2=>?_))
  (fun _ s' hq=>wpAny_pure (wpAny_pure hq)) fun _ _ e=>e)
 obtain ⟨it,fp,tn,J,H2,e,I2,T,st2,f2,σ0,hσ,W,w0,turn⟩:=h2;subst e;refine Ld (QQ:=fun acc H=>∀ p,H p=none->gy (.ref p) σ (upd H p (.lst acc)) D.nx) (RR:=fun acc C=>compPost (model X.prog X.w) X.A X.xe (some (assign (.Name y py) X.env)) (fun _ s'=>SP X pins D .next s') acc C) hc S hg hi he I2 T st2 f2 hσ W w0 turn ?_;intro C acc H' s' m q I' hD hn hC hne hle;obtain ⟨oC,esC,epC,hoC,hdC⟩:=id hn;have uC:upd H' s2.heap.objs.size (.lst acc) C=none:=by rw [Ac hne];exact hC
 have hCL:C≠X.env.locals:=Nat.ne_of_gt (Nat.lt_of_lt_of_le I2.lt hle);have hCfs:C ∉ X.fs:=I2.nofs hle;have pinC:Inv X (pins++[(C,oC)]) σ (upd H' s2.heap.objs.size (.lst acc)) s':=by
  refine I'.pins_of fun p hp=>?_
  rcases List.mem_append.mp hp with hp|hp
  ·exact I'.pin p (List.mem_append_right _ hp)
  ·have e:p=(C,oC):=by simpa using hp
   subst e;refine ⟨hoC,uC,hCL,hCfs,fun v z=>?_⟩;rw [hdC.1] at z;cases z
 refine thn (hgy _ s' σ _ (.ref s2.heap.objs.size) _ _ pinC rfl (q _ hD)) ?_;rintro _ s'' ⟨σ2,H3,I3,q3⟩;obtain ⟨p1,p2,p3,p4,p5⟩:=I3.pin (C,oC) (List.mem_append_right _ (List.mem_append_right _ List.mem_cons_self));refine ⟨m,⟨oC,esC,epC,p1,hdC⟩,fun h' sb=>?_⟩;refine ⟨σ2,H3,(Inv.unpinned I3).turned (t':=s''.toks) (it:=C) (fun b o hb e=>sb.extBut b o hb e) p2 hCL (.inr (Nat.le_trans I2.sz hle)) (fun x c e z=>?_) fun p hp z=>?_,q3⟩
 ·obtain ⟨v,hv⟩:=I2.cell x c e;have:=hv.lt;rw [z] at this;exact Nat.lt_irrefl _ (Nat.lt_of_lt_of_le this hle)
 ·have:=Heap.lt_size (I2.pin p hp).1;rw [z] at this;exact Nat.lt_irrefl _ (Nat.lt_of_lt_of_le this hle)
end
end L2
namespace DL
open PySem PySem.Spec PyProof.Rows L2
noncomputable abbrev St:=L2.St
structure CloI where
 ps:List Str
 N:List Str
 fr:List Str
 scope:Scope
 body:List Stmt
inductive D where
 | non | bl (b:Bool) | int (i:Int) | str (x:Str) | tup (ds:List D) | ref (n:Nat) | rol (ds:List D) | obj (c:Str) (ks:List Str) (ds:List D) | fn (x:Str) | lam | clo (I:CloI) (ds:List D)
 deriving Inhabited
inductive MO where
 | lst (ds:List D)
 | dct (kvs:List (Key×D))
 | dtk (kvs:List (PyData×D))
 | plc
 | plq (x:Str)
 | fzd
noncomputable abbrev MH:=List MO
noncomputable abbrev Loc:=List (Option D)
noncomputable def Gi (K:PySem.W.Frag) (H:Hp) (a:Addr) (xs:List V):Prop:=(∃ o,H a=some (.frz o (.lst xs))) \/
  ∃ (o:Obj) (its:Array Value) (n:Nat),K.lookup a=some o/\o.cls=.type "list"/\o.dict=none/\o.data=.seq its n/\its.size<=sizeLine/\Vals xs its.toList
theorem Gi.sq {K:PySem.W.Frag}{H:Hp}{a:Addr}{xs:List V}(h:Gi K H a xs):SqL K H a xs:=by
 rcases h with ⟨o,h⟩|h
 ·exact .inl (.inr ⟨o,h⟩)
 ·exact .inr h
noncomputable def yF (fd:FuncData):Prop:=∃ (name qual:Str) (ps:Arguments) (x y:Str) (p q pt:Pos) (k:Nat) (sc:Scope) (pm cdv ct:Value),fd=PySem.W.kla_fn name qual ps (.Tuple [.Name x p,.Name y q] k pt) sc [] pm cdv ct /\
  FnScope [x,y] [x,y] sc/\(x==("__debug__":Str))=false/\(x==("__classdict__":Str))=false/\(y==("__debug__":Str))=false/\(y==("__classdict__":Str))=false/\∀ u v,bindArgs fd ⟨[u,v],[]⟩=pure [(x,u),(y,v)]
noncomputable def Ri (H:Hp) (v:Value) (q:Str):Prop:=∃ c oc u vs tq,v=.ref c/\H c=some (.frz oc u)/\oc.data=.fields vs/\vs[1]?=some (.str q tq)
noncomputable def Vn (H:Hp) (a:Addr):Prop:=∃ o u fd,H a=some (.frz o u)/\o.data=.func fd/\yF fd/\Ri H fd.code fd.qualname
structure CloSc (I:CloI):Prop where
 kind:I.scope.kind=.function
 co:I.scope.isCoroutine=false
 gen:I.scope.isGenerator=false
 nd:(I.N++I.fr).Nodup
 pre:I.N.take I.ps.length=I.ps
 par:∀ x∈I.ps,I.scope.names.lookup x=some .local
 nocell:∀ y∈I.scope.names,y.2≠.cell
 free:∀ x,I.scope.names.lookup x=some .free->x∈I.fr
 frs:∀ x∈I.fr,I.scope.names.lookup x=some .free
noncomputable def oF (I:CloI) (fd:FuncData) (cl:List (Str×Addr)):Prop:=∃ (name qual:Str) (params:Arguments) (doc pm cdv ctv:Value),fd=PySem.W.fnX name qual params I.body I.scope cl .none .none doc pm none cdv ctv/\∀ us:List Value,us.length=I.ps.length->bindArgs fd ⟨us,[]⟩=pure (I.ps.zip us)
noncomputable def Fx (H:Hp):List Addr->List V->Prop
 | [],[]=>True
 | c::cs,v::vs=>(∃ oc u w,H c=some (.frz oc u)/\oc.data=.cell (some w)/\RelV v w)/\Fx H cs vs
 | _,_=>False
noncomputable def Vo (H:Hp) (a:Addr) (I:CloI) (xs:List V):Prop:=∃ o u fd cl,H a=some (.frz o u)/\o.data=.func fd/\CloSc I/\oF I fd cl/\Ri H fd.code fd.qualname/\cl.map (·.1)=I.fr/\(cl.map (·.2)).Nodup/\Fx H (cl.map (·.2)) xs
mutual
inductive RD (K:PySem.W.Frag) (H:Hp) (ρ:List Addr):D->V->Prop
 | non:RD K H ρ .non .non
 | bl (b:Bool):RD K H ρ (.bl b) (.bl b)
 | int (i:Int):RD K H ρ (.int i) (.int i)
 | str (x:Str):RD K H ρ (.str x) (.str x)
 | tup {ds:List D} {a:Addr} {xs:List V}:SqT K H a xs->RDs K H ρ ds xs->RD K H ρ (.tup ds) (.ref a)
 | ref {n:Nat} {a:Addr}:ρ[n]?=some a->RD K H ρ (.ref n) (.ref a)
 | rol {ds:List D} {a:Addr} {xs:List V}:Gi K H a xs->RDs K H ρ ds xs->RD K H ρ (.rol ds) (.ref a)
 | obj {c:Str} {ks:List Str} {ds:List D} {a C dx:Addr} {xs:List V}:PySem.W.nsIn K mainGlobals c=some (some (.ref C))->H a=some (.ins C dx (ks.zip xs))->ks.length=xs.length->RDs K H ρ ds xs->RD K H ρ (.obj c ks ds) (.ref a)
 | fn {x:Str} {a:Addr}:PySem.W.nsIn K mainGlobals x=some (some (.ref a))->RD K H ρ (.fn x) (.ref a)
 | lam {a:Addr}:Vn H a->RD K H ρ .lam (.ref a)
 | clo {I:CloI} {ds:List D} {a:Addr} {xs:List V}:Vo H a I xs->RDs K H ρ ds xs->RD K H ρ (.clo I ds) (.ref a)
inductive RDs (K:PySem.W.Frag) (H:Hp) (ρ:List Addr):List D->List V->Prop
 | nil:RDs K H ρ [] []
 | cons {d:D} {v:V} {ds:List D} {vs:List V}:RD K H ρ d v->RDs K H ρ ds vs->RDs K H ρ (d::ds) (v::vs)
end
structure Ev (K:PySem.W.Frag) (H:Hp) (ρ:List Addr) (H':Hp) (ρ':List Addr):Prop where
 tup:∀ a xs,SqT K H a xs->SqT K H' a xs
 pre:ρ <+: ρ'
 perm:∀ a xs,Gi K H a xs->Gi K H' a xs
 ins:∀ a C dx fs,H a=some (.ins C dx fs)->H' a=some (.ins C dx fs)
 frz:∀ a o u,H a=some (.frz o u)->H' a=some (.frz o u)
theorem Ev.refl {K:PySem.W.Frag}{H:Hp}{ρ:List Addr}:Ev K H ρ H ρ:=⟨fun _ _ h=>h,List.prefix_refl _,fun _ _ h=>h,fun _ _ _ _ h=>h,fun _ _ _ h=>h⟩
theorem Ev.trans {K:PySem.W.Frag}{H H1 H2:Hp}{ρ ρ1 ρ2:List Addr}(a:Ev K H ρ H1 ρ1) (b:Ev K H1 ρ1 H2 ρ2):Ev K H ρ H2 ρ2:=⟨fun x xs h=>b.tup x xs (a.tup x xs h),a.pre.trans b.pre,fun x xs h=>b.perm x xs (a.perm x xs h),fun x C dx fs h=>b.ins x C dx fs (a.ins x C dx fs h),fun x o u h=>b.frz x o u (a.frz x o u h)⟩
theorem Ev.at {K:PySem.W.Frag}{H H':Hp}{ρ ρ':List Addr}(e:Ev K H ρ H' ρ') {n:Nat}{a:Addr}(h:ρ[n]?=some a):ρ'[n]?=some a:=by
 obtain ⟨t,rfl⟩:=e.pre;obtain ⟨hl,_⟩:=List.getElem?_eq_some_iff.mp h;rw [List.getElem?_append_left hl];exact h
theorem Ri.mono {H H':Hp}(e:∀ a o u,H a=some (.frz o u)->H' a=some (.frz o u)) {v:Value}{q:Str}(h:Ri H v q):Ri H' v q :=
 let ⟨c,oc,u,vs,tq,h1,h2,h3⟩:=h;⟨c,oc,u,vs,tq,h1,e _ _ _ h2,h3⟩
theorem Vn.mono {H H':Hp}(e:∀ a o u,H a=some (.frz o u)->H' a=some (.frz o u)) {a:Addr}(h:Vn H a):Vn H' a :=
 let ⟨o,u,fd,h1,h2,h3,h4⟩:=h;⟨o,u,fd,e _ _ _ h1,h2,h3,h4.mono e⟩
theorem Fx.mono {H H':Hp}(e:∀ a o u,H a=some (.frz o u)->H' a=some (.frz o u)):∀ {cs:List Addr}{vs:List V},Fx H cs vs->Fx H' cs vs
 | [],[],_=>trivial
 | _::_,_::_,⟨⟨oc,u,w,h1,h2,h3⟩,t⟩=>⟨⟨oc,u,w,e _ _ _ h1,h2,h3⟩,Fx.mono e t⟩
theorem Vo.mono {H H':Hp}(e:∀ a o u,H a=some (.frz o u)->H' a=some (.frz o u)) {a:Addr}{I:CloI}{xs:List V}(h:Vo H a I xs):Vo H' a I xs :=
 let ⟨o,u,fd,cl,h1,h2,h3,h4,h5,h6,h7,h8⟩:=h;⟨o,u,fd,cl,e _ _ _ h1,h2,h3,h4,h5.mono e,h6,h7,h8.mono e⟩
mutual
theorem RD.mono {K:PySem.W.Frag}{H H':Hp}{ρ ρ':List Addr}(e:Ev K H ρ H' ρ'):∀ {d:D}{v:V},RD K H ρ d v->RD K H' ρ' d v
 | _,_,.non=>.non
 | _,_,.bl b=>.bl b
 | _,_,.int i=>.int i
 | _,_,.str x=>.str x
 | _,_,.tup s r=>.tup (e.tup _ _ s) (RDs.mono e r)
 | _,_,.ref h=>.ref (e.at h)
 | _,_,.rol s r=>.rol (e.perm _ _ s) (RDs.mono e r)
 | _,_,.obj n s l r=>.obj n (e.ins _ _ _ _ s) l (RDs.mono e r)
 | _,_,.fn h=>.fn h
 | _,_,.lam h=>.lam (h.mono e.frz)
 | _,_,.clo h r=>.clo (h.mono e.frz) (RDs.mono e r)
theorem RDs.mono {K:PySem.W.Frag}{H H':Hp}{ρ ρ':List Addr}(e:Ev K H ρ H' ρ'):∀ {ds:List D}{vs:List V},RDs K H ρ ds vs->RDs K H' ρ' ds vs
 | _,_,.nil=>.nil
 | _,_,.cons r t=>.cons (RD.mono e r) (RDs.mono e t)
end
section
variable {K:PySem.W.Frag}{H H':Hp}{ρ ρ':List Addr}
theorem RDs.length:∀ {ds:List D}{vs:List V},RDs K H ρ ds vs->ds.length=vs.length
 | _,_,.nil=>rfl
 | _,_,.cons _ t=>by rw [List.length_cons,List.length_cons,RDs.length t]
theorem RDs.get:∀ {ds:List D}{vs:List V}{i:Nat}{d:D},RDs K H ρ ds vs->ds[i]?=some d->∃ v,vs[i]?=some v/\RD K H ρ d v
 | _,_,_,_,.nil,e=>by simp at e
 | _,_,0,_,.cons r _,e=>by simp at e;subst e;exact ⟨_,by simp,r⟩
 | _,_,i+1,d,.cons _ t,e=>by
  obtain ⟨v,h1,h2⟩:=RDs.get (i:=i) (d:=d) t (by simpa using e);exact ⟨v,by simpa using h1,h2⟩
theorem RDs.append:∀ {ds es:List D}{vs us:List V},RDs K H ρ ds vs->RDs K H ρ es us->RDs K H ρ (ds++es) (vs++us)
 | _,_,_,_,.nil,s=>s
 | _,_,_,_,.cons r t,s=>.cons r (RDs.append t s)
theorem RDs.take:∀ {ds:List D}{vs:List V}(n:Nat),RDs K H ρ ds vs->RDs K H ρ (ds.take n) (vs.take n)
 | _,_,0,_=>.nil
 | _,_,_+1,.nil=>.nil
 | _,_,n+1,.cons r t=>.cons r (RDs.take n t)
theorem RDs.drop:∀ {ds:List D}{vs:List V}(n:Nat),RDs K H ρ ds vs->RDs K H ρ (ds.drop n) (vs.drop n)
 | _,_,0,r=>r
 | _,_,_+1,.nil=>.nil
 | _,_,n+1,.cons _ t=>RDs.drop n t
theorem RDs.set {d:D}{v:V}(r:RD K H ρ d v):∀ {ds:List D}{vs:List V}(n:Nat),RDs K H ρ ds vs->RDs K H ρ (ds.set n d) (vs.set n v)
 | _,_,_,.nil=>.nil
 | _,_,0,.cons _ t=>.cons r t
 | _,_,n+1,.cons q t=>.cons q (RDs.set r n t)
theorem RDs.ints:∀ (ns:List Int),RDs K H ρ (ns.map D.int) (ns.map V.int)
 | []=>.nil
 | n::r=>.cons (.int n) (RDs.ints r)
noncomputable def Aa3 (K:PySem.W.Frag) (a:Addr):Prop:=∃ (f:Addr) (o:Obj) (fd:FuncData) (c bm:Addr) (ob:Obj),PySem.W.nsIn K mainGlobals "pattern_of"=some (some (.ref f))/\K.lookup f=some o/\o.data=.func fd/\fd.code=.ref c/\PySem.W.codeHdIn K c a=true /\
  PySem.W.nsIn K mainGlobals "__builtins__"=some (some (.ref bm))/\K.lookup bm=some ob/\ob.cls=.type "module"/\ob.dict=some builtinsNs/\ob.data=.plain/\bm≠builtinsNs/\bm≠mainGlobals
noncomputable abbrev Aa4:Str:=("pattern_of":Str) ++ ".<locals>." ++ "<lambda>"
noncomputable def yG (K:PySem.W.Frag) (H:Hp) (a:Addr):Prop:=∃ ps,H a=some (.tbl ps)/\TriplesOk ps.toList/\(∀ pos v,codeAmong pos ps.toList=some v->Ri H v Aa4)/\Aa3 K a
noncomputable def Aa5 (K:PySem.W.Frag) (x:Str) (a:Addr):Prop:=∃ (f:Addr) (o:Obj) (fd:FuncData) (c bm:Addr) (ob:Obj),PySem.W.nsIn K mainGlobals x=some (some (.ref f))/\K.lookup f=some o/\o.data=.func fd/\fd.code=.ref c/\PySem.W.codeHdIn K c a=true /\
  PySem.W.nsIn K mainGlobals "__builtins__"=some (some (.ref bm))/\K.lookup bm=some ob/\ob.cls=.type "module"/\ob.dict=some builtinsNs/\ob.data=.plain/\bm≠builtinsNs/\bm≠mainGlobals
noncomputable abbrev Aa6 (x:Str):Str:=x ++ ".<locals>." ++ "_law_pick"
noncomputable def yH (K:PySem.W.Frag) (H:Hp) (x:Str) (a:Addr):Prop:=∃ ps,H a=some (.tbl ps)/\TriplesOk ps.toList/\(∀ pos v,codeAmong pos ps.toList=some v->Ri H v (Aa6 x))/\Aa5 K x a
mutual
noncomputable def toD:PyData->D
 | .int i=>.int i
 | .str x=>.str x
 | .tuple xs=>.tup (Nb xs)
 | _=>.non
noncomputable def Nb:List PyData->List D
 | []=>[]
 | x::r=>toD x::Nb r
end
noncomputable def kOk (k:PyData):Prop:=kCl k=true/\k.canLay0=true/\k.depth<=8
inductive KN (K:PySem.W.Frag) (H:Hp) (ρ:List Addr):List (PyData×D)->List (PyData×Addr×V)->Prop
 | nil:KN K H ρ [] []
 | cons {k:PyData} {d:D} {b:Addr} {v:V} {kvs:List (PyData×D)} {xs:List (PyData×Addr×V)}:kOk k->RD K H ρ (toD k) (.ref b)->RD K H ρ d v->KN K H ρ kvs xs->KN K H ρ ((k,d)::kvs) ((k,b,v)::xs)
theorem KN.mono {kvs:List (PyData×D)}{xs:List (PyData×Addr×V)}(e:Ev K H ρ H' ρ') (h:KN K H ρ kvs xs):KN K H' ρ' kvs xs:=by
 induction h with
 | nil=>exact .nil
 | cons a b c _ ih=>exact .cons a (b.mono e) (c.mono e) ih
noncomputable def RO (K:PySem.W.Frag) (H:Hp) (ρ:List Addr) (a:Addr):MO->Prop
 | .lst ds=>∃ xs,H a=some (.lst xs)/\RDs K H ρ ds xs
 | .plc=>yG K H a
 | .plq x=>yH K H x a
 | .fzd=>∃ o u,H a=some (.frz o u)
 | .dtk kvs=>∃ xs,H a=some (.dN xs)/\KN K H ρ kvs xs
 | .dct kvs=>∃ xs:List (Key×V),H a=some (.dK xs)/\xs.map (·.1)=kvs.map (·.1)/\RDs K H ρ (kvs.map (·.2)) (xs.map (·.2))
structure RS (K:PySem.W.Frag) (H:Hp) (ρ:List Addr) (mh:MH):Prop where
 len:ρ.length=mh.length
 nd:ρ.Nodup
 obj:∀ (n:Nat) (a:Addr) (o:MO),ρ[n]?=some a->mh[n]?=some o->RO K H ρ a o
noncomputable def RL (K:PySem.W.Frag) (H:Hp) (ρ:List Addr) (loc:Loc) (σ:St):Prop:=loc.length=σ.length/\∀ (i:Nat) (d:D),loc[i]?=some (some d)->∃ v,σ[i]?=some (some v)/\RD K H ρ d v
theorem RL.mono {loc:Loc}{σ:St}(e:Ev K H ρ H' ρ') (h:RL K H ρ loc σ):RL K H' ρ' loc σ:=⟨h.1,fun i d q=>let ⟨v,e1,r⟩:=h.2 i d q;⟨v,e1,r.mono e⟩⟩
theorem RL.set {loc:Loc}{σ:St}{d:D}{v:V}{i:Nat}(h:RL K H ρ loc σ) (r:RD K H ρ d v):RL K H ρ (loc.set i (some d)) (σ.set i (some v)):=by
 refine ⟨by rw [List.length_set,List.length_set];exact h.1,fun j d' q=>?_⟩
 by_cases e:i=j
 ·subst e;rw [List.getElem?_set] at q;simp only [if_true] at q;split at q
  ·rename_i hl;cases q;refine ⟨v,?_,r⟩;rw [List.getElem?_set];simp only [if_true];rw [if_pos (by rw [← h.1];exact hl)]
  ·cases q
 ·rw [List.getElem?_set_ne e] at q;rw [List.getElem?_set_ne e];exact h.2 j d' q
theorem RS.at {mh:MH}(h:RS K H ρ mh) {n:Nat}{o:MO}(e:mh[n]?=some o):∃ a,ρ[n]?=some a/\RO K H ρ a o:=by
 obtain ⟨hl,_⟩:=List.getElem?_eq_some_iff.mp e;have hl':n < ρ.length:=by rw [h.len];exact hl
 exact ⟨ρ[n],List.getElem?_eq_getElem hl',h.obj n _ o (List.getElem?_eq_getElem hl') e⟩
theorem RS.tracked {mh:MH}(h:RS K H ρ mh) {a:Addr}(ha:a∈ρ):∃ o,H a=some o:=by
 obtain ⟨n,hn,rfl⟩:=List.getElem_of_mem ha;have hl:n < mh.length:=by rw [← h.len];exact hn
 have q:=h.obj n _ _ (List.getElem?_eq_getElem hn) (List.getElem?_eq_getElem hl);cases e:mh[n] with
 | lst ds=>rw [e] at q;obtain ⟨xs,q,_⟩:=q;exact ⟨_,q⟩
 | dct kvs=>rw [e] at q;obtain ⟨xs,q,_⟩:=q;exact ⟨_,q⟩
 | dtk kvs=>rw [e] at q;obtain ⟨xs,q,_⟩:=q;exact ⟨_,q⟩
 | plc=>rw [e] at q;obtain ⟨xs,q,_⟩:=q;exact ⟨_,q⟩
 | plq x=>rw [e] at q;obtain ⟨xs,q,_⟩:=q;exact ⟨_,q⟩
 | fzd=>rw [e] at q;obtain ⟨o,u,q⟩:=q;exact ⟨_,q⟩
theorem RO.read {a:Addr}{ds:List D}(h:RO K H ρ a (.lst ds)):∃ xs,SqL K H a xs/\RDs K H ρ ds xs:=by
 obtain ⟨xs,q,r⟩:=h;exact ⟨xs,.inl (.inl q),r⟩
theorem Vp {a p:Addr}{o:HO}{xs:List V}(hp:H p=none) (h:SqT K H a xs):SqT K (upd H p o) a xs:=by
 rcases h with (h|⟨ob,h⟩)|h
 ·exact .inl (.inl (by rw [Ac (Ai h hp)];exact h))
 ·exact .inl (.inr ⟨ob,by rw [Ac (Ai h hp)];exact h⟩)
 ·exact .inr h
theorem jE {a p:Addr}{ys zs xs:List V}(hp:H p=some (.lst ys)) (h:SqT K H a xs):SqT K (upd H p (.lst zs)) a xs:=by
 rcases h with (h|⟨ob,h⟩)|h
 ·exact .inl (.inl (by rw [Ac (Gm h hp (by intro z;cases z))];exact h))
 ·exact .inl (.inr ⟨ob,by rw [Ac (Gm h hp (by intro z;cases z))];exact h⟩)
 ·exact .inr h
theorem Rj {a p:Addr}{o:HO}{xs:List V}(hp:H p=none) (h:Gi K H a xs):Gi K (upd H p o) a xs:=by
 rcases h with ⟨ob,h⟩|h
 ·exact .inl ⟨ob,by rw [Ac (Ai h hp)];exact h⟩
 ·exact .inr h
theorem Zg {a p:Addr}{ys zs xs:List V}(hp:H p=some (.lst ys)) (h:Gi K H a xs):Gi K (upd H p (.lst zs)) a xs:=by
 rcases h with ⟨ob,h⟩|h
 ·exact .inl ⟨ob,by rw [Ac (Gm h hp (by intro z;cases z))];exact h⟩
 ·exact .inr h
theorem Ev.new {p:Addr}{o:HO}(hp:H p=none):Ev K H ρ (upd H p o) ρ:=⟨fun _ _ h=>Vp hp h,List.prefix_refl _,fun _ _ h=>Rj hp h,fun a _ _ _ h=>by rw [Ac (Ai h hp)];exact h,fun a _ _ h=>by rw [Ac (Ai h hp)];exact h⟩
theorem Ev.newL {p:Addr}{o:HO}(hp:H p=none):Ev K H ρ (upd H p o) (ρ++[p]):=⟨fun _ _ h=>Vp hp h,List.prefix_append _ _,fun _ _ h=>Rj hp h,fun a _ _ _ h=>by rw [Ac (Ai h hp)];exact h,fun a _ _ h=>by rw [Ac (Ai h hp)];exact h⟩
theorem Ev.lst {p:Addr}{ys zs:List V}(hp:H p=some (.lst ys)):Ev K H ρ (upd H p (.lst zs)) ρ:=⟨fun _ _ h=>jE hp h,List.prefix_refl _,fun _ _ h=>Zg hp h,fun a _ _ _ h=>by rw [Ac (Gm h hp (by intro z;cases z))];exact h,fun a _ _ h=>by rw [Ac (Gm h hp (by intro z;cases z))];exact h⟩
theorem RO.mono {a:Addr}{o:MO}(e:Ev K H ρ H' ρ') (s:H' a=H a) (h:RO K H ρ a o):RO K H' ρ' a o:=by
 cases o with
 | lst ds=>obtain ⟨xs,q,r⟩:=h;exact ⟨xs,by rw [s];exact q,r.mono e⟩
 | dct kvs=>obtain ⟨xs,q,k,r⟩:=h;exact ⟨xs,by rw [s];exact q,k,r.mono e⟩
 | dtk kvs=>obtain ⟨xs,q,r⟩:=h;exact ⟨xs,by rw [s];exact q,r.mono e⟩
 | plc=>obtain ⟨ps,q,t,c,k⟩:=h;exact ⟨ps,by rw [s];exact q,t,fun pos v z=>(c pos v z).mono e.frz,k⟩
 | plq x=>obtain ⟨ps,q,t,c,k⟩:=h;exact ⟨ps,by rw [s];exact q,t,fun pos v z=>(c pos v z).mono e.frz,k⟩
 | fzd=>obtain ⟨o,u,q⟩:=h;exact ⟨o,u,by rw [s];exact q⟩
theorem RS.new {mh:MH}{p:Addr}{o:HO}(h:RS K H ρ mh) (hp:H p=none):RS K (upd H p o) ρ mh :=
 ⟨h.len,h.nd,fun n a ob e1 e2=>(h.obj n a ob e1 e2).mono (Ev.new hp) (by
  obtain ⟨oo,q⟩:=h.tracked (List.mem_of_getElem? e1)
  rw [Ac (Ai q hp)])⟩
theorem RS.newL {mh:MH}{p:Addr}{xs:List V}{ds:List D}(h:RS K H ρ mh) (hp:H p=none) (r:RDs K H ρ ds xs):RS K (upd H p (.lst xs)) (ρ++[p]) (mh++[.lst ds]):=by
 have hnp:p ∉ ρ:=fun z=>by
  obtain ⟨o,q⟩:=h.tracked z;rw [hp] at q;cases q
 refine ⟨by rw [List.length_append,List.length_append,h.len];rfl,?_,fun n a ob e1 e2=>?_⟩
 ·rw [List.nodup_append]
  exact ⟨h.nd,List.pairwise_singleton _ _,fun a ha b hb z=>by
   rw [List.mem_singleton.mp hb] at z;rw [z] at ha;exact hnp ha⟩
 ·by_cases hn:n < ρ.length
  ·rw [List.getElem?_append_left hn] at e1;rw [List.getElem?_append_left (by rw [← h.len];exact hn)] at e2;refine (h.obj n a ob e1 e2).mono (Ev.newL hp) ?_;obtain ⟨oo,q⟩:=h.tracked (List.mem_of_getElem? e1);rw [Ac (Ai q hp)]
  ·rw [List.getElem?_append_right (by omega)] at e1;rw [List.getElem?_append_right (by rw [← h.len];omega)] at e2;have n0:n - ρ.length=0:=by
    have:=(List.getElem?_eq_some_iff.mp e1).1;simp at this;omega
   rw [n0] at e1;rw [← h.len,n0] at e2;cases e1;cases e2;exact ⟨xs,Be,r.mono (Ev.newL hp)⟩
theorem RS.setL {mh:MH}{n:Nat}{p:Addr}{ys xs:List V}{ds:List D}(h:RS K H ρ mh) (hn:ρ[n]?=some p) (hp:H p=some (.lst ys)) (r:RDs K H ρ ds xs):RS K (upd H p (.lst xs)) ρ (mh.set n (.lst ds)):=by
 refine ⟨by rw [List.length_set];exact h.len,h.nd,fun m a ob e1 e2=>?_⟩
 by_cases hm:n=m
 ·subst hm;rw [hn] at e1;cases e1;rw [List.getElem?_set] at e2;simp only [if_true] at e2;split at e2
  ·cases e2;exact ⟨xs,Be,r.mono (Ev.lst hp)⟩
  ·cases e2
 ·rw [List.getElem?_set_ne hm] at e2;refine (h.obj m a ob e1 e2).mono (Ev.lst hp) ?_;rw [Ac];intro z;subst z;exact hm ((List.getElem?_inj (List.getElem?_eq_some_iff.mp hn).1 h.nd).mp (hn.trans e1.symm))
end
noncomputable abbrev DM (α:Type):=Loc->MH->Option (α×MH)
noncomputable def DM.bnd {α β:Type}(m:DM α) (f:α->DM β):DM β:=fun loc mh=>match m loc mh with
 | none=>none
 | some (a,mh')=>f a loc mh'
theorem Aj {α β:Type}{m:DM α}{f:α->DM β}{loc:Loc}{mh:MH}{r:β×MH}(h:m.bnd f loc mh=some r):∃ a m1,m loc mh=some (a,m1)/\f a loc m1=some r:=by
 unfold DM.bnd at h;split at h
 ·cases h
 ·rename_i a m1 e;exact ⟨a,m1,e,h⟩
noncomputable def Zr {α:Type}(a:α):DM α:=fun _ mh=>some (a,mh)
noncomputable def Zl {α:Type}(f:MH->Option (α×MH)):DM α:=fun _ mh=>f mh
noncomputable def Zb {α:Type}:DM α:=fun _ _=>none
noncomputable def Co (K:PySem.W.Frag) (H:Hp) (ρ:List Addr) (mh':MH) (d:D) (Q:VK):Prop:=∀ H' ρ' v,Ev K H ρ H' ρ'->RS K H' ρ' mh'->RD K H' ρ' d v->Q v H'
noncomputable def tD (K:PySem.W.Frag) (loc:Loc) (mh:MH) (r:Option (D×MH)):TE:=fun σ H Q=>∃ ρ d mh',r=some (d,mh')/\RL K H ρ loc σ/\RS K H ρ mh/\Co K H ρ mh' d Q
noncomputable def tDT (K:PySem.W.Frag) (loc:Loc) (mh:MH) (r:Option (Bool×MH)):TT:=fun σ H Q=>∃ ρ b mh',r=some (b,mh')/\RL K H ρ loc σ/\RS K H ρ mh/\∀ H' ρ',Ev K H ρ H' ρ'->RS K H' ρ' mh'->Q b H'
noncomputable def tDA (K:PySem.W.Frag) (loc:Loc) (mh:MH) (r:Option (List D×MH)):TA:=fun σ H Q=>∃ ρ ds mh',r=some (ds,mh')/\RL K H ρ loc σ/\RS K H ρ mh/\∀ H' ρ' vs,Ev K H ρ H' ρ'->RS K H' ρ' mh'->RDs K H' ρ' ds vs->Q vs H'
noncomputable def DE (X:Cx) (e:Expr) (m:DM D):Prop:=∀ loc mh,PE X e (tD X.K loc mh (m loc mh))
noncomputable def DT (X:Cx) (e:Expr) (m:DM Bool):Prop:=∀ loc mh,PT X e (tDT X.K loc mh (m loc mh))
noncomputable def DA (X:Cx) (es:List Expr) (m:DM (List D)):Prop:=∀ loc mh,PA X es (tDA X.K loc mh (m loc mh))
theorem Bg {X:Cx}{e:Expr}{t t':TE}(h:PE X e t) (i:∀ σ H Q,t' σ H Q->t σ H Q):PE X e t':=fun pins s σ H Q I q=>h pins s σ H Q I (i σ H Q q)
theorem Pj {X:Cx}{e:Expr}{t t':TT}(h:PT X e t) (i:∀ σ H Q,t' σ H Q->t σ H Q):PT X e t':=fun pins s σ H Q I q=>h pins s σ H Q I (i σ H Q q)
theorem Zh {X:Cx}{es:List Expr}{t t':TA}(h:PA X es t) (i:∀ σ H Q,t' σ H Q->t σ H Q):PA X es t':=fun pos pins s σ H Q I q=>h pos pins s σ H Q I (i σ H Q q)
theorem jF {K:PySem.W.Frag}{loc:Loc}{mh:MH}{σ:St}{H:Hp}{Q:VK}(h:tD K loc mh none σ H Q):False:=by obtain ⟨_,_,_,e,_⟩:=h;cases e
theorem Dr {X:Cx}{e:Expr}{loc:Loc}{mh:MH}:PE X e (tD X.K loc mh none):=fun _ _ _ _ _ _ h=>(jF h).elim
theorem Vq {X:Cx}{e:Expr}{loc:Loc}{mh:MH}:PT X e (tDT X.K loc mh none):=fun _ _ _ _ _ _ h=>by obtain ⟨_,_,_,e,_⟩:=h;cases e
theorem Vr {X:Cx}{es:List Expr}{loc:Loc}{mh:MH}:PA X es (tDA X.K loc mh none):=fun _ _ _ _ _ _ _ h=>by obtain ⟨_,_,_,e,_⟩:=h;cases e
theorem Ad {X:Cx}{e:Expr}:DE X e Zb:=fun _ _=>Dr
theorem Cw {X:Cx}{e:Expr}:DT X e Zb:=fun _ _=>Vq
theorem Zi {X:Cx}{es:List Expr}:DA X es Zb:=fun _ _=>Vr
section
variable {X:Cx}{a b c e:Expr}{ma mb mc:DM D}{pos:Pos}
theorem jG {d:D}{v:V}(h:PE X e (tC v)) (r:∀ K H ρ,RD K H ρ d v):DE X e (Zr d):=by
 refine fun loc mh=>Bg h ?_
 rintro σ H Q ⟨ρ,d',mh',q,rl,rs,co⟩;cases q;exact co H ρ v Ev.refl rs (r _ _ _)
theorem rG {i:Nat}{x:Str}(hN:X.N[i]?=some x) (hv:Vis X.env.scope x) (hd:(x==("__debug__":Str))=false) (hcd:(x==("__classdict__":Str))=false) :
  DE X (.Name x pos) (fun loc mh=>match loc[i]? with | some (some d)=>some (d,mh) | _=>none):=by
 refine fun loc mh=>Bg (pG hN hv hd hcd) ?_
 rintro σ H Q ⟨ρ,d',mh',q,rl,rs,co⟩;dsimp only at q;split at q
 ·rename_i d e;cases q;obtain ⟨v,h1,h2⟩:=rl.2 i d' e;exact ⟨v,h1,co H ρ v Ev.refl rs h2⟩
 ·cases q
noncomputable def rD (K:PySem.W.Frag) (f:D->D->MH->Option (D×MH)):R2:=fun x y H Q=>∃ ρ mh dx dy d mh',f dx dy mh=some (d,mh')/\RS K H ρ mh/\RD K H ρ dx x/\RD K H ρ dy y/\Co K H ρ mh' d Q
noncomputable def rD1 (K:PySem.W.Frag) (f:D->MH->Option (D×MH)):V->Hp->VK->Prop:=fun x H Q=>∃ ρ mh dx d mh',f dx mh=some (d,mh')/\RS K H ρ mh/\RD K H ρ dx x/\Co K H ρ mh' d Q
noncomputable def rDs (K:PySem.W.Frag) (f:List D->MH->Option (D×MH)):List V->Hp->VK->Prop:=fun xs H Q=>∃ ρ mh ds d mh',f ds mh=some (d,mh')/\RS K H ρ mh/\RDs K H ρ ds xs/\Co K H ρ mh' d Q
theorem Co.ev {K:PySem.W.Frag}{H H1:Hp}{ρ ρ1:List Addr}{mh':MH}{d:D}{Q:VK}(e:Ev K H ρ H1 ρ1) (c:Co K H ρ mh' d Q):Co K H1 ρ1 mh' d Q:=fun H' ρ' v e' rs r=>c H' ρ' v (e.trans e') rs r
noncomputable def dop (f:D->D->MH->Option (D×MH)) (ma mb:DM D):DM D:=ma.bnd fun x=>mb.bnd fun y=>Zl (f x y)
theorem two {K:PySem.W.Frag}{f:D->D->MH->Option (D×MH)}{loc:Loc}{mh:MH}{σ:St}{H:Hp}{Q:VK}(h:tD K loc mh (dop f ma mb loc mh) σ H Q) :
  ∃ x m1,ma loc mh=some (x,m1)/\tOp (rD K f) (tD K loc mh (ma loc mh)) (tD K loc m1 (mb loc m1)) σ H Q:=by
 obtain ⟨ρ,d,mh',q,rl,rs,co⟩:=h;obtain ⟨x,m1,ea,q⟩:=Aj q;obtain ⟨y,m2,eb,q⟩:=Aj q;refine ⟨x,m1,ea,ρ,x,m1,ea,rl,rs,fun H1 ρ1 v1 e1 rs1 r1=>⟨ρ1,y,m2,eb,rl.mono e1,rs1,fun H2 ρ2 v2 e2 rs2 r2=>?_⟩⟩;exact ⟨ρ2,m2,x,y,d,mh',q,rs2,r1.mono e2,r2,co.ev (e1.trans e2)⟩
theorem T5 {f:D->D->MH->Option (D×MH)}(h:∀ ta tb,PE X a ta->PE X b tb->PE X e (tOp (rD X.K f) ta tb)) (ha:DE X a ma) (hb:DE X b mb):DE X e (dop f ma mb):=fun loc mh=>by
 cases ea:ma loc mh with
 | none =>
  have:dop f ma mb loc mh=none:=by unfold dop DM.bnd;rw [ea]
  rw [this];exact Dr
 | some p =>
  refine Bg (h _ _ (ha loc mh) (hb loc p.2)) fun σ H Q q=>?_
  obtain ⟨x,m1,e1,q⟩:=two q;rw [ea] at e1;cases e1;exact q
theorem yI {op:Operator}{f:D->D->MH->Option (D×MH)}(ho:OpR X (binaryOp op) (rD X.K f)) (ha:DE X a ma) (hb:DE X b mb):DE X (.BinOp a op b pos) (dop f ma mb):=T5 (fun _ _ p q=>xG ho p q) ha hb
theorem rH {op:CmpOp}{f:D->D->MH->Option (D×MH)}(ho:OpR X (compareOp op) (rD X.K f)) (hm:behindInMarks op b=false) (ha:DE X a ma) (hb:DE X b mb):DE X (.Compare a [op] [b] pos) (dop f ma mb):=T5 (fun _ _ p q=>iB ho p q hm) ha hb
theorem yJ {f:D->D->MH->Option (D×MH)}(ho:IxR X (rD X.K f)) (hs:O5 b) (ha:DE X a ma) (hb:DE X b mb):DE X (.Subscript a b pos) (dop f ma mb):=T5 (fun _ _ p q=>xV ho p q hs) ha hb
theorem yK {op:UnaryOp}{f:D->MH->Option (D×MH)}(ho:UnR X (unaryOp op) (rD1 X.K f)) (ha:DE X a ma):DE X (.UnaryOp op a pos) (ma.bnd fun x=>Zl (f x)):=fun loc mh =>
 Bg (xH ho (ha loc mh)) fun σ H Q ⟨ρ,d,mh',q,rl,rs,co⟩=>by
 obtain ⟨x,m1,ea,q⟩:=Aj q
 ·exact ⟨ρ,x,m1,ea,rl,rs,fun H1 ρ1 v1 e1 rs1 r1=>⟨ρ1,m1,x,d,mh',q,rs1,r1,co.ev e1⟩⟩
noncomputable def asB:D->Option Bool
 | .bl b=>some b
 | _=>none
noncomputable def Ae (ma:DM D):DM Bool:=ma.bnd fun x=>match asB x with | some b=>Zr b | none=>Zb
theorem jH {f:D->D->MH->Option (D×MH)}(h:∀ ta tb,PE X a ta->PE X b tb->PT X e (Yv (tOp (rD X.K f) ta tb))) (ha:DE X a ma) (hb:DE X b mb):DT X e (Ae (dop f ma mb)):=fun loc mh=>by
 cases ea:ma loc mh with
 | none =>
  have:Ae (dop f ma mb) loc mh=none:=by unfold Ae dop DM.bnd;rw [ea]
  rw [this];exact Vq
 | some p =>
  refine Pj (h _ _ (ha loc mh) (hb loc p.2)) ?_;rintro σ H Q ⟨ρ,k,mh',q,rl,rs,co⟩;unfold Ae at q;cases ed:dop f ma mb loc mh with
  | none=>unfold DM.bnd at q;rw [ed] at q;cases q
  | some z =>
   obtain ⟨d,m2⟩:=z;unfold DM.bnd at q;rw [ed] at q;cases d with
   | bl k' =>
    cases q;have t:tD X.K loc mh (dop f ma mb loc mh) σ H (fun x H'=>∃ k,x=.bl k/\Q k H'):=⟨ρ,.bl k,mh',ed,rl,rs,fun H' ρ' v e' rs' r'=>by cases r';exact ⟨k,rfl,co H' ρ' e' rs'⟩⟩;obtain ⟨x,m1,e1,q⟩:=two t;rw [ea] at e1;cases e1;exact q
   | non=>cases q
   | int i=>cases q
   | str s=>cases q
   | tup ds=>cases q
   | ref n=>cases q
   | rol ds=>cases q
   | obj c ks ds=>cases q
   | fn x=>cases q
   | lam=>cases q
   | clo=>cases q
theorem rJ {op:CmpOp}{f:D->D->MH->Option (D×MH)}(ho:OpR X (compareOp op) (rD X.K f)) (hm:behindInMarks op b=false) (ha:DE X a ma) (hb:DE X b mb):DT X (.Compare a [op] [b] pos) (Ae (dop f ma mb)):=jH (fun _ _ p q=>iC ho p q hm) ha hb
noncomputable def Gp (t u:DM Bool):DM Bool:=t.bnd fun c=>if c=true then u else Zr false
noncomputable def Le (t u:DM Bool):DM Bool:=t.bnd fun c=>if c=true then Zr true else u
noncomputable def N5 (t:DM Bool):DM Bool:=t.bnd fun c=>Zr (!c)
noncomputable def DW (X:Cx) (e:Expr) (m:DM Bool):Prop:=∀ loc mh,PW X e (tDT X.K loc mh (m loc mh))
theorem Vs {loc:Loc}{mh:MH}:PW X e (tDT X.K loc mh none):=fun _ _ _ _ _ _ _ h=>by obtain ⟨_,_,_,e,_⟩:=h;cases e
theorem Zj {t t':TT}(h:PW X e t) (i:∀ σ H Q,t' σ H Q->t σ H Q):PW X e t':=fun wh pins s σ H Q I q=>h wh pins s σ H Q I (i σ H Q q)
theorem DW.dt {m:DM Bool}(h:DW X e m):DT X e m:=fun loc mh=>(h loc mh).pt
variable {t u:DM Bool}{rest:List Expr}
theorem jJ (ha:DT X a t):DW X (.BoolOp .And [a] pos) t:=fun loc mh=>gO (ha loc mh)
theorem rK (ha:DT X a t):DW X (.BoolOp .Or [a] pos) t:=fun loc mh=>pK (ha loc mh)
theorem rM (ha:DT X a t) (hb:DW X (.BoolOp .And (b::rest) pos) u):DW X (.BoolOp .And (a::b::rest) pos) (Gp t u):=fun loc mh=>by
 cases ea:t loc mh with
 | none =>
  have:Gp t u loc mh=none:=by unfold Gp DM.bnd;rw [ea]
  rw [this];exact Vs
 | some p =>
  obtain ⟨k,m1⟩:=p;refine Zj (pL (ha loc mh) (hb loc m1)) ?_;rintro σ H Q ⟨ρ,k',mh',q,rl,rs,co⟩;have q':(if k=true then u else Zr false) loc m1=some (k',mh'):=by unfold Gp DM.bnd at q;rw [ea] at q;exact q
  refine ⟨ρ,k,m1,ea,rl,rs,fun H1 ρ1 e1 rs1=>?_⟩;cases k with
  | true=>exact Pb ⟨ρ1,k',mh',q',rl.mono e1,rs1,fun H2 ρ2 e2 rs2=>co H2 ρ2 (e1.trans e2) rs2⟩
  | false=>cases q';exact Pa (co H1 ρ1 e1 rs1)
theorem yL (ha:DT X a t) (hb:DW X (.BoolOp .Or (b::rest) pos) u):DW X (.BoolOp .Or (a::b::rest) pos) (Le t u):=fun loc mh=>by
 cases ea:t loc mh with
 | none =>
  have:Le t u loc mh=none:=by unfold Le DM.bnd;rw [ea]
  rw [this];exact Vs
 | some p =>
  obtain ⟨k,m1⟩:=p;refine Zj (wJ (ha loc mh) (hb loc m1)) ?_;rintro σ H Q ⟨ρ,k',mh',q,rl,rs,co⟩;have q':(if k=true then Zr true else u) loc m1=some (k',mh'):=by unfold Le DM.bnd at q;rw [ea] at q;exact q
  refine ⟨ρ,k,m1,ea,rl,rs,fun H1 ρ1 e1 rs1=>?_⟩;cases k with
  | true=>cases q';exact Pb (co H1 ρ1 e1 rs1)
  | false=>exact Pa ⟨ρ1,k',mh',q',rl.mono e1,rs1,fun H2 ρ2 e2 rs2=>co H2 ρ2 (e1.trans e2) rs2⟩
theorem rN (ha:DT X a t):DT X (.UnaryOp .Not a pos) (N5 t):=fun loc mh=>by
 refine Pj (pM (ha loc mh)) ?_;rintro σ H Q ⟨ρ,k',mh',q,rl,rs,co⟩;obtain ⟨k,m1,ea,q⟩:=Aj q
 ·cases q;exact ⟨ρ,k,mh',ea,rl,rs,fun H1 ρ1 e1 rs1=>co H1 ρ1 e1 rs1⟩
noncomputable def dIf (t:DM Bool) (ma mb:DM D):DM D:=t.bnd fun c=>if c=true then ma else mb
theorem yM (hc:DT X c t) (ha:DE X a ma) (hb:DE X b mb):DE X (.IfExp c a b pos) (dIf t ma mb):=fun loc mh=>by
 cases ea:t loc mh with
 | none =>
  have:dIf t ma mb loc mh=none:=by unfold dIf DM.bnd;rw [ea]
  rw [this];exact Dr
 | some p =>
  obtain ⟨k,m1⟩:=p;refine Bg (Yo (hc loc mh) (ha loc m1) (hb loc m1)) ?_;rintro σ H Q ⟨ρ,d,mh',q,rl,rs,co⟩;have q':(if k=true then ma else mb) loc m1=some (d,mh'):=by unfold dIf DM.bnd at q;rw [ea] at q;exact q
  refine ⟨ρ,k,m1,ea,rl,rs,fun H1 ρ1 e1 rs1=>?_⟩;cases k with
  | true=>exact Pb ⟨ρ1,d,mh',q',rl.mono e1,rs1,co.ev e1⟩
  | false=>exact Pa ⟨ρ1,d,mh',q',rl.mono e1,rs1,co.ev e1⟩
noncomputable def Rk (ma mb:DM D):DM D:=(Ae ma).bnd fun c=>if c=true then mb else Zr (.bl false)
noncomputable def Zk (ma mb:DM D):DM D:=(Ae ma).bnd fun c=>if c=true then Zr (.bl true) else mb
theorem Ea {loc:Loc}{mh:MH}{k:Bool}{m1:MH}(h:Ae ma loc mh=some (k,m1)):ma loc mh=some (.bl k,m1):=by
 obtain ⟨x,m2,ea,h⟩:=Aj h
 ·cases x with
  | bl b=>cases h;exact ea
  | non=>cases h
  | int i=>cases h
  | str s=>cases h
  | tup ds=>cases h
  | ref n=>cases h
  | rol ds=>cases h
  | obj c ks ds=>cases h
  | fn x=>cases h
  | lam=>cases h
  | clo=>cases h
theorem rO {op}(ha:DE X a ma):DE X (.BoolOp op [a] pos) ma:=fun loc mh=>pN (ha loc mh)
theorem rP (ha:DE X a ma) (hb:DE X (.BoolOp .And (b::rest) pos) mb):DE X (.BoolOp .And (a::b::rest) pos) (Rk ma mb):=fun loc mh=>by
 cases ea:Ae ma loc mh with
 | none =>
  have:Rk ma mb loc mh=none:=by unfold Rk DM.bnd;rw [ea]
  rw [this];exact Dr
 | some p =>
  obtain ⟨k,m1⟩:=p;refine Bg (pO (ha loc mh) (hb loc m1)) ?_;rintro σ H Q ⟨ρ,d,mh',q,rl,rs,co⟩;have q':(if k=true then mb else Zr (.bl false)) loc m1=some (d,mh'):=by unfold Rk DM.bnd at q;rw [ea] at q;exact q
  refine ⟨ρ,.bl k,m1,Ea ea,rl,rs,fun H1 ρ1 v e1 rs1 r1=>?_⟩;cases r1;refine ⟨k,rfl,?_⟩;cases k with
  | true=>exact Pb ⟨ρ1,d,mh',q',rl.mono e1,rs1,co.ev e1⟩
  | false=>cases q';exact Pa (co H1 ρ1 _ e1 rs1 (.bl false))
theorem yN (ha:DE X a ma) (hb:DE X (.BoolOp .Or (b::rest) pos) mb):DE X (.BoolOp .Or (a::b::rest) pos) (Zk ma mb):=fun loc mh=>by
 cases ea:Ae ma loc mh with
 | none =>
  have:Zk ma mb loc mh=none:=by unfold Zk DM.bnd;rw [ea]
  rw [this];exact Dr
 | some p =>
  obtain ⟨k,m1⟩:=p;refine Bg (wM (ha loc mh) (hb loc m1)) ?_;rintro σ H Q ⟨ρ,d,mh',q,rl,rs,co⟩;have q':(if k=true then Zr (.bl true) else mb) loc m1=some (d,mh'):=by unfold Zk DM.bnd at q;rw [ea] at q;exact q
  refine ⟨ρ,.bl k,m1,Ea ea,rl,rs,fun H1 ρ1 v e1 rs1 r1=>?_⟩;cases r1;refine ⟨k,rfl,?_⟩;cases k with
  | true=>cases q';exact Pb (co H1 ρ1 _ e1 rs1 (.bl true))
  | false=>exact Pa ⟨ρ1,d,mh',q',rl.mono e1,rs1,co.ev e1⟩
theorem rQ (ha:DE X a ma):DE X (.UnaryOp .Not a pos) ((Ae ma).bnd fun c=>Zr (.bl (!c))):=fun loc mh=>by
 refine Bg (pP (ha loc mh)) ?_;rintro σ H Q ⟨ρ,d,mh',q,rl,rs,co⟩;cases ea:Ae ma loc mh with
 | none=>unfold DM.bnd at q;rw [ea] at q;cases q
 | some p =>
  obtain ⟨k,m1⟩:=p;unfold DM.bnd at q;rw [ea] at q;cases q;refine ⟨ρ,.bl k,mh',Ea ea,rl,rs,fun H1 ρ1 v e1 rs1 r1=>?_⟩;cases r1;exact ⟨k,rfl,co H1 ρ1 _ e1 rs1 (.bl _)⟩
noncomputable def Zm:D->MH->Option Bool
 | .non,_=>some false
 | .bl b,_=>some b
 | .int i,_=>some (i != 0)
 | .str y,_=>if y.length<=sizeLine then some ((y.length:Int) != 0) else none
 | .tup ds,_=>some (!ds.isEmpty)
 | .ref n,mh=>match mh[n]? with | some (.lst o)=>some (!o.isEmpty) | _=>none
 | .rol ds,_=>some (!ds.isEmpty)
 | .obj ..,_=>none
 | .fn _,_=>none
 | .lam,_=>none
 | .clo _ _,_=>none
theorem Gq {K:PySem.W.Frag}{H:Hp}{ρ:List Addr}{ds:List D}{xs:List V}(r:RDs K H ρ ds xs):ds.isEmpty=xs.isEmpty:=by cases r <;> rfl
theorem jK {K:PySem.W.Frag}{H:Hp}{ρ:List Addr}{mh:MH}{d:D}{v:V}{k:Bool}(rs:RS K H ρ mh) (r:RD K H ρ d v) (e:Zm d mh=some k):qN K v H k:=by
 cases r with
 | non=>cases e;rfl
 | bl b=>cases e;rfl
 | int i=>cases e;rfl
 | str x =>
  have e:(if x.length<=sizeLine then some ((x.length:Int) != 0) else none)=some k:=e;split at e
  ·rename_i hz;cases e;exact ⟨hz,rfl⟩
  ·cases e
 | tup s r=>cases e;exact .inr (.inl ⟨_,s,by rw [Gq r]⟩)
 | rol s r=>cases e;exact .inl ⟨_,s.sq,by rw [Gq r]⟩
 | obj n s l r=>cases e
 | fn h=>cases e
 | lam h=>cases e
 | clo=>cases e
 | @ref n a h =>
  have e:(match mh[n]? with | some (.lst o)=>some (!o.isEmpty) | _=>none)=some k:=e;split at e
  ·rename_i o eo;cases e;obtain ⟨a',ha,ro⟩:=rs.at eo;rw [h] at ha;cases ha;obtain ⟨xs,q,r⟩:=ro.read;exact .inl ⟨xs,q,by rw [Gq r]⟩
  ·cases e
noncomputable def Nf (ma:DM D):DM Bool:=ma.bnd fun x=>fun _ mh=>match Zm x mh with | some k=>some (k,mh) | none=>none
theorem Rm (ha:DE X a ma) (he:∀ whole,isTrue a X.env whole=(do let v ← whole;standAt a.pos;holding [v] (truthy v))):DT X a (Nf ma):=fun loc mh=>by
 refine Pj (Yy (ha loc mh) he) ?_;rintro σ H Q ⟨ρ,k,mh',q,rl,rs,co⟩;obtain ⟨x,m1,ea,q⟩:=Aj q
 ·split at q
  ·rename_i k' ek;cases q;exact ⟨ρ,x,mh',ea,rl,rs,fun H1 ρ1 v e1 rs1 r1=>⟨k,jK rs1 r1 ek,co H1 ρ1 e1 rs1⟩⟩
  ·cases q
noncomputable def Aa (ma:DM D) (mr:DM (List D)):DM (List D):=ma.bnd fun x=>mr.bnd fun xs=>Zr (x::xs)
theorem rR:DA X [] (Zr []):=by
 refine fun loc mh=>Zh Y0 ?_
 rintro σ H Q ⟨ρ,ds,mh',q,rl,rs,co⟩;cases q;exact co H ρ [] Ev.refl rs .nil
theorem jM {es:List Expr}{mr:DM (List D)}(ha:DE X a ma) (hr:DA X es mr) (hs:starEach (a::es) X.env=(false,eval a X.env)::starEach es X.env):DA X (a::es) (Aa ma mr):=fun loc mh=>by
 cases ea:ma loc mh with
 | none =>
  have:Aa ma mr loc mh=none:=by unfold Aa DM.bnd;rw [ea]
  rw [this];exact Vr
 | some p =>
  obtain ⟨x,m1⟩:=p;refine Zh (Vi (ha loc mh) (hr loc m1) hs) ?_;rintro σ H Q ⟨ρ,ds,mh',q,rl,rs,co⟩;obtain ⟨x2,m2,ea2,q⟩:=Aj q;rw [ea] at ea2;cases ea2;obtain ⟨xs,m2,er,q'⟩:=Aj q
  ·cases q';exact ⟨ρ,x,m1,ea,rl,rs,fun H1 ρ1 v e1 rs1 r1=>⟨ρ1,xs,mh',er,rl.mono e1,rs1,fun H2 ρ2 vs e2 rs2 r2=>co H2 ρ2 _ (e1.trans e2) rs2 (.cons (r1.mono e2) r2)⟩⟩
noncomputable def N6 (ds:List D) (mh:MH):Option (D×MH):=if ds.length<=sizeLine then some (.tup ds,mh) else none
noncomputable def N7 (ds:List D) (mh:MH):Option (D×MH):=if ds.length<=sizeLine then some (.ref mh.length,mh++[.lst ds]) else none
theorem RS.last {K:PySem.W.Frag}{H:Hp}{ρ:List Addr}{mh:MH}(h:RS K H ρ mh) (p:Addr):(ρ++[p])[mh.length]?=some p:=by rw [← h.len];simp
theorem Co.newT {K:PySem.W.Frag}{H:Hp}{ρ:List Addr}{mh:MH}{ds:List D}{vs:List V}{Q:VK}(rs:RS K H ρ mh) (r:RDs K H ρ ds vs) (co:Co K H ρ mh (.tup ds) Q):∀ p,H p=none->Q (.ref p) (upd H p (.tup vs)):=fun p hp =>
 co _ ρ _ (Ev.new hp) (rs.new hp) (.tup (.inl (.inl Be)) (r.mono (Ev.new hp)))
theorem Co.newL {K:PySem.W.Frag}{H:Hp}{ρ:List Addr}{mh:MH}{ds:List D}{vs:List V}{Q:VK}(rs:RS K H ρ mh) (r:RDs K H ρ ds vs) (co:Co K H ρ (mh++[.lst ds]) (.ref mh.length) Q):∀ p,H p=none->Q (.ref p) (upd H p (.lst vs)):=fun p hp =>
 co _ (ρ++[p]) _ (Ev.newL hp) (rs.newL hp r) (.ref (rs.last p))
theorem rT {es:List Expr}{mr:DM (List D)}{x1}(h:DA X es mr):DE X (.Tuple es x1 pos) (mr.bnd fun ds=>Zl (N6 ds)):=fun loc mh=>by
 refine Bg (qP (h loc mh)) ?_;rintro σ H Q ⟨ρ,d,mh',q,rl,rs,co⟩;obtain ⟨ds,m1,ea,q⟩:=Aj q
 ·unfold Zl N6 at q;split at q
  ·rename_i hz;cases q;exact ⟨ρ,ds,mh',ea,rl,rs,fun H1 ρ1 vs e1 rs1 r1=>⟨by rw [← r1.length];exact hz,Co.newT rs1 r1 (co.ev e1)⟩⟩
  ·cases q
theorem rW {es:List Expr}{mr:DM (List D)}(h:DA X es mr):DE X (.List es pos) (mr.bnd fun ds=>Zl (N7 ds)):=fun loc mh=>by
 refine Bg (qQ (h loc mh)) ?_;rintro σ H Q ⟨ρ,d,mh',q,rl,rs,co⟩;obtain ⟨ds,m1,ea,q⟩:=Aj q
 ·unfold Zl N7 at q;split at q
  ·rename_i hz;cases q;exact ⟨ρ,ds,m1,ea,rl,rs,fun H1 ρ1 vs e1 rs1 r1=>⟨by rw [← r1.length];exact hz,Co.newL rs1 r1 (co.ev e1)⟩⟩
  ·cases q
theorem Eb {f:List D->MH->Option (D×MH)}{es:List Expr}{mr:DM (List D)}{x:Str}{p:Pos}{id:String}(hc:Bs X (.builtin id) (rDs X.K f)) (hg:Gl X x) (hm:X.mg x=none) (hv:bootBuiltins x=some (.builtin id)) (ha:DA X (a::es) mr)
  (hn:x ≠ "__name__") (hdb:(x==("__debug__":Str))=false) (he:starEach (a::es) X.env=(false,eval a X.env)::starEach es X.env) (hpl:(backTo pos (starEach es X.env)).any (·.1)=false) :
  DE X (.Call (.Name x p) (a::es) [] pos) (mr.bnd fun ds=>Zl (f ds)):=fun loc mh=>by
 refine Bg (Y6 hc hg hm hv (ha loc mh) hn hdb he hpl) ?_;rintro σ H Q ⟨ρ,d,mh',q,rl,rs,co⟩;obtain ⟨ds,m1,ea,q⟩:=Aj q
 ·exact ⟨ρ,ds,m1,ea,rl,rs,fun H1 ρ1 vs e1 rs1 r1=>⟨ρ1,m1,ds,d,mh',q,rs1,r1,co.ev e1⟩⟩
theorem Jp {f:List D->MH->Option (D×MH)}{es:List Expr}{mr:DM (List D)}{x:Str}{p:Pos}{T:String}(hc:Bs X (.type T) (rDs X.K f)) (hg:Gl X x) (hm:X.mg x=none) (hv:bootBuiltins x=some (.type T)) (ha:DA X (a::es) mr)
  (hn:x ≠ "__name__") (hdb:(x==("__debug__":Str))=false) (he:starEach (a::es) X.env=(false,eval a X.env)::starEach es X.env) (hpl:(backTo pos (starEach es X.env)).any (·.1)=false) :
  DE X (.Call (.Name x p) (a::es) [] pos) (mr.bnd fun ds=>Zl (f ds)):=fun loc mh=>by
 refine Bg (W4 hc hg hm hv (ha loc mh) hn hdb he hpl) ?_;rintro σ H Q ⟨ρ,d,mh',q,rl,rs,co⟩;obtain ⟨ds,m1,ea,q⟩:=Aj q
 ·exact ⟨ρ,ds,m1,ea,rl,rs,fun H1 ρ1 vs e1 rs1 r1=>⟨ρ1,m1,ds,d,mh',q,rs1,r1,co.ev e1⟩⟩
end
section
variable {X:Cx}
theorem Kl {f:Value->Value->Sem Value}{r r':R2}(h:OpR X f r) (i:∀ x y H Q,r' x y H Q->r x y H Q):OpR X f r':=fun pins s σ H x y v u Q I rx ry q=>h pins s σ H x y v u Q I rx ry (i x y H Q q)
noncomputable def iop (C:Int->Int->Bool) (g:Int->Int->Int):D->D->MH->Option (D×MH)
 | .int i,.int j,mh=>if C i j=true then some (.int (g i j),mh) else none
 | _,_,_=>none
theorem Pk {f:Value->Value->Sem Value}{C:Int->Int->Prop}{Cb:Int->Int->Bool}{g:Int->Int->Int}(h:OpR X f (rI C fun i j=>.int (g i j))) (hC:∀ i j,Cb i j=true->C i j):OpR X f (rD X.K (iop Cb g)):=by
 refine Kl h ?_;rintro x y H Q ⟨ρ,mh,dx,dy,d,mh',q,rs,rx,ry,co⟩;cases rx with
 | int i =>
  cases ry with
  | int j =>
   have q:(if Cb i j=true then some (D.int (g i j),mh) else none)=some (d,mh'):=q;split at q
   ·rename_i hc;cases q;exact ⟨i,j,rfl,rfl,hC i j hc,co H ρ _ Ev.refl rs (.int _)⟩
   ·cases q
  | _=>cases q
 | _=>cases q
theorem jN {f:Value->Value->Sem Value}{g:Int->Int->Int}(h:OpR X f (rI0 fun i j=>.int (g i j))):OpR X f (rD X.K (iop (fun _ _=>true) g)) :=
 Pk (C:=fun _ _=>True) (Kl h fun x y H Q ⟨i,j,e1,e2,_,q⟩=>⟨i,j,e1,e2,q⟩) fun _ _ _=>trivial
noncomputable def Rn (g:Int->Int->Bool):D->D->MH->Option (D×MH)
 | .int i,.int j,mh=>some (.bl (g i j),mh)
 | _,_,_=>none
theorem Km {f:Value->Value->Sem Value}{g:Int->Int->Bool}(h:OpR X f (rI0 fun i j=>.bl (g i j))):OpR X f (rD X.K (Rn g)):=by
 refine Kl h ?_;rintro x y H Q ⟨ρ,mh,dx,dy,d,mh',q,rs,rx,ry,co⟩;cases rx with
 | int i =>
  cases ry with
  | int j =>
   cases q;exact ⟨i,j,rfl,rfl,co H ρ _ Ev.refl rs (.bl _)⟩
  | _=>cases q
 | _=>cases q
noncomputable def Aq:D->D->MH->Option (D×MH)
 | .int i,.int j,mh=>some (.int (i+j),mh)
 | .str i,.str j,mh=>if i.length+j.length<=sizeLine then some (.str (i++j),mh) else none
 | .tup xs,.tup ys,mh=>if xs.length+ys.length<=sizeLine then some (.tup (xs++ys),mh) else none
 | .ref n,.ref m,mh=>match mh[n]?,mh[m]? with
  | some (.lst xs),some (.lst ys)=>if xs.length+ys.length<=sizeLine then some (.ref mh.length,mh++[.lst (xs++ys)]) else none
  | _,_=>none
 | _,_,_=>none
end
noncomputable def Bm {α β:Type}(f:α->Option β):List α->Option (List β)
 | []=>some []
 | x::xs=>match f x with
  | some y=>match Bm f xs with
   | some ys=>some (y::ys)
   | none=>none
  | none=>none
noncomputable def py (mh:MH):Nat->D->Option PyData
 | _,.non=>some .none
 | _,.bl b=>some (.bool b)
 | _,.int i=>some (.int i)
 | _,.str x=>if PyData.strOk x=true then some (.str x) else none
 | 0,.tup _=>none
 | 0,.ref _=>none
 | 0,.rol _=>none
 | 0,.obj ..=>none
 | _+1,.obj ..=>none
 | 0,.fn _=>none
 | 0,.lam=>none
 | 0,.clo _ _=>none
 | _+1,.fn _=>none
 | _+1,.lam=>none
 | _+1,.clo _ _=>none
 | n+1,.tup ds=>match Bm (py mh n) ds with | some xs=>some (.tuple xs) | none=>none
 | n+1,.rol ds=>match Bm (py mh n) ds with | some xs=>some (.list xs) | none=>none
 | n+1,.ref k=>match mh[k]? with
  | some (.lst o)=>match Bm (py mh n) o with | some xs=>some (.list xs) | none=>none
  | _=>none
section
variable {X:Cx}{pins:List (Addr×Obj)}{σ:St}{H:Hp}{s:Shared}{ρ:List Addr}{mh:MH}
theorem Bf (I:Inv X pins σ H s) (rs:RS X.K H ρ mh):∀ (n:Nat) (d:D) (v:V) (u:Value) (a:PyData),py mh n d=some a->RD X.K H ρ d v->RelV v u->(∃ as,Reads s.heap u a as)/\a.canLay0=true/\a.depth<=n:=by
 intro n
 induction n with
 | zero =>
  intro d v u a e r rv;cases r with
  | non=>cases e;cases rv;exact ⟨⟨_,.none⟩,rfl,Nat.le_refl _⟩
  | bl b=>cases e;cases rv;exact ⟨⟨_,.bool b⟩,rfl,Nat.le_refl _⟩
  | int i=>cases e;obtain ⟨t,rfl⟩:=rv;exact ⟨⟨_,.int i t⟩,rfl,Nat.le_refl _⟩
  | str x =>
   have e:(if PyData.strOk x=true then some (PyData.str x) else none)=some a:=e;split at e
   ·cases e;obtain ⟨t,rfl⟩:=rv;exact ⟨⟨_,.str x t⟩,by assumption,Nat.le_refl _⟩
   ·cases e
  | tup s r=>cases e
  | ref h=>cases e
  | rol s r=>cases e
  | obj n s l r=>cases e
  | fn h=>cases e
  | lam h=>cases e
  | clo=>cases e
 | succ n ih =>
  have all:∀ (ds:List D) (vs:List V) (us:List Value) (as:List PyData),Bm (py mh n) ds=some as->RDs X.K H ρ ds vs->Vals vs us->(∃ bs,ReadsAll s.heap us as bs)/\PyData.canLayAll0 as=true/\PyData.depthAll as<=n:=by
   intro ds
   induction ds with
   | nil=>intro vs us as e r rv;cases e;cases r;cases rv;exact ⟨⟨_,.nil⟩,rfl,Nat.zero_le _⟩
   | cons d ds ihd =>
    intro vs us as e r rv;cases r with
    | cons r1 r2 =>
     cases rv with
     | cons v1 v2 =>
      simp only [Bm] at e;split at e
      ·rename_i y ey;split at e
       ·rename_i ys eys;cases e;obtain ⟨⟨a1,h1⟩,h2,h3⟩:=ih _ _ _ _ ey r1 v1;obtain ⟨⟨b1,g1⟩,g2,g3⟩:=ihd _ _ _ eys r2 v2;refine ⟨⟨_,.cons h1 g1⟩,?_,?_⟩
        ·simp only [PyData.canLayAll0,h2,g2,Bool.and_self]
        ·simp only [PyData.depthAll];omega
       ·cases e
      ·cases e
  intro d v u a e r rv;cases r with
  | non=>cases e;cases rv;exact ⟨⟨_,.none⟩,rfl,Nat.zero_le _⟩
  | bl b=>cases e;cases rv;exact ⟨⟨_,.bool b⟩,rfl,Nat.zero_le _⟩
  | int i=>cases e;obtain ⟨t,rfl⟩:=rv;exact ⟨⟨_,.int i t⟩,rfl,Nat.zero_le _⟩
  | str x =>
   have e:(if PyData.strOk x=true then some (PyData.str x) else none)=some a:=e;split at e
   ·cases e;obtain ⟨t,rfl⟩:=rv;exact ⟨⟨_,.str x t⟩,by assumption,Nat.zero_le _⟩
   ·cases e
  | @tup ds a' xs sq r =>
   cases rv;have e:(match Bm (py mh n) ds with | some xs=>some (PyData.tuple xs) | none=>none)=some a:=e;split at e
   ·rename_i ys ey;cases e;obtain ⟨its,rv,⟨o,h1,h2,n',h3⟩,_⟩:=I.tuple sq;obtain ⟨⟨bs,g1⟩,g2,g3⟩:=all ds xs its ys ey r rv;refine ⟨⟨_,.tuple h1 h2 h3 (by simpa using g1)⟩,by simpa [PyData.canLay0] using g2,?_⟩;simp only [PyData.depth];omega
   ·cases e
  | obj n s l r=>cases e
  | fn h=>cases e
  | lam h=>cases e
  | clo=>cases e
  | @rol ds a' xs sq r =>
   cases rv;have e:(match Bm (py mh n) ds with | some xs=>some (PyData.list xs) | none=>none)=some a:=e;split at e
   ·rename_i ys ey;cases e;obtain ⟨its,rv,⟨ob,n',h1,h2,h2',h3⟩,_⟩:=I.list sq.sq;obtain ⟨⟨bs,g1⟩,g2,g3⟩:=all _ xs its ys ey r rv;refine ⟨⟨_,.list h1 h2 h3 (by simpa using g1)⟩,by simpa [PyData.canLay0] using g2,?_⟩;simp only [PyData.depth];omega
   ·cases e
  | @ref k a' h =>
   cases rv;have e:(match mh[k]? with | some (.lst o)=>(match Bm (py mh n) o with | some xs=>some (PyData.list xs) | none=>none) | _=>none)=some a:=e;split at e
   ·rename_i o eo;split at e
    ·rename_i ys ey;cases e;obtain ⟨a2,ha,ro⟩:=rs.at eo;rw [h] at ha;cases ha;obtain ⟨xs,sq,r⟩:=ro.read;obtain ⟨its,rv,⟨ob,n',h1,h2,h2',h3⟩,_⟩:=I.list sq;obtain ⟨⟨bs,g1⟩,g2,g3⟩:=all _ xs its ys ey r rv;refine ⟨⟨_,.list h1 h2 h3 (by simpa using g1)⟩,by simpa [PyData.canLay0] using g2,?_⟩;simp only [PyData.depth];omega
    ·cases e
   ·cases e
noncomputable def eqB (mh:MH) (x y:D):Option Bool:=match py mh 60 x,py mh 60 y with
 | some a,some b=>some (PyData.eqv a b)
 | _,_=>none
noncomputable def dSz (x:D) (mh:MH):Option Nat:=match x with
 | .ref n=>(match mh[n]? with | some (.dct kvs)=>some kvs.length | some (.dtk kvs)=>some kvs.length | _=>none)
 | _=>none
noncomputable def eqE (x y:D) (mh:MH):Option (D×MH):=match dSz x mh,dSz y mh with
 | some n,some 0=>some (.bl (n==0),mh)
 | _,_=>none
noncomputable def eqD (x y:D) (mh:MH):Option (D×MH):=match eqB mh x y with | some k=>some (.bl k,mh) | none=>eqE x y mh
noncomputable def neD (x y:D) (mh:MH):Option (D×MH):=match eqB mh x y with | some k=>some (.bl (!k),mh) | none=>none
theorem Zo {A:Around}{a b:PyData}(hu:A.units+64 < cLine) (h:a.depth<=60):A.units+min a.depth b.depth < cLine:=by omega
theorem Ro {x y:D}{k:Bool}(h:eqB mh x y=some k):∃ a b,py mh 60 x=some a/\py mh 60 y=some b/\k=PyData.eqv a b:=by
 unfold eqB at h;split at h
 ·rename_i a b ea eb;cases h;exact ⟨a,b,ea,eb,rfl⟩
 ·cases h
theorem rY (hu:X.A.units+64 < cLine):OpR X (compareOp .NotEq) (rD X.K neD):=by
 rintro pins s σ H x y v u Q I rx ry ⟨ρ,mh,dx,dy,d,mh',q,rs,r1,r2,co⟩;unfold neD at q;split at q
 ·rename_i k ek;cases q;obtain ⟨a,b,ea,eb,rfl⟩:=Ro ek;obtain ⟨⟨as,h1⟩,h2,h3⟩:=Bf I rs 60 dx x v a ea r1 rx;obtain ⟨⟨bs,g1⟩,g2,g3⟩:=Bf I rs 60 dy y u b eb r2 ry;exact SeqAt.compareNe_reads h1 g1 h2 g2 (Zo hu h3) ⟨.bl _,H,I,rfl,co H ρ _ Ev.refl rs (.bl _)⟩
 ·cases q
noncomputable def inB (mh:MH) (x c:D):Option Bool:=match py mh 60 x,py mh 60 c with
 | some a,some (.list xs)=>some (xs.any fun y=>PyData.eqv y a)
 | some a,some (.tuple xs)=>some (xs.any fun y=>PyData.eqv y a)
 | _,_=>none
noncomputable def Xa (neg:Bool) (x c:D) (mh:MH):Option (D×MH):=match inB mh x c with | some k=>some (.bl (if neg then !k else k),mh) | none=>none
theorem jO (hu:X.A.units+64 < cLine):OpR X (compareOp .In) (rD X.K (Xa false)):=by
 rintro pins s σ H x y v u Q I rx ry ⟨ρ,mh,dx,dy,d,mh',q,rs,r1,r2,co⟩;unfold Xa at q;split at q
 ·rename_i k ek;cases q;unfold inB at ek;split at ek
  ·rename_i a xs ea eb;cases ek;obtain ⟨⟨as,h1⟩,h2,h3⟩:=Bf I rs 60 dx x v a ea r1 rx;obtain ⟨⟨bs,g1⟩,g2,g3⟩:=Bf I rs 60 dy y u _ eb r2 ry;exact SeqAt.in_list_reads g1 h1 (by simpa [PyData.canLay0] using g2) h2 (by simp only [PyData.depth] at g3;omega) ⟨.bl _,H,I,rfl,co H ρ _ Ev.refl rs (.bl _)⟩
  ·rename_i a xs ea eb;cases ek;obtain ⟨⟨as,h1⟩,h2,h3⟩:=Bf I rs 60 dx x v a ea r1 rx;obtain ⟨⟨bs,g1⟩,g2,g3⟩:=Bf I rs 60 dy y u _ eb r2 ry;exact SeqAt.in_tuple_reads g1 h1 (by simpa [PyData.canLay0] using g2) h2 (by simp only [PyData.depth] at g3;omega) ⟨.bl _,H,I,rfl,co H ρ _ Ev.refl rs (.bl _)⟩
  ·cases ek
 ·cases q
theorem T6 (hu:X.A.units+64 < cLine):OpR X (compareOp .NotIn) (rD X.K (Xa true)):=by
 rintro pins s σ H x y v u Q I rx ry ⟨ρ,mh,dx,dy,d,mh',q,rs,r1,r2,co⟩;unfold Xa at q;split at q
 ·rename_i k ek;cases q;unfold inB at ek;split at ek
  ·rename_i a xs ea eb;cases ek;obtain ⟨⟨as,h1⟩,h2,h3⟩:=Bf I rs 60 dx x v a ea r1 rx;obtain ⟨⟨bs,g1⟩,g2,g3⟩:=Bf I rs 60 dy y u _ eb r2 ry;exact SeqAt.notIn_list_reads g1 h1 (by simpa [PyData.canLay0] using g2) h2 (by simp only [PyData.depth] at g3;omega) ⟨.bl _,H,I,rfl,co H ρ _ Ev.refl rs (.bl _)⟩
  ·rename_i a xs ea eb;cases ek;obtain ⟨⟨as,h1⟩,h2,h3⟩:=Bf I rs 60 dx x v a ea r1 rx;obtain ⟨⟨bs,g1⟩,g2,g3⟩:=Bf I rs 60 dy y u _ eb r2 ry;exact SeqAt.notIn_tuple_reads g1 h1 (by simpa [PyData.canLay0] using g2) h2 (by simp only [PyData.depth] at g3;omega) ⟨.bl _,H,I,rfl,co H ρ _ Ev.refl rs (.bl _)⟩
  ·cases ek
 ·cases q
end
section
variable {X:Cx}
noncomputable def isD (neg:Bool) (x y:D) (mh:MH):Option (D×MH):=match y with
 | .non=>some (.bl (if neg then !(match x with | .non=>true | _=>false) else match x with | .non=>true | _=>false),mh)
 | .bl b=>(match x with
  | .bl a=>some (.bl (if neg then a != b else a==b),mh)
  | .non=>some (.bl neg,mh)
  | _=>none)
 | _=>none
theorem rZ:OpR X (compareOp .Is) (rD X.K (isD false)):=by
 rintro pins s σ H x y v u Q I rx ry ⟨ρ,mh,dx,dy,d,mh',q,rs,r1,r2,co⟩;cases r2 with
 | non =>
  cases q;cases ry;refine is_none_gen ⟨.bl _,H,I,?_,co H ρ _ Ev.refl rs (.bl _)⟩;rw [rx.none_iff];cases r1 <;> rfl
 | bl b =>
  cases r1 with
  | bl a=>cases q;cases rx;cases ry;exact is_bool ⟨.bl _,H,I,rfl,co H ρ _ Ev.refl rs (.bl _)⟩
  | non=>cases q;cases rx;cases ry;exact wpAny_pure (a:=Value.bool false) ⟨.bl _,H,I,rfl,co H ρ _ Ev.refl rs (.bl _)⟩
  | _=>cases q
 | _=>cases q
theorem Xb:OpR X (compareOp .IsNot) (rD X.K (isD true)):=by
 rintro pins s σ H x y v u Q I rx ry ⟨ρ,mh,dx,dy,d,mh',q,rs,r1,r2,co⟩;cases r2 with
 | non =>
  cases q;cases ry;refine isnot_none_gen ⟨.bl _,H,I,?_,co H ρ _ Ev.refl rs (.bl _)⟩;rw [rx.none_iff];cases r1 <;> rfl
 | bl b =>
  cases r1 with
  | bl a=>cases q;cases rx;cases ry;exact isnot_bool ⟨.bl _,H,I,rfl,co H ρ _ Ev.refl rs (.bl _)⟩
  | non=>cases q;cases rx;cases ry;exact wpAny_pure (a:=Value.bool true) ⟨.bl _,H,I,rfl,co H ρ _ Ev.refl rs (.bl _)⟩
  | _=>cases q
 | _=>cases q
theorem Zq:OpR X (binaryOp .Add) (fun x y H Q=>∃ a b ys,x=.ref a/\y=.ref b/\SqT X.K H a []/\SqT X.K H b ys/\Q (.ref b) H):=by
 rintro pins s σ H x y v u Q I rx ry ⟨a,b,ys,e1,e2,ha,hb,q⟩;subst e1;subst e2;cases rx;cases ry;obtain ⟨its,r1,p1,_⟩:=I.tuple ha;obtain ⟨its2,r2,p2,_⟩:=I.tuple hb;cases r1;obtain ⟨⟨cls,dd,data,sl⟩,ho,hc,n,hd⟩:=id p1;obtain ⟨⟨cls2,dd2,data2,sl2⟩,ho2,hc2,n2,hd2⟩:=id p2;simp only at hc hd hc2 hd2;subst hc hd hc2 hd2;exact concat_meets ⟨_,ho,rfl⟩ ⟨_,ho2,rfl⟩ noFill_tuple_add seq_tuple_add PySem.F.slot_tuple_add PySem.F.entry_tuple_add (PySem.F.args_tuple_add_2 _ _) (tuple_addW0 a b _ _ n n2 dd dd2 sl sl2 (by simp)) ⟨ho,ho2,⟨.ref b,H,I,rfl,q⟩⟩
theorem jP:OpR X (binaryOp .Add) (rD X.K Aq):=by
 refine Kl (qJ.or (Tq.or (iQ.or (rA.or Zq)))) ?_;rintro x y H Q ⟨ρ,mh,dx,dy,d,mh',q,rs,rx,ry,co⟩;cases rx with
 | int i =>
  cases ry with
  | int j=>cases q;exact .inl ⟨i,j,rfl,rfl,co H ρ _ Ev.refl rs (.int _)⟩
  | _=>cases q
 | str i =>
  cases ry with
  | str j =>
   have q:(if i.length+j.length<=sizeLine then some (D.str (i++j),mh) else none)=some (d,mh'):=q;split at q
   ·rename_i hz;cases q;exact .inr (.inl ⟨i,j,rfl,rfl,hz,co H ρ _ Ev.refl rs (.str _)⟩)
   ·cases q
  | _=>cases q
 | @tup xs a us s1 r1 =>
  cases ry with
  | @tup ys b ws s2 r2 =>
   have q:(if xs.length+ys.length<=sizeLine then some (D.tup (xs++ys),mh) else none)=some (d,mh'):=q;split at q
   ·rename_i hz;cases q
    by_cases hne:xs=[]
    ·subst hne;cases r1;exact .inr (.inr (.inr (.inr ⟨a,b,ws,rfl,rfl,s1,s2,co H ρ _ Ev.refl rs (.tup s2 r2)⟩)))
    ·refine .inr (.inr (.inl ⟨a,b,us,ws,rfl,rfl,s1,s2,fun z=>hne ?_,by rw [← r1.length,← r2.length];exact hz,?_⟩))
     ·rw [z] at r1;cases r1;rfl
     ·refine ⟨fun z=>?_,fun z=>Co.newT rs (r1.append r2) co⟩;subst z;cases r2;exact co H ρ _ Ev.refl rs (.tup s1 (by rw [List.append_nil];exact r1))
   ·cases q
  | _=>cases q
 | @ref n a ha =>
  cases ry with
  | @ref m b hb =>
   have q:(match mh[n]?,mh[m]? with
    | some (.lst xs),some (.lst ys)=>if xs.length+ys.length<=sizeLine then some (D.ref mh.length,mh++[.lst (xs++ys)]) else none
    | _,_=>none)=some (d,mh'):=q
   split at q
   ·rename_i xs ys e1 e2;split at q
    ·rename_i hz;cases q;obtain ⟨a2,h1,us,g1,r1⟩:=rs.at e1;obtain ⟨b2,h2,ws,g2,r2⟩:=rs.at e2;rw [ha] at h1;rw [hb] at h2;cases h1;cases h2;exact .inr (.inr (.inr (.inl ⟨a,b,us,ws,rfl,rfl,g1,g2,by rw [← r1.length,← r2.length];exact hz,Co.newL rs (r1.append r2) co⟩)))
    ·cases q
   ·cases q
  | _=>cases q
 | _=>cases q
end
section
variable {X:Cx}
theorem Jq {f:Value}{r r':List V->Hp->VK->Prop}(h:Bs X f r) (i:∀ xs H Q,r' xs H Q->r xs H Q):Bs X f r':=fun pins s σ H xs us Q I rx q=>h pins s σ H xs us Q I rx (i xs H Q q)
theorem jQ {r r':R2}(h:IxR X r) (i:∀ x y H Q,r' x y H Q->r x y H Q):IxR X r':=fun a b pins s σ H x y v u Q I rx ry q hs=>h a b pins s σ H x y v u Q I rx ry (i x y H Q q) hs
theorem jR {r r':V->Option Int->Option Int->Hp->VK->Prop}(h:SlR X r) (i:∀ x lo hi H Q,r' x lo hi H Q->r x lo hi H Q):SlR X r':=fun pins s σ H x v vl vu lo hi sl Q I rx hs pl pu q=>h pins s σ H x v vl vu lo hi sl Q I rx hs pl pu (i x lo hi H Q q)
noncomputable def Er:D->MH->Option (List D)
 | .tup ds,_=>some ds
 | .ref n,mh=>match mh[n]? with | some (.lst o)=>some o | _=>none
 | .rol ds,_=>some ds
 | _,_=>none
theorem Ko {K:PySem.W.Frag}{H:Hp}{ρ:List Addr}{mh:MH}{d:D}{v:V}{ds:List D}(rs:RS K H ρ mh) (r:RD K H ρ d v) (e:Er d mh=some ds):∃ p xs,v=.ref p/\(SqL K H p xs\/SqT K H p xs)/\RDs K H ρ ds xs:=by
 cases r with
 | tup s r=>cases e;exact ⟨_,_,rfl,.inr s,r⟩
 | rol s r=>cases e;exact ⟨_,_,rfl,.inl s.sq,r⟩
 | @ref n a h =>
  have e:(match mh[n]? with | some (.lst o)=>some o | _=>none)=some ds:=e;split at e
  ·rename_i o eo;cases e;obtain ⟨a',ha,ro⟩:=rs.at eo;rw [h] at ha;cases ha;obtain ⟨xs,q,r⟩:=ro.read;exact ⟨_,xs,rfl,.inl q,r⟩
  ·cases e
 | _=>cases e
theorem jT {K:PySem.W.Frag}{H:Hp}{ρ:List Addr}{ds:List D}{xs:List V}{i:Int}{d:D}(r:RDs K H ρ ds xs) (e:atI ds i=some d):∃ v,atI xs i=some v/\RD K H ρ d v:=by
 unfold atI at e ⊢;rw [← r.length];cases q:ixN ds.length i with
 | none=>rw [q] at e;cases e
 | some j =>
  rw [q] at e;exact r.get e
noncomputable def Zt (x y:D) (mh:MH):Option (D×MH):=match y with
 | .int i=>(match x with
  | .str z=>if z.length<=sizeLine then (match atI z.cps.toList i with | some c=>some (.str ⟨#[c]⟩,mh) | none=>none) else none
  | _=>match Er x mh with
   | some ds=>(match atI ds i with | some d=>some (d,mh) | none=>none)
   | none=>none)
 | _=>none
theorem yO:IxR X (rD X.K Zt):=by
 refine jQ (qX (X:=X)) ?_;rintro x y H Q ⟨ρ,mh,dx,dy,d,mh',q,rs,rx,ry,co⟩;have seq:∀ i:Int,y=.int i->(match Er dx mh with | some ds=>(match atI ds i with | some d=>some (d,mh) | none=>none) | none=>none)=some (d,mh')->rIx X.K x y H Q:=fun i ey q=>by
  split at q
  ·rename_i ds e1;split at q
   ·rename_i d' e2;cases q;obtain ⟨p,xs,rfl,hq,r⟩:=Ko rs rx e1;obtain ⟨v,e3,r3⟩:=jT r e2;rcases hq with hq|hq
    ·exact .inl ⟨p,xs,i,v,rfl,ey,hq,e3,co H ρ v Ev.refl rs r3⟩
    ·exact .inr (.inl ⟨p,xs,i,v,rfl,ey,hq,e3,co H ρ v Ev.refl rs r3⟩)
   ·cases q
  ·cases q
 cases ry with
 | int i =>
  cases rx with
  | str z =>
   have q:(if z.length<=sizeLine then (match atI z.cps.toList i with | some c=>some (D.str ⟨#[c]⟩,mh) | none=>none) else none)=some (d,mh'):=q;split at q
   ·rename_i hz;split at q
    ·rename_i c ec;cases q;exact .inr (.inr ⟨z,i,c,rfl,rfl,hz,ec,co H ρ _ Ev.refl rs (.str _)⟩)
    ·cases q
   ·cases q
  | non=>exact seq i rfl q
  | bl b=>exact seq i rfl q
  | int j=>exact seq i rfl q
  | tup s r=>exact seq i rfl q
  | ref h=>exact seq i rfl q
  | rol s r=>exact seq i rfl q
  | obj n s l r=>exact seq i rfl q
  | fn h=>exact seq i rfl q
  | lam h=>exact seq i rfl q
  | clo=>exact seq i rfl q
 | _=>cases q
noncomputable def cutD {α:Type}(xs:List α) (lo hi:Option Int):List α:=(xs.drop (HT.sIx xs.length 0 lo)).take (HT.sIx xs.length xs.length hi - HT.sIx xs.length 0 lo)
theorem Pn {K:PySem.W.Frag}{H:Hp}{ρ:List Addr}{ds:List D}{xs:List V}{lo hi:Option Int}(r:RDs K H ρ ds xs):RDs K H ρ (cutD ds lo hi) (Ra xs lo hi):=by
 unfold cutD Ra;rw [r.length];exact (r.drop _).take _
theorem Hj {prog:Program}{w:World}{A:Around}{E:Value->Shared->Prop}{s:Shared}{t sl:Addr}{items:Array Value}{vl vu:Value}{lo hi:Option Int}{Q:Value->Shared->Prop}(ht:IsTup s.heap t items) (hs:s.heap.IsSliceOf sl vl vu .none) (pl:IsPart vl lo) (pu:IsPart vu hi)
  (h0:HT.sIx items.size 0 lo=0) (h1:HT.sIx items.size items.size hi=items.size) (h:Q (.ref t) s):wpAny (model prog w) A (getItem (.ref t) (.ref sl)) Q E s:=by
 obtain ⟨os,hos,hcs,hds⟩:=id hs
 have hTs:s.TypeIs (.ref sl) "slice":=⟨os,hos,hcs⟩
 unfold getItem
 try with_reducible refine wpAny_holding ?_
 first | refine wpAny_bind (wpAny_pure ?_) | skip
 refine wpAny_bind (wpAny_sequenceKey ht.typeIs (by decide) ?_)
 refine wpAny_bind (wpAny_callSpecial?_slot (name:=Str.ofString "__getitem__") ht.typeIs PyProof.Rows.slot_tuple_getitem
  (wpAny_call_entry PyProof.Rows.slot_tuple_getitem ht.typeIs entry_tuple_getitem ?_ (args_tuple_getitem _ _)))
 show wpAny _ _ (Builtin.Tuple.tupleItemsOf (.ref t) >>= _) _ _ s;refine wpAny_bind (tupleItemsOf_ ht ?_);refine wpAny_bind (wpAny_typeOf hTs ?_);rw [if_pos (by decide)];refine wpAny_bind (HT.sliceApplied_gen hs pl pu ?_);rw [h0,h1];have hyes:((((0:Nat):Int)==0&&(1:Int)==1&&(items.size - 0)==items.size)=true):=by simp
 show wpAny _ _ (if (((0:Nat):Int)==0&&(1:Int)==1&&(items.size - 0)==items.size)=true then _ else _) _ _ s;rw [if_pos hyes];unfold Builtin.Tuple.tupleIsExact;refine wpAny_bind (wpAny_bind (wpAny_typeOf ht.typeIs (wpAny_pure ?_)));rw [if_pos (by decide)];exact wpAny_bind (wpAny_rule (wpAny_pure ⟨_,rfl,wpAny_pure h⟩))
theorem Xc:SlR X (fun x lo hi H Q=>∃ a xs,x=.ref a/\SqT X.K H a xs/\HT.sIx xs.length 0 lo=0/\HT.sIx xs.length xs.length hi=xs.length/\Q (.ref a) H):=by
 intro pins s σ H x v vl vu lo hi sl Q I rx hs pl pu h;obtain ⟨a,xs,rfl,hx,h0,h1,q⟩:=h;cases rx;obtain ⟨its,r,ht,hz⟩:=I.tuple hx;have hlen:its.toArray.size=xs.length:=by rw [List.size_toArray];exact r.length.symm
 refine ⟨"tuple",_,PyProof.Rows.slot_tuple_getitem.lookup,ht.typeIs,?_⟩;exact Hj ht hs pl pu (by rw [hlen];exact h0) (by rw [hlen];exact h1) ⟨.ref a,H,I,rfl,q⟩
noncomputable def slD (x:D) (lo hi:Option Int) (mh:MH):Option (D×MH):=match x with
 | .tup ds=>if HT.sIx ds.length 0 lo=0/\HT.sIx ds.length ds.length hi=ds.length then some (.tup ds,mh) else some (.tup (cutD ds lo hi),mh)
 | .ref n=>match mh[n]? with
  | some (.lst o)=>some (.ref mh.length,mh++[.lst (cutD o lo hi)])
  | _=>none
 | .rol ds=>some (.ref mh.length,mh++[.lst (cutD ds lo hi)])
 | _=>none
noncomputable def Aa7 (K:PySem.W.Frag):V->Option Int->Option Int->Hp->VK->Prop:=fun x lo hi H Q=>∃ ρ mh dx d mh',slD dx lo hi mh=some (d,mh')/\RS K H ρ mh/\RD K H ρ dx x/\Co K H ρ mh' d Q
theorem Aa8:SlR X (Aa7 X.K):=by
 refine jR (Xc.or (qT.or iU)) ?_;rintro x lo hi H Q ⟨ρ,mh,dx,d,mh',q,rs,rx,co⟩;cases rx with
 | @tup ds a xs s r =>
  have q:(if HT.sIx ds.length 0 lo=0/\HT.sIx ds.length ds.length hi=ds.length then some (D.tup ds,mh) else some (D.tup (cutD ds lo hi),mh))=some (d,mh'):=q;have hl:=r.length;split at q
  ·rename_i hw;cases q;exact .inl ⟨a,xs,rfl,s,by rw [← hl];exact hw.1,by rw [← hl];exact hw.2,co H ρ _ Ev.refl rs (.tup s r)⟩
  ·rename_i hw;cases q;exact .inr (.inl ⟨a,xs,rfl,s,by rw [← hl];exact hw,Co.newT rs (Pn r) co⟩)
 | @ref n a h =>
  have q:(match mh[n]? with | some (.lst o)=>some (D.ref mh.length,mh++[.lst (cutD o lo hi)]) | _=>none)=some (d,mh'):=q;split at q
  ·rename_i o eo;cases q;obtain ⟨a',ha,ro⟩:=rs.at eo;rw [h] at ha;cases ha;obtain ⟨xs,sq,r⟩:=ro.read;exact .inr (.inr ⟨a,xs,rfl,sq,Co.newL rs (Pn r) co⟩)
  ·cases q
 | @rol ds a xs s r =>
  cases q;exact .inr (.inr ⟨a,xs,rfl,s.sq,Co.newL rs (Pn r) co⟩)
 | _=>cases q
noncomputable def Ip (m:Option (DM D)):DM (Option Int):=match m with
 | none=>Zr none
 | some m=>m.bnd fun x=>match x with | .int i=>Zr (some i) | _=>Zb
noncomputable def Zu (X:Cx) (e:Option Expr) (m:Option (DM D)):Prop:=match e,m with
 | none,none=>True
 | some e,some m=>DE X e m
 | _,_=>False
noncomputable def tDO (K:PySem.W.Frag) (loc:Loc) (mh:MH) (r:Option (Option Int×MH)):TO:=fun σ H Q=>∃ ρ o mh',r=some (o,mh')/\RL K H ρ loc σ/\RS K H ρ mh/\∀ H' ρ',Ev K H ρ H' ρ'->RS K H' ρ' mh'->Q o H'
theorem yP {e:Option Expr}{m:Option (DM D)}(h:Zu X e m) (loc:Loc) (mh:MH):PO X e (tDO X.K loc mh (Ip m loc mh)):=by
 rintro pins s σ H Q I ⟨ρ,o,mh',q,rl,rs,co⟩;cases e with
 | none =>
  cases m with
  | none =>
   cases q;exact iK pins s σ H Q I (co H ρ Ev.refl rs)
  | some m=>exact h.elim
 | some e =>
  cases m with
  | none=>exact h.elim
  | some m =>
   obtain ⟨x,m1,ea,q⟩:=Aj q;cases x with
   | int i =>
    cases q;refine iM (h loc mh) pins s σ H Q I ⟨ρ,.int i,mh',ea,rl,rs,fun H' ρ' v e' rs' r'=>?_⟩;cases r';exact ⟨i,rfl,co H' ρ' e' rs'⟩
   | non=>cases q
   | bl b=>cases q
   | str z=>cases q
   | tup ds=>cases q
   | ref n=>cases q
   | rol ds=>cases q
   | obj c ks ds=>cases q
   | fn x=>cases q
   | lam=>cases q
   | clo=>cases q
noncomputable def dSl (ma:DM D) (ml mu:Option (DM D)):DM D:=ma.bnd fun x=>(Ip ml).bnd fun l=>(Ip mu).bnd fun u=>Zl (slD x l u)
theorem Zv {a:Expr}{ma:DM D}{lo hi:Option Expr}{ml mu:Option (DM D)}{p2 pos:Pos}(ha:DE X a ma) (hl:Zu X lo ml) (hu:Zu X hi mu):DE X (.Subscript a (.Slice lo hi none p2) pos) (dSl ma ml mu):=fun loc mh=>by
 cases ea:ma loc mh with
 | none =>
  have:dSl ma ml mu loc mh=none:=by unfold dSl DM.bnd;rw [ea]
  rw [this];exact Dr
 | some p =>
  obtain ⟨x,m1⟩:=p;cases el:Ip ml loc m1 with
  | none =>
   have:dSl ma ml mu loc mh=none:=by unfold dSl;unfold DM.bnd;rw [ea];dsimp only;rw [el]
   rw [this];exact Dr
  | some p2 =>
   obtain ⟨l,m2⟩:=p2;refine Bg (Y8 Aa8 (ha loc mh) (yP hl loc m1) (yP hu loc m2)) ?_;rintro σ H Q ⟨ρ,d,mh',q,rl,rs,co⟩;obtain ⟨x',m1',ea',q⟩:=Aj q;rw [ea] at ea';cases ea';obtain ⟨l',m2',el',q⟩:=Aj q;rw [el] at el';cases el';obtain ⟨u,m3,eu,q⟩:=Aj q
   exact ⟨ρ,x,m1,ea,rl,rs,fun H1 ρ1 v e1 rs1 r1=>⟨ρ1,l,m2,el,rl.mono e1,rs1,fun H2 ρ2 e2 rs2=>⟨ρ2,u,m3,eu,(rl.mono e1).mono e2,rs2,fun H3 ρ3 e3 rs3 =>
    ⟨ρ3,m3,x,d,mh',q,rs3,(r1.mono e2).mono e3,co.ev (e1.trans (e2.trans e3))⟩⟩⟩⟩
end
end DL
namespace HT
open PySem PySem.Spec PyProof.Rows
section
variable {prog:Program}{w:World}{A:Around}{E:Value->Shared->Prop}{s:Shared}
end
end HT
namespace DL
open PySem PySem.Spec PyProof.Rows L2
section
variable {X:Cx}
noncomputable def N8:List D->MH->Option (D×MH)
 | [.str z],mh=>if z.length<=sizeLine then some (.int z.length,mh) else none
 | [x],mh=>match Er x mh with | some ds=>some (.int ds.length,mh) | none=>none
 | _,_=>none
theorem Lf {K:PySem.W.Frag}{H:Hp}{ρ:List Addr}{d:D}{xs:List V}(h:RDs K H ρ [d] xs):∃ v,xs=[v]/\RD K H ρ d v:=by
 cases h with
 | cons r t=>cases t;exact ⟨_,rfl,r⟩
theorem Lg:Bs X (.builtin "len") (rDs X.K N8):=by
 refine Jq (O7.or O8) ?_;rintro xs H Q ⟨ρ,mh,ds,d,mh',q,rs,r,co⟩
 match ds,q with
 | [x],q =>
  obtain ⟨v,rfl,rx⟩:=Lf r;have seq:(match Er x mh with | some ds=>some (D.int ds.length,mh) | none=>none)=some (d,mh')->∃ p ys,[v]=[.ref p]/\(SqL X.K H p ys\/SqT X.K H p ys)/\Q (.int ys.length) H:=fun q=>by
   split at q
   ·rename_i ds e1;cases q;obtain ⟨p,ys,rfl,hq,r⟩:=Ko rs rx e1;exact ⟨p,ys,rfl,hq,by rw [← r.length];exact co H ρ _ Ev.refl rs (.int _)⟩
   ·cases q
  cases rx with
  | str z =>
   have q:(if z.length<=sizeLine then some (D.int z.length,mh) else none)=some (d,mh'):=q;split at q
   ·rename_i hz;cases q;exact .inr ⟨z,rfl,hz,co H ρ _ Ev.refl rs (.int _)⟩
   ·cases q
  | non=>exact .inl (seq q)
  | bl b=>exact .inl (seq q)
  | int i=>exact .inl (seq q)
  | tup s r=>exact .inl (seq q)
  | ref h=>exact .inl (seq q)
  | rol s r=>exact .inl (seq q)
  | obj n s l r=>exact .inl (seq q)
  | fn h=>exact .inl (seq q)
  | lam h=>exact .inl (seq q)
  | clo=>exact .inl (seq q)
 | [],q=>cases q
 | _::_::_,q=>simp [N8] at q
noncomputable def Oa:List D->MH->Option (D×MH)
 | [x],mh=>match Er x mh with | some ds=>some (.ref mh.length,mh++[.lst ds]) | none=>none
 | _,_=>none
theorem T7:Bs X (.type "list") (rDs X.K Oa):=by
 refine Jq O9 ?_;rintro xs H Q ⟨ρ,mh,ds,d,mh',q,rs,r,co⟩
 match ds,q with
 | [x],q =>
  obtain ⟨v,rfl,rx⟩:=Lf r;have q:(match Er x mh with | some ds=>some (D.ref mh.length,mh++[.lst ds]) | none=>none)=some (d,mh'):=q;split at q
  ·rename_i ds e1;cases q;obtain ⟨p,ys,rfl,hq,r⟩:=Ko rs rx e1;exact ⟨p,ys,rfl,hq,Co.newL rs r co⟩
  ·cases q
 | [],q=>cases q
 | _::_::_,q=>cases q
noncomputable def Dm:List D->MH->Option (D×MH)
 | [x],mh=>match Er x mh with | some ds=>some (.tup ds,mh) | none=>none
 | _,_=>none
theorem Rp:Bs X (.type "tuple") (rDs X.K Dm):=by
 refine Jq M9 ?_;rintro xs H Q ⟨ρ,mh,ds,d,mh',q,rs,r,co⟩
 match ds,q with
 | [x],q =>
  obtain ⟨v,rfl,rx⟩:=Lf r;have q:(match Er x mh with | some ds=>some (D.tup ds,mh) | none=>none)=some (d,mh'):=q;split at q
  ·rename_i ds e1;cases q;obtain ⟨p,ys,rfl,hq,r⟩:=Ko rs rx e1;rcases hq with hq|hq
   ·exact ⟨p,ys,rfl,.inl ⟨hq,Co.newT rs r co⟩⟩
   ·exact ⟨p,ys,rfl,.inr ⟨hq,co H ρ _ Ev.refl rs (.tup hq r)⟩⟩
  ·cases q
 | [],q=>cases q
 | _::_::_,q=>cases q
noncomputable def sE:D->MH->Option String
 | .non,_=>some "NoneType"
 | .bl _,_=>some "bool"
 | .int _,_=>some "int"
 | .str _,_=>some "str"
 | .tup _,_=>some "tuple"
 | .ref n,mh=>match mh[n]? with | some (.lst _)=>some "list" | _=>none
 | .rol _,_=>some "list"
 | .obj ..,_=>none
 | .fn _,_=>none
 | .lam,_=>none
 | .clo _ _,_=>none
noncomputable def Aa9 (t c:String):Option Bool :=
 if t==c then some true else
 if ["NoneType", "bool", "int", "str", "tuple", "list"].contains t&&["bool", "int", "str", "tuple", "list", "dict"].contains c then some (t == "bool"&&c == "int") else none
end
inductive Src where
 | seq (ds:List D) | lref (n:Nat) | enum (s:Src) | zip (s t:Src)
noncomputable def Ez:Nat->List D->List D
 | _,[]=>[]
 | i,d::r=>.tup [.int i,d]::Ez (i+1) r
noncomputable def Src.items:Src->MH->List D
 | .seq ds,_=>ds
 | .lref n,mh=>match mh[n]? with | some (.lst o)=>o | _=>[]
 | .enum s,mh=>Ez 0 (s.items mh)
 | .zip s t,mh=>List.zipWith (fun a b=>.tup [a,b]) (s.items mh) (t.items mh)
noncomputable def Src.ok:Src->MH->Bool
 | .seq _,_=>true
 | .lref n,mh=>match mh[n]? with | some (.lst _)=>true | _=>false
 | .enum s,mh=>s.ok mh
 | .zip s t,mh=>s.ok mh&&t.ok mh
noncomputable def Src.get (s:Src) (mh:MH) (i:Nat):Option D:=(s.items mh)[i]?
noncomputable def Src.stop (s:Src) (mh:MH) (i:Nat):Bool:=s.ok mh&&decide ((s.items mh).length<=i)
structure JR (K:PySem.W.Frag) (H0:Hp) (ρ0:List Addr) (src:Src) (J:It):Prop where
 go:∀ H ρ mh i d,Ev K H0 ρ0 H ρ->RS K H ρ mh->src.get mh i=some d->J.go i H/\∀ x H',J.yld i H x H'->Ev K H ρ H' ρ/\RS K H' ρ mh/\RD K H' ρ d x
 stop:∀ H ρ mh i,Ev K H0 ρ0 H ρ->RS K H ρ mh->src.stop mh i=true->J.stop i H
noncomputable def tDI (K:PySem.W.Frag) (loc:Loc) (mh:MH) (r:Option (Src×MH)):TI:=fun σ H R=>∃ ρ src mh',r=some (src,mh')/\RL K H ρ loc σ/\RS K H ρ mh/\∀ H' ρ' J,Ev K H ρ H' ρ'->RS K H' ρ' mh'->JR K H' ρ' src J->R J H'
noncomputable def DI (X:Cx) (tg iter:Expr) (m:DM Src):Prop:=∀ loc mh,PI X tg iter (tDI X.K loc mh (m loc mh))
theorem Zw {X:Cx}{tg e:Expr}{t t':TI}(h:PI X tg e t) (i:∀ σ H R,t' σ H R->t σ H R):PI X tg e t':=fun pins s σ H R I q=>h pins s σ H R I (i σ H R q)
theorem Cq {X:Cx}{tg e:Expr}{loc:Loc}{mh:MH}:PI X tg e (tDI X.K loc mh none):=fun _ _ _ _ _ _ h=>by obtain ⟨_,_,_,e,_⟩:=h;cases e
section
variable {X:Cx}{tg:Expr}
theorem JR.tup {K:PySem.W.Frag}{H0:Hp}{ρ0:List Addr}{ds:List D}{a:Addr}{xs:List V}(s:SqT K H0 a xs) (r:RDs K H0 ρ0 ds xs):JR K H0 ρ0 (.seq ds) (Itt K a) where
 go:=fun H ρ mh i d e rs q=>by
  obtain ⟨v,e1,r1⟩:=(r.mono e).get q;refine ⟨⟨xs,v,e.tup _ _ s,e1⟩,?_⟩;rintro x H' ⟨h1,h2⟩;subst h1;have:=h2 xs (e.tup _ _ s);rw [e1] at this;cases this;exact ⟨Ev.refl,rs,r1⟩
 stop:=fun H ρ mh i e rs q=>by
  refine ⟨xs,e.tup _ _ s,?_⟩;rw [← r.length];have q:(true&&decide (ds.length<=i))=true:=q;rw [Bool.true_and] at q;exact of_decide_eq_true q
theorem JR.lst {K:PySem.W.Frag}{H0:Hp}{ρ0:List Addr}{n:Nat}{a:Addr}(h:ρ0[n]?=some a):JR K H0 ρ0 (.lref n) (Itl K a) where
 go:=fun H ρ mh i d e rs q=>by
  unfold Src.get Src.items at q;cases eo:mh[n]? with
  | none=>simp only [eo] at q;simp at q
  | some ob =>
   cases ob with
   | dct kvs=>simp only [eo] at q;simp at q
   | dtk kvs=>simp only [eo] at q;simp at q
   | plc=>simp only [eo] at q;simp at q
   | plq=>simp only [eo] at q;simp at q
   | fzd=>simp only [eo] at q;simp at q
   | lst o =>
   simp only [eo] at q;obtain ⟨a',ha,ro⟩:=rs.at eo;rw [e.at h] at ha;cases ha;obtain ⟨xs,sq,r⟩:=ro.read;obtain ⟨v,e1,r1⟩:=r.get q;refine ⟨⟨xs,v,sq,e1⟩,?_⟩;rintro x H' ⟨h1,h2⟩;subst h1;have:=h2 xs sq;rw [e1] at this;cases this;exact ⟨Ev.refl,rs,r1⟩
 stop:=fun H ρ mh i e rs q=>by
  unfold Src.stop Src.ok Src.items at q;cases eo:mh[n]? with
  | none=>simp only [eo] at q;simp at q
  | some ob =>
   cases ob with
   | dct kvs=>simp only [eo] at q;simp at q
   | dtk kvs=>simp only [eo] at q;simp at q
   | plc=>simp only [eo] at q;simp at q
   | plq=>simp only [eo] at q;simp at q
   | fzd=>simp only [eo] at q;simp at q
   | lst o =>
   simp only [eo] at q;obtain ⟨a',ha,ro⟩:=rs.at eo;rw [e.at h] at ha;cases ha;obtain ⟨xs,sq,r⟩:=ro.read;exact ⟨xs,sq,by rw [← r.length];simpa using q⟩
theorem JR.rol {K:PySem.W.Frag}{H0:Hp}{ρ0:List Addr}{ds:List D}{a:Addr}{xs:List V}(s:Gi K H0 a xs) (r:RDs K H0 ρ0 ds xs):JR K H0 ρ0 (.seq ds) (Itl K a) where
 go:=fun H ρ mh i d e rs q=>by
  obtain ⟨v,e1,r1⟩:=(r.mono e).get q;have sq:=(e.perm _ _ s).sq;refine ⟨⟨xs,v,sq,e1⟩,?_⟩;rintro x H' ⟨h1,h2⟩;subst h1;have:=h2 xs sq;rw [e1] at this;cases this;exact ⟨Ev.refl,rs,r1⟩
 stop:=fun H ρ mh i e rs q=>by
  refine ⟨xs,(e.perm _ _ s).sq,?_⟩;rw [← r.length];have q:(true&&decide (ds.length<=i))=true:=q;rw [Bool.true_and] at q;exact of_decide_eq_true q
noncomputable def Cd (lo:Int) (n:Nat):List D:=(List.range n).map fun (k:Nat)=>D.int (lo+(k:Int))
theorem JR.rng {K:PySem.W.Frag}{H0:Hp}{ρ0:List Addr}{lo:Int}{n:Nat}:JR K H0 ρ0 (.seq (Cd lo n)) (Itr lo n) where
 go:=fun H ρ mh i d e rs q=>by
  have q:(Cd lo n)[i]?=some d:=q;unfold Cd at q;rw [List.getElem?_map] at q
  by_cases hi:i < n
  ·rw [List.getElem?_range hi] at q;cases q;refine ⟨hi,?_⟩;rintro x H' ⟨h1,h2⟩;subst h1;subst h2;exact ⟨Ev.refl,rs,.int _⟩
  ·rw [List.getElem?_eq_none (by simp;omega)] at q;cases q
 stop:=fun H ρ mh i e rs q=>by
  show n<=i;have q:(true&&decide ((Cd lo n).length<=i))=true:=q;rw [Bool.true_and] at q;have:=of_decide_eq_true q;unfold Cd at this
  simpa using this
noncomputable def srcOf:D->MH->Option Src
 | .tup ds,_=>some (.seq ds)
 | .ref n,mh=>match mh[n]? with | some (.lst _)=>some (.lref n) | _=>none
 | .rol ds,_=>some (.seq ds)
 | _,_=>none
noncomputable def Cy (ma:DM D):DM Src:=ma.bnd fun x=>fun _ mh=>match srcOf x mh with | some s=>some (s,mh) | none=>none
theorem Cz {a:Expr}{ma:DM D}(ha:DE X a ma):DI X tg a (Cy ma):=fun loc mh=>by
 cases ea:ma loc mh with
 | none =>
  have:Cy ma loc mh=none:=by unfold Cy DM.bnd;rw [ea]
  rw [this];exact Cq
 | some p =>
  obtain ⟨x,m1⟩:=p;have eq:Cy ma loc mh=(match srcOf x m1 with | some s=>some (s,m1) | none=>none):=by unfold Cy DM.bnd;rw [ea]
  rw [eq];cases x with
  | tup ds =>
   rintro pins s σ H R I ⟨ρ,src,mh',q,rl,rs,co⟩;cases q;refine qF (ha loc mh) pins s σ H R I ⟨ρ,_,_,ea,rl,rs,fun H1 ρ1 v e1 rs1 r1=>?_⟩;cases r1 with
   | tup s r=>exact ⟨_,rfl,⟨_,s⟩,co H1 ρ1 _ e1 rs1 (JR.tup s r)⟩
  | ref n =>
   rintro pins s σ H R I ⟨ρ,src,mh',q,rl,rs,co⟩;cases eo:m1[n]? with
   | none=>simp only [srcOf,eo] at q;cases q
   | some ob =>
    cases ob with
    | dct kvs=>simp only [srcOf,eo] at q;cases q
    | dtk kvs=>simp only [srcOf,eo] at q;cases q
    | plc=>simp only [srcOf,eo] at q;cases q
    | plq=>simp only [srcOf,eo] at q;cases q
    | fzd=>simp only [srcOf,eo] at q;cases q
    | lst o =>
    simp only [srcOf,eo] at q;cases q;refine Vh (ha loc mh) pins s σ H R I ⟨ρ,_,_,ea,rl,rs,fun H1 ρ1 v e1 rs1 r1=>?_⟩;cases r1 with
    | @ref _ a' h =>
     obtain ⟨a2,ha2,ro⟩:=rs1.at eo;rw [h] at ha2;cases ha2;obtain ⟨xs,sq,r⟩:=ro.read;exact ⟨_,rfl,⟨xs,sq⟩,co H1 ρ1 _ e1 rs1 (JR.lst h)⟩
  | rol ds =>
   rintro pins s σ H R I ⟨ρ,src,mh',q,rl,rs,co⟩;cases q;refine Vh (ha loc mh) pins s σ H R I ⟨ρ,_,_,ea,rl,rs,fun H1 ρ1 v e1 rs1 r1=>?_⟩;cases r1 with
   | rol s r=>exact ⟨_,rfl,⟨_,s.sq⟩,co H1 ρ1 _ e1 rs1 (JR.rol s r)⟩
  | non=>exact Cq
  | bl b=>exact Cq
  | int i=>exact Cq
  | str z=>exact Cq
  | obj c ks ds=>exact Cq
  | fn x=>exact Cq
  | lam=>exact Cq
  | clo=>exact Cq
noncomputable def Gr (ds:List D):Option Src:=match ds with
 | [.int j]=>if -(2 ^ 62)<=j/\j < 2 ^ 62 then some (.seq (Cd 0 j.toNat)) else none
 | _=>none
noncomputable def Xd (ds:List D):Option Src:=match ds with
 | [.int i,.int j]=>if (-(2 ^ 62)<=i/\i < 2 ^ 62)/\(-(2 ^ 62)<=j/\j < 2 ^ 62) then some (.seq (Cd i (j - i).toNat)) else none
 | _=>none
theorem Xe {ds:List D}{s:Src}(h:Gr ds=some s):∃ j,ds=[.int j]/\-(2 ^ 62)<=j/\j < 2 ^ 62/\s=.seq (Cd 0 j.toNat):=by
 unfold Gr at h;split at h
 ·rename_i j;split at h
  ·rename_i hj;cases h;exact ⟨j,rfl,hj.1,hj.2,rfl⟩
  ·cases h
 ·cases h
theorem Xf {ds:List D}{s:Src}(h:Xd ds=some s):∃ i j,ds=[.int i,.int j]/\(-(2 ^ 62)<=i/\i < 2 ^ 62/\-(2 ^ 62)<=j/\j < 2 ^ 62)/\s=.seq (Cd i (j - i).toNat):=by
 unfold Xd at h;split at h
 ·rename_i i j;split at h
  ·rename_i hj;cases h;exact ⟨i,j,rfl,⟨hj.1.1,hj.1.2,hj.2.1,hj.2.2⟩,rfl⟩
  ·cases h
 ·cases h
noncomputable def Fy (f:List D->Option Src) (mr:DM (List D)):DM Src:=mr.bnd fun ds=>match f ds with | some s=>Zr s | none=>Zb
theorem Ob {f:List D->Option Src}{mr:DM (List D)}{loc:Loc}{mh:MH}{r:Src×MH}(h:Fy f mr loc mh=some r):∃ ds,mr loc mh=some (ds,r.2)/\f ds=some r.1:=by
 obtain ⟨ds,m1,ea,q⟩:=Aj h;cases e:f ds with
 | none=>rw [e] at q;cases q
 | some s=>rw [e] at q;cases q;exact ⟨ds,ea,e⟩
theorem Aba {K:PySem.W.Frag}{H:Hp}{ρ:List Addr}{d e:D}{xs:List V}(h:RDs K H ρ [d,e] xs):∃ v u,xs=[v,u]/\RD K H ρ d v/\RD K H ρ e u:=by
 cases h with
 | cons r t =>
  cases t with
  | cons r2 t=>cases t;exact ⟨_,_,rfl,r,r2⟩
theorem Xg {a:Expr}{mr:DM (List D)}{p pos:Pos}(hg:Gl X "range") (hm:X.mg "range"=none) (ha:DA X [a] mr) (hs:starEach [a] X.env=[(false,eval a X.env)]):DI X tg (.Call (.Name "range" p) [a] [] pos) (Fy Gr mr):=fun loc mh=>by
 refine Zw (Wz hg hm (ha loc mh) hs) ?_;rintro σ H R ⟨ρ,src,mh',q,rl,rs,co⟩;obtain ⟨ds,ea,q⟩:=Ob q;refine ⟨ρ,ds,mh',ea,rl,rs,fun H1 ρ1 vs e1 rs1 r1=>?_⟩;obtain ⟨j,rfl,h1,h2,e⟩:=Xe q;obtain ⟨v,rfl,rv⟩:=Lf r1;cases rv;have e:src=.seq (Cd 0 j.toNat):=e;subst e;exact ⟨j,rfl,h1,h2,co H1 ρ1 _ e1 rs1 JR.rng⟩
theorem Xh {a b:Expr}{mr:DM (List D)}{p pos:Pos}(hg:Gl X "range") (hm:X.mg "range"=none) (ha:DA X [a,b] mr) (hs:starEach [a,b] X.env=[(false,eval a X.env),(false,eval b X.env)]) (hs2:starEach [b] X.env=[(false,eval b X.env)]):DI X tg (.Call (.Name "range" p) [a,b] [] pos) (Fy Xd mr):=fun loc mh=>by
 refine Zw (W0 hg hm (ha loc mh) hs hs2) ?_;rintro σ H R ⟨ρ,src,mh',q,rl,rs,co⟩;obtain ⟨ds,ea,q⟩:=Ob q;refine ⟨ρ,ds,mh',ea,rl,rs,fun H1 ρ1 vs e1 rs1 r1=>?_⟩;obtain ⟨i,j,rfl,h1,e⟩:=Xf q;obtain ⟨v,u,rfl,rv,ru⟩:=Aba r1;cases rv;cases ru;have e:src=.seq (Cd i (j - i).toNat):=e;subst e;exact ⟨i,j,rfl,h1,co H1 ρ1 _ e1 rs1 JR.rng⟩
end
inductive Fl where
 | nx | bk | ct | rt (d:D)
noncomputable abbrev SM:=Loc->MH->Option (Fl×Loc×MH)
noncomputable def CoS (K:PySem.W.Frag) (H:Hp) (ρ:List Addr) (f:Fl) (loc':Loc) (mh':MH) (N:Ends):Prop:=match f with
 | .nx=>∀ H' ρ' σ',Ev K H ρ H' ρ'->RS K H' ρ' mh'->RL K H' ρ' loc' σ'->N.nx σ' H'
 | .bk=>∀ H' ρ' σ',Ev K H ρ H' ρ'->RS K H' ρ' mh'->RL K H' ρ' loc' σ'->N.bk σ' H'
 | .ct=>∀ H' ρ' σ',Ev K H ρ H' ρ'->RS K H' ρ' mh'->RL K H' ρ' loc' σ'->N.ct σ' H'
 | .rt d=>∀ H' ρ' v,Ev K H ρ H' ρ'->RS K H' ρ' mh'->RD K H' ρ' d v->N.rt v H'
theorem CoS.ev {K:PySem.W.Frag}{H H1:Hp}{ρ ρ1:List Addr}{f:Fl}{loc':Loc}{mh':MH}{N:Ends}(e:Ev K H ρ H1 ρ1) (c:CoS K H ρ f loc' mh' N):CoS K H1 ρ1 f loc' mh' N:=by
 cases f with
 | nx=>exact fun H' ρ' σ' e' rs r=>c H' ρ' σ' (e.trans e') rs r
 | bk=>exact fun H' ρ' σ' e' rs r=>c H' ρ' σ' (e.trans e') rs r
 | ct=>exact fun H' ρ' σ' e' rs r=>c H' ρ' σ' (e.trans e') rs r
 | rt d=>exact fun H' ρ' σ' e' rs r=>c H' ρ' σ' (e.trans e') rs r
noncomputable def tS (K:PySem.W.Frag) (m:SM):TS:=fun N σ H=>∃ loc mh ρ f loc' mh',m loc mh=some (f,loc',mh')/\RL K H ρ loc σ/\RS K H ρ mh/\CoS K H ρ f loc' mh' N
noncomputable def DS (X:Cx) (st:Stmt) (m:SM):Prop:=PS X st (tS X.K m)
noncomputable def DSs (X:Cx) (sts:List Stmt) (m:SM):Prop:=PSs X sts (tS X.K m)
theorem Ec {X:Cx}{st:Stmt}{t t':TS}(h:PS X st t) (i:∀ N σ H,t' N σ H->t N σ H):PS X st t':=fun pins s σ H N I q=>h pins s σ H N I (i N σ H q)
theorem Vt {X:Cx}{st:List Stmt}{t t':TS}(h:PSs X st t) (i:∀ N σ H,t' N σ H->t N σ H):PSs X st t':=fun pins s σ H N I q=>h pins s σ H N I (i N σ H q)
noncomputable def SM.bad:SM:=fun _ _=>none
theorem Cr {X:Cx}{st:Stmt}:DS X st SM.bad:=fun _ _ _ _ _ _ h=>by obtain ⟨_,_,_,_,_,_,e,_⟩:=h;cases e
noncomputable def tDx (K:PySem.W.Frag) (m:DM D):TE:=fun σ H Q=>∃ loc mh,tD K loc mh (m loc mh) σ H Q
noncomputable def tTx (K:PySem.W.Frag) (m:DM Bool):TT:=fun σ H Q=>∃ loc mh,tDT K loc mh (m loc mh) σ H Q
noncomputable def tIx (K:PySem.W.Frag) (m:DM Src):TI:=fun σ H R=>∃ loc mh,tDI K loc mh (m loc mh) σ H R
theorem DE.x {X:Cx}{e:Expr}{m:DM D}(h:DE X e m):PE X e (tDx X.K m):=fun pins s σ H Q I ⟨loc,mh,q⟩=>h loc mh pins s σ H Q I q
theorem DT.x {X:Cx}{e:Expr}{m:DM Bool}(h:DT X e m):PT X e (tTx X.K m):=fun pins s σ H Q I ⟨loc,mh,q⟩=>h loc mh pins s σ H Q I q
theorem DI.x {X:Cx}{tg e:Expr}{m:DM Src}(h:DI X tg e m):PI X tg e (tIx X.K m):=fun pins s σ H Q I ⟨loc,mh,q⟩=>h loc mh pins s σ H Q I q
section
variable {X:Cx}{st:Stmt}{sts:List Stmt}{m m1 m2:SM}{e:Expr}{me:DM D}{pos:Pos}
noncomputable def Zn:SM:=fun loc mh=>some (.nx,loc,mh)
noncomputable def Ab (m1 m2:SM):SM:=fun loc mh=>match m1 loc mh with
 | some (.nx,l,h)=>m2 l h
 | r=>r
theorem jU:DSs X [] Zn:=by
 refine Vt gP ?_;rintro N σ H ⟨loc,mh,ρ,f,loc',mh',q,rl,rs,co⟩;cases q;exact co H ρ σ Ev.refl rs rl
theorem Zx (h1:DS X st m1) (h2:DSs X sts m2):DSs X (st::sts) (Ab m1 m2):=by
 refine Vt (Yp h1 h2) ?_;rintro N σ H ⟨loc,mh,ρ,f,loc',mh',q,rl,rs,co⟩;unfold Ab at q;split at q
 ·rename_i l h e1;exact ⟨loc,mh,ρ,.nx,l,h,e1,rl,rs,fun H1 ρ1 σ1 ev1 rs1 rl1=>⟨l,h,ρ1,f,loc',mh',q,rl1,rs1,co.ev ev1⟩⟩
 ·rename_i r hne;refine ⟨loc,mh,ρ,f,loc',mh',q,rl,rs,?_⟩;cases f with
  | nx=>exact absurd q (hne _ _)
  | bk=>exact co
  | ct=>exact co
  | rt d=>exact co
theorem jV:DS X (.Pass pos) Zn:=by
 refine Ec gQ ?_;rintro N σ H ⟨loc,mh,ρ,f,loc',mh',q,rl,rs,co⟩;cases q;exact co H ρ σ Ev.refl rs rl
theorem Zy:DS X (.Break pos) (fun loc mh=>some (.bk,loc,mh)):=by
 refine Ec Yq ?_;rintro N σ H ⟨loc,mh,ρ,f,loc',mh',q,rl,rs,co⟩;cases q;exact co H ρ σ Ev.refl rs rl
theorem Rq:DS X (.Continue pos) (fun loc mh=>some (.ct,loc,mh)):=by
 refine Ec Q7 ?_;rintro N σ H ⟨loc,mh,ρ,f,loc',mh',q,rl,rs,co⟩;cases q;exact co H ρ σ Ev.refl rs rl
noncomputable def retS (me:DM D):SM:=fun loc mh=>match me loc mh with | some (d,mh')=>some (.rt d,loc,mh') | none=>none
theorem sG (he:DE X e me):DS X (.Return (some e) pos) (retS me):=by
 refine Ec (pR he.x) ?_;rintro N σ H ⟨loc,mh,ρ,f,loc',mh',q,rl,rs,co⟩;unfold retS at q;split at q
 ·rename_i d h1 ee;cases q;exact ⟨loc,mh,ρ,d,_,ee,rl,rs,co⟩
 ·cases q
theorem jW:DS X (.Return none pos) (fun loc mh=>some (.rt .non,loc,mh)):=by
 refine Ec gU ?_;rintro N σ H ⟨loc,mh,ρ,f,loc',mh',q,rl,rs,co⟩;cases q;exact co H ρ _ Ev.refl rs .non
noncomputable def Hr (me:DM D):SM:=fun loc mh=>match me loc mh with | some (_,mh')=>some (.nx,loc,mh') | none=>none
theorem jX (he:DE X e me) (hs:swapsWith e none pos.line X.env=pure false):DS X (.Expr e pos) (Hr me):=by
 refine Ec (gR he.x hs) ?_;rintro N σ H ⟨loc,mh,ρ,f,loc',mh',q,rl,rs,co⟩;unfold Hr at q;split at q
 ·rename_i d h1 ee;cases q;exact ⟨loc,mh,ρ,d,_,ee,rl,rs,fun H' ρ' v e' rs' r'=>co H' ρ' σ e' rs' (rl.mono e')⟩
 ·cases q
noncomputable def ifS (t:DM Bool) (m1 m2:SM):SM:=fun loc mh=>match t loc mh with
 | some (k,h)=>if k=true then m1 loc h else m2 loc h
 | none=>none
theorem yQ {c:Expr}{a b:List Stmt}{t:DM Bool}(hc:DT X c t) (ha:DSs X a m1) (hb:DSs X b m2):DS X (.If c a b pos) (ifS t m1 m2):=by
 refine Ec (wR hc.x ha hb) ?_;rintro N σ H ⟨loc,mh,ρ,f,loc',mh',q,rl,rs,co⟩;unfold ifS at q;split at q
 ·rename_i k h ek;refine ⟨loc,mh,ρ,k,h,ek,rl,rs,fun H1 ρ1 e1 rs1=>?_⟩;cases k with
  | true=>exact Pb ⟨loc,h,ρ1,f,loc',mh',by rw [if_pos rfl] at q;exact q,rl.mono e1,rs1,co.ev e1⟩
  | false=>exact Pa ⟨loc,h,ρ1,f,loc',mh',by rw [if_neg Bool.false_ne_true] at q;exact q,rl.mono e1,rs1,co.ev e1⟩
 ·cases q
noncomputable abbrev GM:=D->Loc->MH->Option (Loc×MH)
noncomputable def Gy (ws:List Nat) (σ σ':St):Prop:=σ'.length=σ.length/\∀ i,i ∉ ws->σ'[i]?=σ[i]?
noncomputable def tG (K:PySem.W.Frag) (ws:List Nat) (g:GM):TG:=fun v σ H Q=>∃ d loc mh ρ loc' mh',g d loc mh=some (loc',mh')/\RL K H ρ loc σ/\RS K H ρ mh/\RD K H ρ d v /\
 ∀ H' ρ' σ',Ev K H ρ H' ρ'->RS K H' ρ' mh'->RL K H' ρ' loc' σ'->Gy ws σ σ'->Q σ' H'
noncomputable def DG (X:Cx) (tg:Expr) (ws:List Nat) (g:GM):Prop:=PG X tg (tG X.K ws g)
theorem T8 {tg:Expr}{t t':TG}(h:PG X tg t) (i:∀ v σ H Q,t' v σ H Q->t v σ H Q):PG X tg t':=fun pins s σ H v u Q I r q=>h pins s σ H v u Q I r (i v σ H Q q)
noncomputable def Ag (i:Nat):GM:=fun d loc mh=>some (loc.set i (some d),mh)
theorem Gy.set {σ:St}{i:Nat}{o:Option V}:Gy [i] σ (σ.set i o):=⟨List.length_set,fun j hj=>List.getElem?_set_ne (fun e=>hj (by simp [e]))⟩
theorem jY {i:Nat}{x:Str}(hN:X.N.Nodup) (hi:X.N[i]?=some x) (hx:L2.Loc X.env.scope x) (hf:X.fn x=true\/X.env.scope.names.lookup x=some .local):DG X (.Name x pos) [i] (Ag i):=by
 refine T8 (Vg hN hi hx hf) ?_;rintro v σ H Q ⟨d,loc,mh,ρ,loc',mh',q,rl,rs,r,co⟩;cases q;exact co H ρ _ Ev.refl rs (rl.set r) Gy.set
noncomputable def Fz:List Nat->List D->Loc->Loc
 | i::is,d::ds,loc=>Fz is ds (loc.set i (some d))
 | _,_,loc=>loc
noncomputable def Ir:List Nat->List V->St->St
 | i::is,d::ds,loc=>Ir is ds (loc.set i (some d))
 | _,_,loc=>loc
noncomputable def gNs:List Nat->TGs
 | []=>wW
 | i::is=>nY (Yr i) (gNs is)
theorem Zz:∀ (is:List Nat) (vs:List V) (σ:St) (H:Hp) (Q:St->Hp->Prop),vs.length=is.length->Q (Ir is vs σ) H->gNs is vs σ H Q
 | [],[],_,_,_,_,q=>⟨rfl,q⟩
 | [],_::_,_,_,_,h,_=>by simp at h
 | _::_,[],_,_,_,h,_=>by simp at h
 | i::is,v::vs,σ,H,Q,h,q=>⟨v,vs,rfl,Zz is vs _ H Q (by simpa using h) q⟩
theorem Oc {K:PySem.W.Frag}{H:Hp}{ρ:List Addr}:∀ (is:List Nat) {ds:List D}{vs:List V}{loc:Loc}{σ:St},RDs K H ρ ds vs->RL K H ρ loc σ->RL K H ρ (Fz is ds loc) (Ir is vs σ)
 | [],_,_,_,_,.nil,rl=>rl
 | [],_,_,_,_,.cons _ _,rl=>rl
 | _::_,_,_,_,_,.nil,rl=>rl
 | i::is,_,_,_,_,.cons r t,rl=>Oc is t (rl.set r)
theorem J6:∀ (is:List Nat) (vs:List V) (σ:St),Gy is σ (Ir is vs σ)
 | [],[],_=>⟨rfl,fun _ _=>rfl⟩
 | [],_::_,_=>⟨rfl,fun _ _=>rfl⟩
 | _::_,[],_=>⟨rfl,fun _ _=>rfl⟩
 | i::is,v::vs,σ=>by
  obtain ⟨h1,h2⟩:=J6 is vs (σ.set i (some v));refine ⟨h1.trans List.length_set,fun j hj=>?_⟩;have hj':¬ (j=i)/\j ∉ is:=by simpa using hj
  show (Ir is vs (σ.set i (some v)))[j]?=σ[j]?;rw [h2 j hj'.2,List.getElem?_set_ne (fun e=>hj'.1 e.symm)]
noncomputable def Iu (is:List Nat):GM:=fun d loc mh=>match d with
 | .tup ds=>if ds.length=is.length then some (Fz is ds loc,mh) else none
 | _=>none
theorem sH {es:List Expr}{k:Nat}{is:List Nat}(hc:X.calm=true) (h:PGs X es (gNs is)) (hn:(assignEach es X.env).length=is.length) (hst:(assignEach es X.env).findIdx? (·.1)=none):DG X (.Tuple es k pos) is (Iu is):=by
 refine T8 (pW hc h hn hst) ?_;rintro v σ H Q ⟨d,loc,mh,ρ,loc',mh',q,rl,rs,r,co⟩;cases r with
 | @tup ds a xs s r =>
  have q:(if ds.length=is.length then some (Fz is ds loc,mh) else none)=some (loc',mh'):=q;split at q
  ·rename_i hl;cases q;exact ⟨a,xs,rfl,s,by rw [← r.length];exact hl,Zz is xs σ H Q (by rw [← r.length];exact hl) (co H ρ _ Ev.refl rs (Oc is r rl) (J6 is xs σ))⟩
  ·cases q
 | _=>cases q
noncomputable def Fb (o i v:D) (mh:MH):Option MH:=match o with
 | .ref n=>(match i with
  | .int k=>(match mh[n]? with
   | some (.lst ds)=>(match ixN ds.length k with
    | some j=>some (mh.set n (.lst (ds.set j v)))
    | none=>none)
   | _=>none)
  | _=>none)
 | _=>none
noncomputable def Rr (mo mi:DM D):GM:=fun v loc mh=>match mo loc mh with
 | some (o,m1)=>match mi loc m1 with
  | some (i,m2)=>match Fb o i v m2 with
   | some m3=>some (loc,m3)
   | none=>none
  | none=>none
 | none=>none
theorem T9 {o i v:D}{mh m:MH}(h:Fb o i v mh=some m):∃ n k ds j,o=.ref n/\i=.int k/\mh[n]?=some (.lst ds)/\ixN ds.length k=some j/\m=mh.set n (.lst (ds.set j v)):=by
 cases o with
 | ref n =>
  cases i with
  | int k =>
   have h:(match mh[n]? with | some (.lst ds)=>(match ixN ds.length k with | some j=>some (mh.set n (.lst (ds.set j v))) | none=>none) | _=>none)=some m:=h;split at h
   ·rename_i ds em;split at h
    ·rename_i j ej;cases h;exact ⟨n,k,ds,j,rfl,rfl,em,ej,rfl⟩
    ·cases h
   ·cases h
  | _=>cases h
 | _=>cases h
theorem sI {o i:Expr}{mo mi:DM D}(ho:DE X o mo) (hi:DE X i mi) (ha:∀ v,assign (.Subscript o i pos) X.env v=(do
      let ov ← holding [v] (eval o X.env)
      let iv ← holding [v,ov] (eval i X.env)
      standAt pos
      holding [v,ov,iv] (setItem ov iv v)
      release [v,ov,iv] [])):DG X (.Subscript o i pos) [] (Rr mo mi):=by
  refine T8 (pX ho.x hi.x set_list ha) ?_;rintro v σ H Q ⟨d,loc,mh,ρ,loc',mh',q,rl,rs,r,co⟩;unfold Rr at q;split at q
  · rename_i od m1 eo;split at q
    · rename_i idx m2 ei;split at q
      · rename_i m3 es;cases q;refine ⟨loc,mh,ρ,od,m1,eo,rl,rs,fun H1 ρ1 v1 e1 rs1 r1=>⟨loc,m1,ρ1,idx,m2,ei,rl.mono e1,rs1,fun H2 ρ2 v2 e2 rs2 r2=>?_⟩⟩;obtain ⟨n,k,ds,j,rfl,rfl,em,ej,rfl⟩:=T9 es;have r':=(r.mono e1).mono e2;cases r1.mono e2 with
        | @ref _ a hn =>
          cases r2;obtain ⟨a',ha',xs,hx,rx⟩:=rs2.at em;rw [hn] at ha';cases ha';refine ⟨a,xs,k,j,rfl,rfl,hx,by rw [← rx.length];exact ej,?_⟩;exact co _ ρ2 σ ((e1.trans e2).trans (Ev.lst hx)) (rs2.setL hn hx (rx.set r' j)) (((rl.mono e1).mono e2).mono (Ev.lst hx)) ⟨rfl,fun _ _=>rfl⟩
      · cases q
    · cases q
  · cases q
noncomputable def Ah (me:DM D) (g:GM):SM:=fun loc mh=>match me loc mh with
 | some (d,h)=>match g d loc h with
  | some (l,h')=>some (.nx,l,h')
  | none=>none
 | none=>none
theorem Rt {ws:List Nat}{g:GM}{N:Ends}{σ:St}{H:Hp}(h:tS X.K (Ah me g) N σ H):pY (tDx X.K me) (tG X.K ws g) N σ H:=by
 obtain ⟨loc,mh,ρ,f,loc',mh',q,rl,rs,co⟩:=h;unfold Ah at q;split at q
 ·rename_i d h1 ee;split at q
  ·rename_i l h2 eg;cases q;exact ⟨loc,mh,ρ,d,h1,ee,rl,rs,fun H1 ρ1 v e1 rs1 r1=>⟨d,loc,h1,ρ1,_,_,eg,rl.mono e1,rs1,r1,fun H2 ρ2 σ2 e2 rs2 rl2 _=>co H2 ρ2 σ2 (e1.trans e2) rs2 rl2⟩⟩
  ·cases q
 ·cases q
theorem Ua {tg:Expr}{ws:List Nat}{g:GM}(he:DE X e me) (hg:DG X tg ws g) (hs:swapsWithSole [tg] e pos.line X.env=pure false) (hw:swappedStores [tg] e X.env=pure none) (h1:(assignEach [tg] X.env).map (·.2)=[assign tg X.env]):DS X (.Assign [tg] e pos) (Ah me g) :=
 Ec (pZ he.x hg hs hw h1) fun N σ H h=>Rt h
noncomputable def Kh (src:Src) (g:GM) (body:SM):Nat->Nat->SM
 | 0,i,loc,mh=>if src.stop mh i=true then some (.nx,loc,mh) else none
 | k+1,i,loc,mh=>match src.get mh i with
  | none=>if src.stop mh i=true then some (.nx,loc,mh) else none
  | some d=>match g d loc mh with
   | none=>none
   | some (l1,h1)=>match body l1 h1 with
    | some (.nx,l,h)=>Kh src g body k (i+1) l h
    | some (.ct,l,h)=>Kh src g body k (i+1) l h
    | some (.bk,l,h)=>some (.nx,l,h)
    | some (.rt d,l,h)=>some (.rt d,l,h)
    | none=>none
noncomputable def Cv (mi:DM Src) (g:GM) (body:SM):SM:=fun loc mh=>match mi loc mh with
 | some (src,h)=>Kh src g body (src.items h).length 0 loc h
 | none=>none
theorem sJ {tg iter:Expr}{body:List Stmt}{mi:DM Src}{ws:List Nat}{g:GM}{mb:SM}(hp:PassesOwn (model X.prog X.w) X.A X.env X.xe) (hc:X.calm=true) (hi:DI X tg iter mi) (hg:DG X tg ws g) (hb:DSs X body mb)
  (hs:∀ x,foldedSetIterable iter X.env x=pure x):DS X (.For tg iter body [] pos) (Cv mi g mb):=by
 refine Ec (qG hp hc hi.x hg hb hs) ?_;rintro N σ H ⟨loc,mh,ρ,f,loc',mh',q,rl,rs,co⟩;unfold Cv at q;split at q
 ·rename_i src h0 ei;refine ⟨loc,mh,ρ,src,h0,ei,rl,rs,fun H1 ρ1 J e1 rs1 jr=>?_⟩
  refine ⟨fun i k σ H=>∃ ρ loc mh f loc' mh',Ev X.K H1 ρ1 H ρ/\RL X.K H ρ loc σ/\RS X.K H ρ mh/\Kh src g mb k i loc mh=some (f,loc',mh')/\CoS X.K H ρ f loc' mh' N,
   ⟨_,ρ1,loc,h0,f,loc',mh',Ev.refl,rl.mono e1,rs1,q,co.ev e1⟩,?_⟩
  rintro i k σ H ⟨ρ,loc,mh,f,loc',mh',ev,rl,rs,q,co⟩;have stop:(if src.stop mh i=true then some (Fl.nx,loc,mh) else none)=some (f,loc',mh')->J.stop i H/\N.nx σ H:=fun q=>by
   split at q
   ·rename_i hst;cases q;exact ⟨jr.stop H ρ mh i ev rs hst,co H ρ σ Ev.refl rs rl⟩
   ·cases q
  cases k with
  | zero=>exact .inl (stop q)
  | succ k =>
   simp only [Kh] at q;split at q
   ·exact .inl (stop q)
   ·rename_i d ed;obtain ⟨hgo,hyld⟩:=jr.go H ρ mh i d ev rs ed;split at q
    ·cases q
    ·rename_i l1 h1 eg
     refine .inr ⟨hgo,fun σ' H'=>∃ ρ' loc mh f loc' mh',Ev X.K H1 ρ1 H' ρ'/\RL X.K H' ρ' loc σ'/\RS X.K H' ρ' mh/\Kh src g mb k (i+1) loc mh=some (f,loc',mh')/\CoS X.K H' ρ' f loc' mh' N,
      fun σ' H' h=>⟨k,Nat.lt_succ_self _,h⟩,fun x H' hy=>?_⟩
     obtain ⟨ev2,rs2,rd2⟩:=hyld x H' hy;refine ⟨d,loc,mh,ρ,l1,h1,eg,rl.mono ev2,rs2,rd2,fun H3 ρ3 σ3 ev3 rs3 rl3 _=>?_⟩;split at q
     ·rename_i l h eb;exact ⟨l1,h1,ρ3,.nx,l,h,eb,rl3,rs3,fun H4 ρ4 σ4 ev4 rs4 rl4=>⟨ρ4,l,h,f,loc',mh',ev.trans (ev2.trans (ev3.trans ev4)),rl4,rs4,q,co.ev (ev2.trans (ev3.trans ev4))⟩⟩
     ·rename_i l h eb;exact ⟨l1,h1,ρ3,.ct,l,h,eb,rl3,rs3,fun H4 ρ4 σ4 ev4 rs4 rl4=>⟨ρ4,l,h,f,loc',mh',ev.trans (ev2.trans (ev3.trans ev4)),rl4,rs4,q,co.ev (ev2.trans (ev3.trans ev4))⟩⟩
     ·rename_i l h eb;cases q;exact ⟨l1,h1,ρ3,.bk,_,_,eb,rl3,rs3,fun H4 ρ4 σ4 ev4 rs4 rl4=>co H4 ρ4 σ4 (ev2.trans (ev3.trans ev4)) rs4 rl4⟩
     ·rename_i d' l h eb;cases q;exact ⟨l1,h1,ρ3,.rt d',_,_,eb,rl3,rs3,fun H4 ρ4 v4 ev4 rs4 r4=>co H4 ρ4 v4 (ev2.trans (ev3.trans ev4)) rs4 r4⟩
     ·cases q
 ·cases q
end
noncomputable def Dp (t:DM Bool) (body:SM):Nat->SM
 | 0,_,_=>none
 | k+1,loc,mh=>match t loc mh with
  | none=>none
  | some (false,h)=>some (.nx,loc,h)
  | some (true,h)=>match body loc h with
   | some (.nx,l,h)=>Dp t body k l h
   | some (.ct,l,h)=>Dp t body k l h
   | some (.bk,l,h)=>some (.nx,l,h)
   | some (.rt d,l,h)=>some (.rt d,l,h)
   | none=>none
noncomputable def Pq (t:DM Bool) (body:SM):SM:=Dp t body 1000000
section
variable {X:Cx}{pos:Pos}
theorem Z0 {c:Expr}{body:List Stmt}{t:DM Bool}{mb:SM}(hp:PassesOwn (model X.prog X.w) X.A X.env X.xe) (hc:DT X c t) (hb:DSs X body mb):DS X (.While c body [] pos) (Pq t mb):=by
 refine Ec (Yt hp hc.x hb) ?_;rintro N σ H ⟨loc,mh,ρ,f,loc',mh',q,rl,rs,co⟩;refine ⟨fun k σ H=>∃ ρ loc mh f loc' mh',RL X.K H ρ loc σ/\RS X.K H ρ mh/\Dp t mb k loc mh=some (f,loc',mh')/\CoS X.K H ρ f loc' mh' N,⟨_,ρ,loc,mh,f,loc',mh',rl,rs,q,co⟩,?_⟩;rintro k σ H ⟨ρ,loc,mh,f,loc',mh',rl,rs,q,co⟩;cases k with
 | zero=>cases q
 | succ k =>
  simp only [Dp] at q;split at q
  ·cases q
  ·rename_i h et;cases q;exact ⟨_,mh,ρ,false,_,et,rl,rs,fun H1 ρ1 e1 rs1=>Pa (co H1 ρ1 σ e1 rs1 (rl.mono e1))⟩
  ·rename_i h et;refine ⟨loc,mh,ρ,true,h,et,rl,rs,fun H1 ρ1 e1 rs1=>Pb ⟨fun σ' H'=>∃ ρ' loc mh f loc' mh',RL X.K H' ρ' loc σ'/\RS X.K H' ρ' mh/\Dp t mb k loc mh=some (f,loc',mh')/\CoS X.K H' ρ' f loc' mh' N,fun σ' H' h=>⟨k,Nat.lt_succ_self _,h⟩,?_⟩⟩;have rl1:=rl.mono e1;split at q
   ·rename_i l h2 eb;exact ⟨loc,h,ρ1,.nx,l,h2,eb,rl1,rs1,fun H4 ρ4 σ4 ev4 rs4 rl4=>⟨ρ4,l,h2,f,loc',mh',rl4,rs4,q,co.ev (e1.trans ev4)⟩⟩
   ·rename_i l h2 eb;exact ⟨loc,h,ρ1,.ct,l,h2,eb,rl1,rs1,fun H4 ρ4 σ4 ev4 rs4 rl4=>⟨ρ4,l,h2,f,loc',mh',rl4,rs4,q,co.ev (e1.trans ev4)⟩⟩
   ·rename_i l h2 eb;cases q;exact ⟨loc,h,ρ1,.bk,_,_,eb,rl1,rs1,fun H4 ρ4 σ4 ev4 rs4 rl4=>co H4 ρ4 σ4 (e1.trans ev4) rs4 rl4⟩
   ·rename_i d' l h2 eb;cases q;exact ⟨loc,h,ρ1,.rt d',_,_,eb,rl1,rs1,fun H4 ρ4 v4 ev4 rs4 r4=>co H4 ρ4 v4 (e1.trans ev4) rs4 r4⟩
   ·cases q
end
noncomputable def Hl (cs:List (Option Nat)) (loc:Loc):Loc:=cs.map fun o=>match o with | some j=>(match loc[j]? with | some d=>d | none=>none) | none=>none
noncomputable def Ng (cs:List (Option Nat)) (σ:St):St:=cs.map fun o=>match o with | some j=>(match σ[j]? with | some d=>d | none=>none) | none=>none
theorem sO {K:PySem.W.Frag}{H:Hp}{ρ:List Addr}{loc:Loc}{σ:St}(cs:List (Option Nat)) (h:RL K H ρ loc σ):RL K H ρ (Hl cs loc) (Ng cs σ):=by
 refine ⟨by unfold Hl Ng;rw [List.length_map,List.length_map],fun i d e=>?_⟩;unfold Hl at e;unfold Ng;rw [List.getElem?_map] at e ⊢;cases q:cs[i]? with
 | none=>rw [q] at e;cases e
 | some o =>
  rw [q] at e;cases o with
  | none=>simp at e
  | some j =>
   simp only [Option.map_some,Option.some.injEq] at e;cases ej:loc[j]? with
   | none=>rw [ej] at e;cases e
   | some d' =>
    rw [ej] at e;have e:d'=some d:=e;subst e;obtain ⟨v,e1,r⟩:=h.2 j d ej;exact ⟨v,by simp only [Option.map_some,e1],r⟩
structure CapOk (X:Cx) (N':List Str) (scope:Scope) (cs:List (Option Nat)):Prop where
 len:N'.length=cs.length
 cap:∀ (i:Nat) (x:Str) (j:Nat),N'[i]?=some x->cs[i]?=some (some j)->scope.names.lookup x=some .free/\X.N[j]?=some x
theorem CapOk.to {X:Cx}{N':List Str}{scope:Scope}{cs:List (Option Nat)}(h:CapOk X N' scope cs) (σ:St):Cap X N' scope σ (Ng cs σ):=by
 refine ⟨by unfold Ng;rw [List.length_map];exact h.len.symm,fun i x v e1 e2=>?_⟩;unfold Ng at e2;rw [List.getElem?_map] at e2;cases q:cs[i]? with
 | none=>rw [q] at e2;cases e2
 | some o =>
  rw [q] at e2;cases o with
  | none=>simp at e2
  | some j =>
   obtain ⟨h1,h2⟩:=h.cap i x j e1 q;refine ⟨h1,j,h2,?_⟩;simp only [Option.map_some,Option.some.injEq] at e2;cases ej:σ[j]? with
   | none=>rw [ej] at e2;cases e2
   | some d'=>rw [ej] at e2;have e2:d'=some v:=e2;rw [e2]
theorem jZ {cs:List (Option Nat)}{ws:List Nat}{σ σ2:St}(hw:∀ i∈ws,∀ j,cs[i]?≠some (some j)) (h:Gy ws (Ng cs σ) σ2):Kept (Ng cs σ) σ2:=by
 refine ⟨h.1,fun i v e=>?_⟩;rw [h.2 i fun hi=>?_]
 ·exact e
 ·unfold Ng at e;rw [List.getElem?_map] at e;cases q:cs[i]? with
  | none=>rw [q] at e;cases e
  | some o =>
   cases o with
   | none=>rw [q] at e;simp at e
   | some j=>exact hw i hi j q
noncomputable def Hs (src:Src) (g:GM) (tc:DM Bool) (me:DM D) (loc:Loc):Nat->Nat->List D->MH->Option (List D×MH)
 | 0,i,acc,mh=>if src.stop mh i=true then some (acc,mh) else none
 | k+1,i,acc,mh=>match src.get mh i with
  | none=>if src.stop mh i=true then some (acc,mh) else none
  | some d=>match g d loc mh with
   | none=>none
   | some (l1,h1)=>match tc l1 h1 with
    | none=>none
    | some (c,h2)=>if c=true then (match me l1 h2 with
      | some (y,h3)=>if acc.length < sizeLine then Hs src g tc me loc k (i+1) (acc++[y]) h3 else none
      | none=>none) else Hs src g tc me loc k (i+1) acc h2
noncomputable def Dl (mi:DM Src) (cs:List (Option Nat)) (g:GM) (tc:DM Bool) (me:DM D):DM D:=fun loc mh=>match mi loc mh with
 | some (src,h)=>match Hs src g tc me (Hl cs loc) (src.items h).length 0 [] h with
  | some (ds,h')=>some (.ref h'.length,h'++[.lst ds])
  | none=>none
 | none=>none
section
variable {X:Cx}{N':List Str}{scope:Scope}{cs:List (Option Nat)}{ws:List Nat}{mi:DM Src}{g:GM}{tc:DM Bool}{me:DM D}{elt target iter:Expr}{ifs:List Expr}{pos:Pos}
theorem Ru (hcap:CapOk X N' scope cs) (hw:∀ i∈ws,∀ j,cs[i]?≠some (some j)) {σ:St}{H:Hp}{Q:VK}(h:tDx X.K (Dl mi cs g tc me) σ H Q) :
  Zf X N' scope (tIx X.K mi) (tG X.K ws g) (tTx X.K tc) (tDx X.K me) σ H Q:=by
 obtain ⟨loc,mh,ρ,d,mh',q,rl,rs,co⟩:=h;unfold Dl at q;split at q
 ·rename_i src h0 ei;split at q
  ·rename_i ds h1 ec;cases q;refine ⟨loc,mh,ρ,src,h0,ei,rl,rs,fun H1 ρ1 J e1 rs1 jr=>?_⟩;refine ⟨Ng cs σ,hcap.to σ,fun i k acc H=>∃ ρ accD mh,Ev X.K H1 ρ1 H ρ/\RS X.K H ρ mh/\RDs X.K H ρ accD acc/\Hs src g tc me (Hl cs loc) k i accD mh=some (ds,h1),⟨_,ρ1,[],h0,Ev.refl,rs1,.nil,ec⟩,?_⟩;have co1:=co.ev e1;have rl1:=sO cs (rl.mono e1);rintro i k acc H ⟨ρ,accD,mh,ev,rs,ra,q⟩;have stop:(if src.stop mh i=true then some (accD,mh) else none)=some (ds,h1)->J.stop i H/\∀ p,H p=none->Q (.ref p) (upd H p (.lst acc)):=fun q=>by
    split at q
    ·rename_i hst;cases q;exact ⟨jr.stop H ρ _ i ev rs hst,Co.newL rs ra (co1.ev ev)⟩
    ·cases q
   cases k with
   | zero=>exact .inl (stop q)
   | succ k =>
    simp only [Hs] at q;split at q
    ·exact .inl (stop q)
    ·rename_i d ed;obtain ⟨hgo,hyld⟩:=jr.go H ρ mh i d ev rs ed;split at q
     ·cases q
     ·rename_i l1 h2 eg;refine .inr ⟨hgo,fun acc' H'=>∃ ρ accD mh,Ev X.K H1 ρ1 H' ρ/\RS X.K H' ρ mh/\RDs X.K H' ρ accD acc'/\Hs src g tc me (Hl cs loc) k (i+1) accD mh=some (ds,h1),fun acc' H' h=>⟨k,Nat.lt_succ_self _,h⟩,fun x H' hy=>?_⟩;obtain ⟨ev2,rs2,rd2⟩:=hyld x H' hy;refine ⟨d,Hl cs loc,mh,ρ,l1,h2,eg,rl1.mono (ev.trans ev2),rs2,rd2,fun H3 ρ3 σ3 ev3 rs3 rl3 kb=>⟨jZ hw kb,?_⟩⟩;split at q
      ·cases q
      ·rename_i c h3 et;refine ⟨l1,h2,ρ3,c,h3,et,rl3,rs3,fun H4 ρ4 ev4 rs4=>?_⟩;have evA:=ev2.trans (ev3.trans ev4);cases c with
       | false =>
        rw [if_neg Bool.false_ne_true] at q;exact Pa ⟨ρ4,accD,h3,ev.trans evA,rs4,ra.mono evA,q⟩
       | true =>
        rw [if_pos rfl] at q;split at q
        ·rename_i y h4 ey;split at q
         ·rename_i hz;refine Pb ⟨by rw [← ra.length];exact hz,l1,h3,ρ4,y,h4,ey,rl3.mono ev4,rs4,fun H5 ρ5 v ev5 rs5 r5=>⟨ρ5,accD++[y],h4,ev.trans (evA.trans ev5),rs5,(ra.mono (evA.trans ev5)).append (.cons r5 .nil),q⟩⟩
         ·cases q
        ·cases q
  ·cases q
 ·cases q
noncomputable def DIf (X:Cx) (ifs:List Expr) (m:DM Bool):Prop:=PIf X ifs (tTx X.K m)
theorem kE:DIf X [] (Zr true):=by
 rintro pins s σ H Q I ⟨loc,mh,ρ,b,mh',q,rl,rs,co⟩;cases q;exact jB pins s σ H Q I (co H ρ Ev.refl rs)
theorem kJ {c:Expr}{m:DM Bool}(h:DT X c m):DIf X [c] m:=jC h.x
theorem kO (hc:X.calm=true) (S:CompOk X scope) (hcap:CapOk X N' scope cs) (hw:∀ i∈ws,∀ j,cs[i]?≠some (some j)) (hit:DI X target iter mi)
  (hg:∀ pins C cells s₀ H₀ fp,DG (Bj X pins N' scope C cells s₀ H₀ fp) target ws g)
  (hi:∀ pins C cells s₀ H₀ fp,DIf (Bj X pins N' scope C cells s₀ H₀ fp) ifs tc)
  (he:∀ pins C cells s₀ H₀ fp,DE (Bj X pins N' scope C cells s₀ H₀ fp) elt me)
  (hs:∀ x,foldedSetIterable iter X.env x=pure x):DE X (.ListComp elt [⟨target,iter,ifs,0⟩] scope pos) (Dl mi cs g tc me):=fun loc mh =>
 Bg (jD (N':=N') (g:=tG X.K ws g) (tc:=tTx X.K tc) (te:=tDx X.K me) hc S hit.x (fun p C c s h f=>hg p C c s h f) (fun p C c s h f=>hi p C c s h f) (fun p C c s h f=>(he p C c s h f).x) hs) fun σ H Q h=>Ru hcap hw ⟨loc,mh,h⟩
theorem Ub {y:Str}{py spos:Pos}{wy:List Nat}{gy:GM}(hc:X.calm=true) (S:CompOk X scope) (hcap:CapOk X N' scope cs) (hw:∀ i∈ws,∀ j,cs[i]?≠some (some j)) (hit:DI X target iter mi)
  (hg:∀ pins C cells s₀ H₀ fp,DG (Bj X pins N' scope C cells s₀ H₀ fp) target ws g)
  (hi:∀ pins C cells s₀ H₀ fp,DIf (Bj X pins N' scope C cells s₀ H₀ fp) ifs tc)
  (he:∀ pins C cells s₀ H₀ fp,DE (Bj X pins N' scope C cells s₀ H₀ fp) elt me) (hgy:DG X (.Name y py) wy gy)
  (hsw:swapsWith (.ListComp elt [⟨target,iter,ifs,0⟩] scope pos) (some (.Name y py)) spos.line X.env=pure true)
  (hs:∀ x,foldedSetIterable iter X.env x=pure x):DS X (.Assign [.Name y py] (.ListComp elt [⟨target,iter,ifs,0⟩] scope pos) spos) (Ah (Dl mi cs g tc me) gy) :=
 Ec (T4 (N':=N') (g:=tG X.K ws g) (tc:=tTx X.K tc) (te:=tDx X.K me) hc S hit.x (fun p C c s h f=>hg p C c s h f) (fun p C c s h f=>hi p C c s h f) (fun p C c s h f=>(he p C c s h f).x) hgy hsw hs) fun N σ H h=>Ru hcap hw (Rt h)
end
noncomputable def spD (K:PySem.W.Frag) (n:Nat) (f:List D->MH->Option (D×MH)):Sp:=fun vs H Q _=>vs.length=n/\rDs K f vs H Q
section
variable {X:Cx}
theorem kW {CX:CXT}{k:Nat}{fa:Addr}{fd:FuncData}{ps:List Str}{f:List D->MH->Option (D×MH)}{x:Str}{p pos:Pos}{a:Expr}{es:List Expr}{mr:DM (List D)}{E:XK}
  (F:FnOk X.prog X.w X.K X.mg X.base CX k fa fd ps (spD X.K ps.length f)) (hr:Room k X.A) (hg:Gl X x) (hm:X.mg x=some (.ref fa)) (hk:PySem.W.keepIn X.K (.ref fa)=true) (hb:Binds X.K fd ps []) (hx:Jo CX X E)
  (ha:DA X (a::es) mr) (hf:∀ ds mh r,f ds mh=some r->ds.length=ps.length) (hdb:(x==("__debug__":Str))=false) (he:starEach (a::es) X.env=(false,eval a X.env)::starEach es X.env) (hpl:(backTo pos (starEach es X.env)).any (·.1)=false) :
  DE X (.Call (.Name x p) (a::es) [] pos) (mr.bnd fun ds=>Zl (f ds)):=fun loc mh=>by
 refine Bg (iH F hr hg hm hk hb .nil hx (ha loc mh) hdb he hpl) ?_;rintro σ H Q ⟨ρ,d,mh',q,rl,rs,co⟩;obtain ⟨ds,m1,ea,q⟩:=Aj q;refine ⟨ρ,ds,m1,ea,rl,rs,fun H1 ρ1 vs e1 rs1 r1=>?_⟩;show spD X.K ps.length f (vs++[]) H1 Q E;rw [List.append_nil];exact ⟨by rw [← r1.length];exact hf _ _ _ q,ρ1,m1,ds,d,mh',q,rs1,r1,co.ev e1⟩
theorem Z1 {CX:CXT}{k:Nat}{fa:Addr}{fd:FuncData}{f:List D->MH->Option (D×MH)}{x:Str}{p pos:Pos}{E:XK}
  (F:FnOk X.prog X.w X.K X.mg X.base CX k fa fd [] (spD X.K 0 f)) (hr:Room k X.A) (hg:Gl X x) (hm:X.mg x=some (.ref fa)) (hk:PySem.W.keepIn X.K (.ref fa)=true) (hb:Binds X.K fd [] []) (hx:Jo CX X E) (hdb:(x==("__debug__":Str))=false) :
  DE X (.Call (.Name x p) [] [] pos) (Zl (f [])):=fun loc mh=>by
 refine Bg (Y5 F hr hg hm hk hb .nil hx hdb) ?_;rintro σ H Q ⟨ρ,d,mh',q,rl,rs,co⟩;exact ⟨rfl,ρ,mh,[],d,mh',q,rs,.nil,co⟩
noncomputable def Abb (c:String) (x:D) (mh:MH):Option (D×MH):=match sE x mh with
 | some t=>match Aa9 t c with
  | some b=>some (.bl b,mh)
  | none=>none
 | none=>none
end
section
variable {X:Cx}{a b c e o:Expr}{ma mb mc mo:DM D}{pos:Pos}
noncomputable def Lh (f f':D->D->MH->Option (D×MH)) (ma mb mc:DM D):DM D:=ma.bnd fun x=>mb.bnd fun y=>(Ae (Zl (f x y))).bnd fun k=>if k=true then mc.bnd fun z=>Zl (f' y z) else Zr (.bl false)
theorem Od {f f':D->D->MH->Option (D×MH)}{σ:St}{H:Hp}{Q:VK}(h:tDx X.K (Lh f f' ma mb mc) σ H Q):Tn (rD X.K f) (rD X.K f') (tDx X.K ma) (tDx X.K mb) (tDx X.K mc) σ H Q:=by
 obtain ⟨loc,mh,ρ,d,mh',q,rl,rs,co⟩:=h;obtain ⟨x,m1,ea,q⟩:=Aj q;obtain ⟨y,m2,eb,q⟩:=Aj q;obtain ⟨k,m3,ek,q⟩:=Aj q;have ek:=Ea ek;refine ⟨loc,mh,ρ,x,m1,ea,rl,rs,fun H1 ρ1 v1 e1 rs1 r1=>⟨loc,m1,ρ1,y,m2,eb,rl.mono e1,rs1,fun H2 ρ2 v2 e2 rs2 r2=>⟨ρ2,m2,x,y,.bl k,m3,ek,rs2,r1.mono e2,r2,fun H3 ρ3 v3 e3 rs3 r3=>?_⟩⟩⟩;cases r3;refine ⟨k,rfl,?_⟩;cases k with
 | true =>
  rw [if_pos rfl] at q;obtain ⟨z,m4,ec,q⟩:=Aj q;exact Pb ⟨loc,m3,ρ3,z,m4,ec,((rl.mono e1).mono e2).mono e3,rs3,fun H4 ρ4 v4 e4 rs4 r4=>⟨ρ4,m4,y,z,d,mh',q,rs4,(r2.mono e3).mono e4,r4,co.ev (e1.trans (e2.trans (e3.trans e4)))⟩⟩
 | false =>
  rw [if_neg Bool.false_ne_true] at q;cases q;exact Pa (co H3 ρ3 _ (e1.trans (e2.trans e3)) rs3 (.bl false))
theorem Z2 {op op':CmpOp}{f f':D->D->MH->Option (D×MH)}(ho:OpR X (compareOp op) (rD X.K f)) (ho':OpR X (compareOp op') (rD X.K f')) (hm:lastMarks [op,op'] [b,c]=false) (ha:DE X a ma) (hb:DE X b mb) (hc:DE X c mc) :
  DE X (.Compare a [op,op'] [b,c] pos) (Lh f f' ma mb mc):=fun loc mh=>Bg (Yw ho ho' ha.x hb.x hc.x hm) fun σ H Q h=>Od ⟨loc,mh,h⟩
theorem Z3 {op op':CmpOp}{f f':D->D->MH->Option (D×MH)}(ho:OpR X (compareOp op) (rD X.K f)) (ho':OpR X (compareOp op') (rD X.K f')) (hm:lastMarks [op,op'] [b,c]=false) (ha:DE X a ma) (hb:DE X b mb) (hc:DE X c mc) :
  DT X (.Compare a [op,op'] [b,c] pos) (Ae (Lh f f' ma mb mc)):=by
 refine fun loc mh=>Pj (Yx ho ho' ha.x hb.x hc.x hm) ?_
 rintro σ H Q ⟨ρ,k,mh',q,rl,rs,co⟩;have q:=Ea q;exact Od ⟨loc,mh,ρ,_,_,q,rl,rs,fun H' ρ' v e' rs' r'=>by cases r';exact ⟨k,rfl,co H' ρ' e' rs'⟩⟩
noncomputable def rDM (K:PySem.W.Frag) (f:D->List D->MH->Option (D×MH)):V->List V->Hp->VK->Prop:=fun x xs H Q=>∃ ρ mh dx ds d mh',f dx ds mh=some (d,mh')/\RS K H ρ mh/\RD K H ρ dx x/\RDs K H ρ ds xs/\Co K H ρ mh' d Q
noncomputable def Xi (T:String) (x:D) (mh:MH):Bool:=match x with
 | .str _=>T == "str"
 | .int _=>T == "int"
 | .ref n=>T == "list"&&(match mh[n]? with | some (.lst _)=>true | _=>false)
 | .tup _=>T == "tuple"
 | _=>false
theorem Z4 {K:PySem.W.Frag}{H:Hp}{ρ:List Addr}{mh:MH}{T:String}{x:D}{v:V}(rs:RS K H ρ mh) (r:RD K H ρ x v) (h:Xi T x mh=true):tyV K T v H:=by
 cases r with
 | str z=>exact eq_of_beq h
 | int i=>exact eq_of_beq h
 | @ref n a hn =>
  have h:(T == "list"&&(match mh[n]? with | some (.lst _)=>true | _=>false))=true:=h;rw [Bool.and_eq_true] at h;obtain ⟨o,eo⟩:∃ o,mh[n]?=some (.lst o):=by
   have h:=h.2;split at h
   ·exact ⟨_,‹_›⟩
   ·cases h
  obtain ⟨a',ha,ro⟩:=rs.at eo;rw [hn] at ha;cases ha;obtain ⟨xs,sq,_⟩:=ro.read;exact .inl ⟨eq_of_beq h.1,xs,sq⟩
 | tup s r=>exact .inr (.inl ⟨eq_of_beq h,_,s⟩)
 | _=>cases h
noncomputable def Cm (T:String) (f:D->List D->MH->Option (D×MH)) (mo:DM D) (mr:DM (List D)):DM D:=mo.bnd fun x=>fun loc mh=>if Xi T x mh=true then (mr.bnd fun ds=>Zl (f x ds)) loc mh else none
theorem J7 {T id:String}{name:Str}{apos:Pos}{es:List Expr}{mr:DM (List D)}{f:D->List D->MH->Option (D×MH)}(pa:PlainAttrs T) (slot:Slot T name id) (hty:typeOf (.builtin id)=pure (.type "method_descriptor")) (hm:MtR X id (rDM X.K f)) (ho:DE X o mo) (ha:DA X (a::es) mr)
  (hbase:attributeBase o name X.env (eval o X.env)=eval o X.env)
  (hfew:((backTo pos (starEach (a::es) X.env)).all (fun x=>!x.1)&&(backToKw pos (keywordEach [] X.env)).all (fun x=>x.1.isSome)
   && decide ((a::es).length+([]:List Keyword).length+(if ([]:List Keyword).isEmpty then 0 else 1) < 30))=true)
  (hline:(apos.endLine==pos.line)=true) (hs:starEach (a::es) X.env=(false,eval a X.env)::starEach es X.env) (hplain:(backTo pos (starEach es X.env)).any (·.1)=false) :
  DE X (.Call (.Attribute o name apos) (a::es) [] pos) (Cm T f mo mr):=fun loc mh=>by
 cases eo:mo loc mh with
 | none =>
  have:Cm T f mo mr loc mh=none:=by unfold Cm DM.bnd;rw [eo]
  rw [this];exact Dr
 | some p =>
  obtain ⟨x,m1⟩:=p;refine Bg (yC pa slot hty hm (ho loc mh) (ha loc m1) hbase hfew hline hs hplain) ?_;rintro σ H Q ⟨ρ,d,mh',q,rl,rs,co⟩;obtain ⟨x',m1',eo',q⟩:=Aj q;rw [eo] at eo';cases eo';split at q
  ·rename_i ht;obtain ⟨ds,m2,er,q⟩:=Aj q;exact ⟨ρ,x,m1,eo,rl,rs,fun H1 ρ1 v e1 rs1 r1=>⟨Z4 rs1 r1 ht,ρ1,ds,m2,er,rl.mono e1,rs1,fun H2 ρ2 vs e2 rs2 r2=>⟨ρ2,m2,x,ds,d,mh',q,rs2,r1.mono e2,r2,co.ev (e1.trans e2)⟩⟩⟩
  ·cases q
theorem Z5 {T id:String}{name:Str}{apos:Pos}{f:D->List D->MH->Option (D×MH)}(pa:PlainAttrs T) (slot:Slot T name id) (hty:typeOf (.builtin id)=pure (.type "method_descriptor")) (hm:MtR X id (rDM X.K f)) (ho:DE X o mo)
  (hbase:attributeBase o name X.env (eval o X.env)=eval o X.env) (hline:(apos.endLine==pos.line)=true):DE X (.Call (.Attribute o name apos) [] [] pos) (Cm T f mo (Zr [])):=fun loc mh=>by
 refine Bg (qY pa slot hty hm (ho loc mh) hbase hline) ?_;rintro σ H Q ⟨ρ,d,mh',q,rl,rs,co⟩;obtain ⟨x,m1,eo,q⟩:=Aj q;split at q
 ·rename_i ht;exact ⟨ρ,x,m1,eo,rl,rs,fun H1 ρ1 v e1 rs1 r1=>⟨Z4 rs1 r1 ht,ρ1,m1,x,[],d,mh',q,rs1,r1,.nil,co.ev e1⟩⟩
 ·cases q
theorem Pr {id:String}{r r':V->List V->Hp->VK->Prop}(h:MtR X id r) (i:∀ x xs H Q,r' x xs H Q->r x xs H Q):MtR X id r':=fun pins s σ H x xs v us Q I rx rs q=>h pins s σ H x xs v us Q I rx rs (i x xs H Q q)
noncomputable def Ds:D->List D->MH->Option (D×MH)
 | .ref n,[y],mh=>match mh[n]? with
  | some (.lst ds)=>if ds.length < sizeLine then some (.non,mh.set n (.lst (ds++[y]))) else none
  | _=>none
 | _,_,_=>none
theorem Uc:MtR X "list.append" (rDM X.K Ds):=by
 refine Pr W5 ?_;rintro x xs H Q ⟨ρ,mh,dx,ds,d,mh',q,rs,rx,r,co⟩
 match ds,q with
 | [y],q =>
  obtain ⟨v,rfl,rv⟩:=Lf r;cases rx with
  | @ref n a hn =>
   have q:(match mh[n]? with | some (.lst ds)=>if ds.length < sizeLine then some (D.non,mh.set n (.lst (ds++[y]))) else none | _=>none)=some (d,mh'):=q;split at q
   ·rename_i ds em;split at q
    ·rename_i hz;cases q;obtain ⟨a',ha,us,hu,ru⟩:=rs.at em;rw [hn] at ha;cases ha;exact ⟨a,us,v,rfl,rfl,hu,by rw [← ru.length];exact hz,co _ ρ _ (Ev.lst hu) (rs.setL hn hu (ru.append (.cons rv .nil))) .non⟩
    ·cases q
   ·cases q
  | _=>cases q
 | [],q=>cases dx <;> cases q
 | _::_::_,q=>cases dx <;> cases q
noncomputable def sS:D->MH->Option (D×MH)
 | .int i,mh=>some (.int (-i),mh)
 | _,_=>none
theorem kY:UnR X (unaryOp .USub) (rD1 X.K sS):=by
 rintro pins s σ H x v Q I rx ⟨ρ,mh,dx,d,mh',q,rs,r1,co⟩;cases r1 with
 | int i=>cases q;exact qM pins s σ H _ v Q I rx ⟨i,rfl,co H ρ _ Ev.refl rs (.int _)⟩
 | _=>cases q
end
section
variable {P:Program}{w:World}
variable {A:Around}{E:Value->Shared->Prop}{s:Shared}
end
section
variable {P:Program}{w:World}{A:Around}{R:Result->Shared->Prop}{I:Addr}{fp wr:List Addr}{G:Array GenState->Array GenState->Prop}{n:Nat}{V:Nat->Value->Prop}{T:Nat->Shared->Prop}
end
section
variable {P:Program}{w:World}{A:Around}{E:Value->Shared->Prop}{s:Shared}
end
section
variable {P:Program}{w:World}{A:Around}{E:Value->Shared->Prop}{s:Shared}
noncomputable def Z6 (ns:List Int):List Int:=firstMet (fun i=>ns.getD i 0) ns.length
end
section
variable {P:Program}{w:World}{A:Around}{E:Value->Shared->Prop}{s:Shared}
end
section
variable {P:Program}{w:World}{A:Around}{E:Value->Shared->Prop}
end
namespace SI
end SI
section
variable {P:Program}{w:World}{A:Around}{E:Value->Shared->Prop}{s:Shared}{a I:Addr}{o:Obj}{es:Array (Int×Value)}{ep n:Nat}{t:SetTable}{S:Int->Bool}
end
section
variable {P:Program}{w:World}{A:Around}{E:Value->Shared->Prop}{s:Shared}{a I:Addr}{o:Obj}{es:Array (Int×Value)}{ep n:Nat}{t:SetTable}{S:Int->Bool}
end
noncomputable def yR (ns:List Int):List Int:=(Z6 ns).mergeSort fun a b=>decide (a<=b)
theorem Z7 {l l':List Int}(p:l.Perm l') (h:l.Pairwise (·<=·)) (h':l'.Pairwise (·<=·)):l=l':=p.eq_of_pairwise (le:=(·<=·)) (fun a b _ _ x y=>Int.le_antisymm x y) h h'
theorem Ey:∀ {us:List Value}{ns:List Int},IntsAre us ns->Vals (ns.map V.int) us
 | _,_,.nil=>.nil
 | _,_,.cons n t h=>.cons ⟨t,rfl⟩ (Ey h)
section
variable {X:Cx}
end
section
variable {P:Program}{w:World}{A:Around}{E:Value->Shared->Prop}{s:Shared}{a b:Addr}{o o':Obj}{es es':Array (Int×Value)}{ep n ep' n':Nat}{t t':SetTable}{S S':Int->Bool}
end
noncomputable def yS (ns ms:List Int):Bool:=ns.all (fun k=>ms.contains k)&&ms.all fun k=>ns.contains k
section
variable {P:Program}{w:World}{K:Type} [DecidableEq K] {knd:KeyKind P w K}{A:Around}{E:Value->Shared->Prop}{s:Shared}
end
section
variable {P:Program}{w:World}{K:Type} [DecidableEq K] {knd:KeyKind P w K}{A:Around}{E:Value->Shared->Prop}{s:Shared}
end
section
variable {P:Program}{w:World}{K:Type} [DecidableEq K] {knd:KeyKind P w K}
end
section
variable {P:Program}{w:World}{K:Type} [DecidableEq K] {knd:KeyKind P w K}{A:Around}{R:Result->Shared->Prop}{I:Addr}{fp wr:List Addr}{G:Array GenState->Array GenState->Prop}{n:Nat}{V:Nat->Value->Prop}{T:Nat->Shared->Prop}
end
section
variable {P:Program}{w:World}{K:Type} [DecidableEq K] {knd:KeyKind P w K}{A:Around}{E:Value->Shared->Prop}{s:Shared}
end
section
variable {X:Cx}
end
noncomputable def intsOf:List D->Option (List Int)
 | []=>some []
 | .int i::r=>match intsOf r with
  | some l=>some (i::l)
  | none=>none
 | _=>none
noncomputable def Z8:D->MH->Option (List Int)
 | .ref n,mh=>match mh[n]? with
  | some (.lst o)=>intsOf o
  | _=>none
 | .rol ds,_=>intsOf ds
 | .tup ds,_=>intsOf ds
 | _,_=>none
section
variable {K:PySem.W.Frag}{H:Hp}{ρ:List Addr}{mh:MH}
theorem Z9 {ns:List Int}{vs:List V}(h:RDs K H ρ (ns.map D.int) vs):vs=ns.map V.int:=by
 induction ns generalizing vs with
 | nil=>cases h;rfl
 | cons n r ih =>
  cases h with
  | cons a t=>cases a;rw [ih t];rfl
end
noncomputable def kZ (x:D) (mh:MH):Option (D×MH):=match Z8 x mh with
 | some ns=>if ns.length < 4000 then some (.int (Z6 ns).length,mh) else none
 | none=>none
noncomputable def sU (x y:D) (mh:MH):Option (D×MH):=match Z8 x mh,Z8 y mh with
 | some ns,some ms=>if ns.length < 4000/\ms.length < 4000 then some (.bl (yS ns ms),mh) else none
 | _,_=>none
section
variable {X:Cx}{a:Expr}{ma:DM D}{p p2 pos pos2:Pos}
noncomputable def aA (mx my:DM D):DM D:=mx.bnd fun x=>my.bnd fun y=>Zl (sU x y)
end
section
variable {X:Cx}{pins:List (Addr×Obj)}{σ:L2.St}{H:Hp}{s:Shared}
end
section
variable {X:Cx}
end
section
variable {X:Cx}
end
theorem aB (l b:Addr) (n n2:Nat) (sl:Array (Option Value)) {items more:Array Value}(h0:¬(!items.isEmpty&&Builtin.List.listTooLong (items.size+more.size))=true) (h1:items.size+more.size<=sizeLine) :
  PySem.Meets (Builtin.«list.extend» ⟨[.ref l,.ref b],[]⟩) (fun _ R s=>s.heap.get? l=some ⟨.type "list",none,.seq items n,#[]⟩/\s.heap.get? b=some ⟨.type "tuple",none,.seq more n2,sl⟩/\R (.ok (.ret .none)) { s with heap:=s.heap.update l (Obj.mapSeq fun x=>x++more),toks:=s.toks }):=by
 refine .of_wp fun prog w A R st hh=>?_
 have hj:(items++more).size<=sizeLine+1:=by rw [Array.size_append];omega
 have hi:items.size<=sizeLine:=by omega
 cases st;rcases hh with ⟨e1,e2,e3⟩
 have q1:=PySem.AutoSeq1.sub_list_tuple;have q2:=PySem.AutoSeq1.sub_tuple_list;have q3:=PySem.AutoSeq1.sub_list_list;have q4:=PySem.AutoSeq1.sub_tuple_tuple;wp_walk using (wpAny_updateSeq e1 rfl (hz:=hi) (_hz':=hj)),PySem.AutoSeq1.wpAny_loadPart' e1,PySem.AutoSeq1.wpAny_loadPart' e2
 exact ⟨_,rfl,e3⟩
section
variable {X:Cx}
theorem RDs.dropLast {K:PySem.W.Frag}{H:Hp}{ρ:List Addr}:∀ {ds:List D}{vs:List V},RDs K H ρ ds vs->RDs K H ρ ds.dropLast vs.dropLast
 | _,_,.nil=>.nil
 | _,_,.cons _ .nil=>.nil
 | _,_,.cons r (.cons r2 t)=>.cons r (RDs.dropLast (.cons r2 t))
noncomputable def Xj:D->List D->MH->Option (D×MH)
 | .ref n,[],mh=>match mh[n]? with
  | some (.lst ds)=>(match ds[ds.length - 1]? with | some y=>some (y,mh.set n (.lst ds.dropLast)) | none=>none)
  | _=>none
 | _,_,_=>none
theorem lA:MtR X "list.pop" (rDM X.K Xj):=by
 refine Pr qZ ?_;rintro x xs H Q ⟨ρ,mh,dx,ds,d,mh',q,rs,rx,r,co⟩
 match ds,q with
 | [],q =>
  cases r;cases rx with
  | @ref n a hn =>
   simp only [Xj] at q;split at q
   ·rename_i ds em;split at q
    ·rename_i y ey;cases q;obtain ⟨a',ha,us,hu,ru⟩:=rs.at em;rw [hn] at ha;cases ha;obtain ⟨w',hw,rw'⟩:=ru.get ey;refine ⟨a,us,w',rfl,rfl,hu,by rw [← ru.length];exact hw,?_⟩;exact co _ ρ _ (Ev.lst hu) (rs.setL hn hu ru.dropLast) (rw'.mono (Ev.lst hu))
    ·cases q
   ·cases q
  | _=>cases q
 | _::_,q=>cases dx <;> simp [Xj] at q
noncomputable def Gz:D->List D->MH->Option (D×MH)
 | .ref n,[.ref m],mh=>match mh[n]?,mh[m]? with
  | some (.lst xs),some (.lst ys)=>if xs.length+ys.length<=sizeLine then some (.non,mh.set n (.lst (xs++ys))) else none
  | _,_=>none
 | .ref n,[.tup ys],mh=>match mh[n]? with
  | some (.lst xs)=>if xs.length+ys.length<=sizeLine then some (.non,mh.set n (.lst (xs++ys))) else none
  | _=>none
 | _,_,_=>none
theorem MtR.or {id:String}{r r':V->List V->Hp->VK->Prop}(h:MtR X id r) (h':MtR X id r'):MtR X id (fun x xs H Q=>r x xs H Q\/r' x xs H Q):=fun pins s σ H x xs v us Q I rx rs q =>
 q.elim (h pins s σ H x xs v us Q I rx rs) (h' pins s σ H x xs v us Q I rx rs)
theorem Ud:MtR X "list.extend" (fun x vs H Q=>∃ l b xs zs,x=.ref l/\vs=[.ref b]/\H l=some (.lst xs)/\SqT X.K H b zs/\xs.length+zs.length<=sizeLine/\Q .non (upd H l (.lst (xs++zs)))):=by
 rintro pins s σ H x vs v us Q I rx rv ⟨l,b,xs,zs,rfl,rfl,hH,hB,hz,q⟩;cases rx;obtain ⟨u,rfl,ru⟩:=rv.one;cases ru;obtain ⟨z,ia,n,r,hl,e⟩:=I.lstM hH;obtain ⟨ib,r2,⟨⟨oc,od,dt,sl⟩,e2,c2,d2,n2,t2⟩,z2⟩:=I.tupleP hB;cases c2;cases d2;cases t2;have h2:=r2.length;refine call_meets F.slot_list_extend ⟨_,e,rfl⟩ F.entry_list_extend (F.args_list_extend_2 _ _) (aB l b n n2 sl (items:=ia.toArray) (more:=ib.toArray) ?_ ?_) ⟨e,e2,?_⟩
 ·rw [K7 (by rw [List.size_toArray,List.size_toArray];omega),Bool.and_false];exact Bool.false_ne_true
 ·rw [List.size_toArray,List.size_toArray];omega
 ·refine ⟨.non,_,I.lset (its':=ia++ib) hH e (by simp) (r.append r2) ?_,rfl,q⟩;rw [List.length_append];omega
theorem Pu {dx d:D}{ds:List D}{mh mh':MH}(q:Gz dx ds mh=some (d,mh')):∃ n xs ys,dx=.ref n/\mh[n]?=some (.lst xs)/\((∃ m,ds=[.ref m]/\mh[m]?=some (.lst ys))\/ds=[.tup ys])/\xs.length+ys.length<=sizeLine/\d=.non/\mh'=mh.set n (.lst (xs++ys)):=by
 cases dx with
 | ref n =>
  match ds,q with
  | [.ref m],q =>
   have q:(match mh[n]?,mh[m]? with | some (.lst xs),some (.lst ys)=>if xs.length+ys.length<=sizeLine then some (D.non,mh.set n (.lst (xs++ys))) else none | _,_=>none)=some (d,mh'):=q;split at q
   ·rename_i xs ys e1 e2;split at q
    ·rename_i hz;cases q;exact ⟨n,xs,ys,rfl,e1,.inl ⟨m,rfl,e2⟩,hz,rfl,rfl⟩
    ·cases q
   ·cases q
  | [.tup ys],q =>
   have q:(match mh[n]? with | some (.lst xs)=>if xs.length+ys.length<=sizeLine then some (D.non,mh.set n (.lst (xs++ys))) else none | _=>none)=some (d,mh'):=q;split at q
   ·rename_i xs e1;split at q
    ·rename_i hz;cases q;exact ⟨n,xs,ys,rfl,e1,.inr rfl,hz,rfl,rfl⟩
    ·cases q
   ·cases q
  | [],q=>cases q
  | .non::_,q=>cases q
  | .bl _::_,q=>cases q
  | .str _::_,q=>cases q
  | .int _::_,q=>cases q
  | .rol _::_,q=>cases q
  | .obj ..::_,q=>cases q
  | .fn _::_,q=>cases q
  | .lam::_,q=>cases q
  | .clo _ _::_,q=>cases q
  | .tup _::_::_,q=>cases q
  | .ref _::_::_,q=>cases q
 | _=>cases q
theorem Ue:MtR X "list.extend" (rDM X.K Gz):=by
 refine Pr (MtR.or W6 Ud) ?_;rintro x xs H Q ⟨ρ,mh,dx,ds,d,mh',q,rs,rx,r,co⟩;obtain ⟨n,es,fs,rfl,e1,hy,hz,rfl,rfl⟩:=Pu q;cases rx with
 | @ref _ a hn =>
 obtain ⟨a',ha,us,hu,ru⟩:=rs.at e1;rw [hn] at ha;cases ha;rcases hy with ⟨m,rfl,e2⟩|rfl
 ·obtain ⟨v,rfl,rv⟩:=Lf r;cases rv with
  | @ref _ b hb =>
   obtain ⟨b',hb',ws,hw,rw'⟩:=rs.at e2;rw [hb] at hb';cases hb';exact .inl ⟨a,b,us,ws,rfl,rfl,hu,hw,by rw [← ru.length,← rw'.length];exact hz,co _ ρ _ (Ev.lst hu) (rs.setL hn hu (ru.append rw')) .non⟩
 ·obtain ⟨v,rfl,rv⟩:=Lf r;cases rv with
  | @tup _ b zs hb rz=>exact .inr ⟨a,b,us,zs,rfl,rfl,hu,hb,by rw [← ru.length,← rz.length];exact hz,co _ ρ _ (Ev.lst hu) (rs.setL hn hu (ru.append rz)) .non⟩
end
section
variable {X:Cx}{pins:List (Addr×Obj)}{σ:L2.St}{H:Hp}{s:Shared}{fp:List Addr}{h':Heap}
theorem Oe {t':Nat}(I:Inv X pins σ H s) (k:∀ b o,b ∉ fp->s.heap.get? b=some o->h'.get? b=some o) (hf:∀ b∈fp,Ik X pins H b):Inv X pins σ H { s with heap:=h',toks:=t' }:=by
 have nf:∀ b u,H b=some u->b ∉ fp:=fun b u e z=>by rw [(hf b z).1] at e;cases e
 refine I.step (g':=s.gens) (d':=s.drawn) (ch:=fp) (fun b hb=>⟨(hf b hb).2.2.2.1,(hf b hb).2.1,(hf b hb).2.2.2.2.1,(hf b hb).2.2.2.2.2⟩) (fun b o _ _ hc e _=>k b o hc e) (fun b o _ _ hc e _=>⟨o.slots,k b o hc e⟩) (fun _ _ _ _ n=>n)
  (fun b o hc e=>⟨o,k b o hc e⟩) (fun _ _ e=>e) (fun _ _ _ e=>e) (fun b ps e=>⟨#[],by rw [e];simp⟩) (fun m hm=>?_) (fun b u e=>?_) I.bare
 ·obtain ⟨o,es,ep,ho,r⟩:=hm;exact ⟨o,es,ep,k _ o (fun z=>(hf _ z).2.1 rfl) ho,r⟩
 ·refine (I.hok b u e).stay (fun c v hc q=>k c v ?_ q) (fun _ q=>q) fun _ _ q=>q
  rcases hc with z|z
  ·rw [z];exact nf b u e
  ·exact nf c _ z
theorem Ht {t':Nat}{a:Addr}{o:HO}(I:Inv X pins σ H s) (k:∀ b o,b ∉ fp->s.heap.get? b=some o->h'.get? b=some o) (hf:∀ b∈fp,Ik X pins H b) (hp:s.heap.objs.size<=a) (new:Br X.prog X.w (upd H a o) h' a o) :
  Inv X pins σ (upd H a o) { s with heap:=h',toks:=t' }:=by
 have hn:H a=none:=I.hok.fresh hp;have nb:∀ b u,H b=some u->upd H a o b=some u:=fun b u e=>by rw [Ac (Ai e hn)];exact e
 have nf:∀ b u,H b=some u->b ∉ fp:=fun b u e z=>by rw [(hf b z).1] at e;cases e
 refine I.step (g':=s.gens) (d':=s.drawn) (ch:=fp) (fun b hb=>⟨(hf b hb).2.2.2.1,(hf b hb).2.1,(hf b hb).2.2.2.2.1,(hf b hb).2.2.2.2.2⟩) (fun b o _ _ hc e _=>k b o hc e) (fun b o _ _ hc e _=>⟨o.slots,k b o hc e⟩) (fun b o' hc e n=>?_)
  (fun b o hc e=>⟨o,k b o hc e⟩) (fun b xs e=>nb _ _ e) (fun b o u e=>nb _ _ e) (fun b ps e=>⟨#[],by rw [nb _ _ e];simp⟩) (fun m hm=>?_) (fun b u e=>?_) I.bare
 ·rw [Ac (Nat.ne_of_lt (Nat.lt_of_lt_of_le (Heap.lt_size e) hp))];exact n
 ·obtain ⟨o,es,ep,ho,r⟩:=hm;exact ⟨o,es,ep,k _ o (fun z=>(hf _ z).2.1 rfl) ho,r⟩
 ·by_cases hb:b=a
  ·subst hb;rw [Be] at e;cases e;exact new
  ·rw [Ac hb] at e;refine (I.hok b u e).stay (fun c v hc q=>k c v ?_ q) (fun c q=>nb _ _ q) fun c xs q=>nb _ _ q
   rcases hc with z|z
   ·rw [z];exact nf b u e
   ·exact nf c _ z
end
section
variable {prog:Program}{w:World}{A:Around}{E:Value->Shared->Prop}{s:Shared}
theorem Rv {it l:Addr}{i:Nat}{items:Array Value}{x:Value}{Q:Value->Shared->Prop}(hit:s.heap.IsTupleIter it l i) (hl:s.heap.IsTuple l items) (hx:items[i]?=some x)
  (hQ:∀ h',h'.IsTupleIter it l (i+1)->Heap.SameBut it s.heap h'->Q x { s with heap:=h' }):wpAny (model prog w) A (Builtin.SmallTypes.nextOf (.ref it)) Q E s:=by
 obtain ⟨o,ho,hc,hd⟩:=id hit;obtain ⟨ol,hol,_,nl,hdl⟩:=hl;unfold Builtin.SmallTypes.nextOf
 refine wpAny_bind (wpAny_callSpecial?_slot (name:=Str.ofString "__next__") hit.typeIs F.slot_tuple_iterator_next (wpAny_call_entry F.slot_tuple_iterator_next hit.typeIs F.entry_tuple_iterator_next ?_ (F.args_tuple_iterator_next_1 _)));show wpAny _ _ (field (.ref it) 0 >>= _) _ _ s;refine wpAny_bind (wpAny_field ho hd (x:=.ref l) rfl ?_);show wpAny _ _ (if (Value.ref l==Value.none)=true then _ else _) _ _ s;rw [if_neg (show ¬ ((Value.ref l==Value.none)=true) from Bool.false_ne_true)];show wpAny _ _ (field (.ref it) 1 >>= _) _ _ s;refine wpAny_bind (wpAny_field ho hd (x:=.int i 0) rfl ?_);show wpAny _ _ (seqItems? (.ref l) >>= _) _ _ s;refine wpAny_bind (wpAny_seqItems hol hdl ?_);simp only [Int.toNat_natCast,hx];refine wpAny_bind (wpAny_setField ho hd (by simp) (wpAny_pure ⟨x,rfl,wpAny_pure (hQ _ ⟨_,Heap.get?_update_self _ ho (Obj.isFreed_of_fields (Obj.data_mapFields hd _)),(Obj.cls_mapFields ..).trans hc,?_⟩ (Heap.SameBut.update ..))⟩));rw [Obj.data_mapFields hd];simp [rawInt]
theorem Rw {it l:Addr}{i:Nat}{items:Array Value}{Q:Value->Shared->Prop}(hh:A.handled=none) (hit:s.heap.IsTupleIter it l i) (hl:s.heap.IsTuple l items) (hx:items[i]?=none)
  (hE:∀ h' e,Heap.ExtBut it s.heap h'->(∃ o,h'.get? e=some o/\o.cls=.type "StopIteration")->E (.ref e) { s with heap:=h' }):wpAny (model prog w) A (Builtin.SmallTypes.nextOf (.ref it)) Q E s:=by
 obtain ⟨o,ho,hc,hd⟩:=id hit;obtain ⟨ol,hol,_,nl,hdl⟩:=hl;unfold Builtin.SmallTypes.nextOf
 refine wpAny_bind (wpAny_callSpecial?_slot (name:=Str.ofString "__next__") hit.typeIs F.slot_tuple_iterator_next (wpAny_call_entry F.slot_tuple_iterator_next hit.typeIs F.entry_tuple_iterator_next ?_ (F.args_tuple_iterator_next_1 _)));show wpAny _ _ (field (.ref it) 0 >>= _) _ _ s;refine wpAny_bind (wpAny_field ho hd (x:=.ref l) rfl ?_);show wpAny _ _ (if (Value.ref l==Value.none)=true then _ else _) _ _ s;rw [if_neg (show ¬ ((Value.ref l==Value.none)=true) from Bool.false_ne_true)];show wpAny _ _ (field (.ref it) 1 >>= _) _ _ s;refine wpAny_bind (wpAny_field ho hd (x:=.int i 0) rfl ?_);show wpAny _ _ (seqItems? (.ref l) >>= _) _ _ s;refine wpAny_bind (wpAny_seqItems hol hdl ?_);simp only [Int.toNat_natCast,hx]
 refine wpAny_bind (wpAny_rule (wpAny_bind (wpAny_setField ho hd (by simp) ?_)));show wpAny _ _ (newExc (.type "StopIteration") [] >>= _) _ _ _;refine wpAny_bind ?_;simp only [newExc,newTuple];refine wpAny_bind (wpAny_newObj_type ?_ (by size_fits));refine wpAny_bind (m:=firstArgMember _ _) (wpAny_of_eq (a:=Value.none) (by first | rfl | (simp only [firstArgMember];rfl)) ?_);refine wpAny_newObj_type ?_ (by size_fits);simp only [raiseNew];refine wpAny_bind (wpAny_handled ?_);first | rw [show A.in1.handled=none from hh] | rw [hh]
 refine wpAny_bind (wpAny_pure (wpAny_throw (hE _ _ (((Heap.SameBut.update ..).extBut.push _).push _) ⟨_,Heap.get?_push_size _ rfl,rfl⟩)))
theorem Xk (hh:A.handled=none) (it l:Addr) (hne:l≠it) (items:Array Value):Draws prog w A it [it,l] items.size (fun i v=>items[i]?=some v) (fun i h=>h.IsTupleIter it l i/\h.IsTuple l items) where
 live:=fun _ _ st=>let ⟨o,ho,_⟩:=st.1;⟨o,ho⟩
 frame:=fun _ _ _ st hk=>⟨let ⟨o,ho,r⟩:=st.1;⟨o,hk it (by simp) o ho,r⟩,let ⟨o,ho,r⟩:=st.2;⟨o,hk l (by simp) o ho,r⟩⟩
 item:=fun i s Q E hi st hQ=>Rv st.1 st.2 (x:=items[i]) (by simp [hi]) fun h' hit' hs'=>hQ _ h' s.toks (by simp [hi]) ⟨hit',st.2.extBut hs'.extBut hne⟩ hs'
 done:=fun s Q E st hE=>Rw hh st.1 st.2 (by simp) hE
end
theorem k_ne {X:Cx}{pins:List (Addr×Obj)}{σ:L2.St}{H:Hp}{s:Shared}{a b:Addr}{o:Obj}(I:Inv X pins σ H s) (e:X.K.lookup a=some o) (f:Ik X pins H b):a≠b:=fun z=>by
 have hb:=I.ok.mod.kin a o e;rcases f.2.2.2.1 with q|q
 ·exact I.ok.noex a o hb (z ▸ q)
 ·have h1:a < X.base.objs.size:=Heap.lt_size hb;have h2:=I.ok.bsz;have h3:X.s₀.heap.objs.size<=a:=z ▸ q;exact absurd (Nat.lt_of_lt_of_le h1 h2) (Nat.not_lt.mpr h3)
theorem oG {H:Hp}{a b:Addr}{u:HO}(h:Rd H a u) (f:H b=none):a≠b:=fun z=>by
 rcases h with h | ⟨o,h⟩ <;> (rw [z,f] at h;cases h)
structure SeqK where
 sq:PySem.W.Frag->Hp->Addr->List V->Prop
 isIt:Heap->Addr->Addr->Nat->Prop
 isSeq:Heap->Addr->Array Value->Prop
 cls:String
 get:∀ {X:Cx} {pins:List (Addr×Obj)} {σ:L2.St} {H:Hp} {s:Shared} {a:Addr} {xs:List V},Inv X pins σ H s->sq X.K H a xs->∃ its:List Value,Vals xs its/\isSeq s.heap a its.toArray/\xs.length<=sizeLine
 inj:∀ {X:Cx} {pins:List (Addr×Obj)} {σ:L2.St} {H:Hp} {s:Shared} {a:Addr} {xs ys:List V},Inv X pins σ H s->sq X.K H a xs->sq X.K H a ys->xs=ys
 itO:∀ {h:Heap} {it l:Addr} {i:Nat},isIt h it l i->∃ o,h.get? it=some o/\o.cls=.type cls/\∃ vs,o.data=.fields vs
 itK:∀ {h h':Heap} {it l:Addr} {i:Nat},isIt h it l i->(∀ o,h.get? it=some o->h'.get? it=some o)->isIt h' it l i
 seqO:∀ {h:Heap} {l:Addr} {items:Array Value},isSeq h l items->∃ o,h.get? l=some o/\∃ n,o.data=.seq items n
 Px:∀ {h h':Heap} {l:Addr} {items:Array Value},isSeq h l items->(∀ o,h.get? l=some o->h'.get? l=some o)->isSeq h' l items
 draws:∀ {prog:Program} {w:World} {A:Around},A.handled=none->∀ (it l:Addr),l≠it->∀ (items:Array Value),Draws prog w A it [it,l] items.size (fun i v=>items[i]?=some v) (fun i h=>isIt h it l i/\isSeq h l items)
 iter:∀ {prog:Program} {w:World} {A:Around} {E:Value->Shared->Prop} {s:Shared} {l:Addr} {items:Array Value} {Q:Value->Shared->Prop},isSeq s.heap l items ->
  Q (.ref s.heap.objs.size) { s with heap:=s.heap.push { cls:=.type cls,data:=.fields #[.ref l,.int 0 0] } }->wpAny (model prog w) A (pyIter (.ref l)) Q E s
 stop:∀ {prog:Program} {w:World} {A:Around} {E:Value->Shared->Prop} {s:Shared} {it l:Addr} {i:Nat} {items:Array Value} {Q:Value->Shared->Prop},A.handled=none->isIt s.heap it l i->isSeq s.heap l items->items[i]?=none ->
  (∀ h' e,Heap.ExtBut it s.heap h'->(∃ o,h'.get? e=some o/\o.cls=.type "StopIteration")->E (.ref e) { s with heap:=h' })->wpAny (model prog w) A (Builtin.SmallTypes.nextOf (.ref it)) Q E s
 next:∀ {prog:Program} {w:World} {A:Around} {E:Value->Shared->Prop} {s:Shared} {it l:Addr} {i:Nat} {items:Array Value} {x:Value} {Q:Value->Shared->Prop},isIt s.heap it l i->isSeq s.heap l items->items[i]?=some x ->
  (∀ h',isIt h' it l (i+1)->Heap.SameBut it s.heap h'->Q x { s with heap:=h' })->wpAny (model prog w) A (Builtin.SmallTypes.nextOf (.ref it)) Q E s
 ne:∀ {X:Cx} {pins:List (Addr×Obj)} {σ:L2.St} {H:Hp} {s:Shared} {a b:Addr} {xs:List V},Inv X pins σ H s->sq X.K H a xs->Ik X pins H b->a≠b
 new:∀ (h:Heap) (l:Addr),isIt (h.push { cls:=.type cls,data:=.fields #[.ref l,.int 0 0] }) h.objs.size l 0
noncomputable def lB:SeqK where
 sq:=SqL
 isIt:=fun h it l i=>h.IsListIter it l i
 isSeq:=fun h l its=>h.IsList l its
 cls := "list_iterator"
 get:=fun I h=>let ⟨its,r,p,z⟩:=I.list h;⟨its,r,p.isList,z⟩
 inj:=fun I h h'=>I.list_inj h h'
 itO:=fun ⟨o,e,c,d⟩=>⟨o,e,c,_,d⟩
 itK:=fun st k=>st.at k
 seqO:=fun ⟨o,e,_,n,d⟩=>⟨o,e,n,d⟩
 Px:=fun ⟨o,e,r⟩ k=>⟨o,k o e,r⟩
 draws:=fun hh it l hne items=>Draws.list hh it l hne items
 iter:=fun hs q=>wpAny_pyIter_list hs q
 stop:=fun hh a b c d=>wpAny_nextOf_list_end hh a b c d
 next:=fun a b c d=>wpAny_nextOf_list_item a b c d
 ne:=fun I h f=>by
  rcases h with h|⟨o,its,n,hk,_⟩
  ·exact oG h f.1
  ·exact k_ne I hk f
 new:=fun h l=>⟨_,Heap.get?_push_size _ rfl,rfl,rfl⟩
noncomputable def yU:SeqK where
 sq:=SqT
 isIt:=fun h it l i=>h.IsTupleIter it l i
 isSeq:=fun h l its=>h.IsTuple l its
 cls := "tuple_iterator"
 get:=fun I h=>let ⟨its,r,p,z⟩:=I.tuple h;⟨its,r,p,z⟩
 inj:=fun I h h'=>I.tuple_inj h h'
 itO:=fun ⟨o,e,c,d⟩=>⟨o,e,c,_,d⟩
 itK:=fun ⟨o,e,r⟩ k=>⟨o,k o e,r⟩
 seqO:=fun ⟨o,e,_,n,d⟩=>⟨o,e,n,d⟩
 Px:=fun ⟨o,e,r⟩ k=>⟨o,k o e,r⟩
 draws:=fun hh it l hne items=>Xk hh it l hne items
 iter:=fun hs q=>wpAny_pyIter_tuple hs q
 stop:=fun hh a b c d=>Rw hh a b c d
 next:=fun a b c d=>Rv a b c d
 ne:=fun I h f=>by
  rcases h with h|⟨o,its,n,hk,_⟩
  ·exact oG h f.1
  ·exact k_ne I hk f
 new:=fun h l=>⟨_,Heap.get?_push_size _ rfl,rfl,rfl⟩
noncomputable def Ite (k:SeqK) (K:PySem.W.Frag) (a:Addr):It :=
 ⟨fun i H=>∃ xs x,k.sq K H a xs/\xs[i]?=some x,fun i H y H'=>∃ T x,H T=none/\y=.ref T/\(∀ xs,k.sq K H a xs->xs[i]?=some x)/\H'=upd H T (.tup [.int i,x]),fun i H=>∃ xs,k.sq K H a xs/\xs.length<=i⟩
theorem sV {k:SeqK}{h:Heap}{it l:Addr}{i:Nat}{items:Array Value}(a:k.isIt h it l i) (b:k.isSeq h l items):l≠it:=fun z=>by
 obtain ⟨o,e,c,vs,d⟩:=k.itO a;obtain ⟨o',e',n,d'⟩:=k.seqO b;rw [z,e] at e';cases e';rw [d] at d';cases d'
theorem Xl {P:Program}{w:World}{K:PySem.W.Frag}(k:SeqK) {elts:List Expr}{kk:Nat}{tp:Pos}(a e it:Addr) (hne:e≠it):Turn P w K (.Tuple elts kk tp) (Ite k K a) [e,it] e (fun i h=>(∃ old,IsEnum h e it i old)/\k.isIt h it a i) where
 mem:=by simp
 obj:=fun i h st b hb=>by
  have hb:b=e\/b=it:=by simpa using hb
  rcases hb with rfl|rfl
  ·obtain ⟨old,q⟩:=st.1
   exact ⟨_,q,fun v z=>by
    have z':Data.fields _=Data.cell v:=z
    cases z'⟩
  ·obtain ⟨o,q,c,vs,d⟩:=k.itO st.2;exact ⟨o,q,fun v z=>by rw [d] at z;cases z⟩
 keep:=fun i h h' st kp=>⟨let ⟨old,q⟩:=st.1;⟨old,kp e (by simp) _ q⟩,k.itK st.2 fun o q=>kp it (by simp) o q⟩
 item:=by
  intro X hP hw hK hc i pins s σ H E I hf st hg;subst hP hw hK;obtain ⟨xs,x,hq,hx⟩:=hg;obtain ⟨its,rv,p,hz⟩:=k.get I hq;obtain ⟨u,hu,ru⟩:=rv.get hx;obtain ⟨⟨old,he⟩,hit⟩:=st;have hae:a≠e:=fun z=>by
   obtain ⟨o',e',n,d'⟩:=k.seqO p;rw [z,he] at e';cases e';cases d'
  have hai:=sV hit p;have D:=k.draws (prog:=X.prog) (w:=X.w) (A:=X.A.in1) (I.ok.hd hc) it a hai its.toArray;have hi:i < its.toArray.size:=by rw [List.size_toArray];exact (List.getElem?_eq_some_iff.mp hu).1
  refine wpAny_pyNext_enum_itemD D he ⟨hit,p⟩ hi hne (by simp [hne,hae.symm]) fun y h1 tk hy ho st1 hT _ hk=>?_
  have ey:y=u:=by
   have hy':its[i]?=some y:=by simpa using hy
   rw [hu] at hy';cases hy';rfl
  subst ey;refine ⟨_,rfl,wpAny_letOwnedTupleGo_enum ho fun h2 he2 hs2=>?_⟩;have elt:e < s.heap.objs.size:=Heap.lt_size he;have ilt:it < s.heap.objs.size:=by
   obtain ⟨o,q,_⟩:=k.itO hit;exact Heap.lt_size q
  have hT2:Kf h2 s.heap.objs.size #[.int i tk,y]:=⟨_,hs2.extBut _ _ (Nat.ne_of_gt elt) hT,rfl,rfl,_,rfl⟩;have nb:∀ b,b ∉ [e,it]->b≠e/\b≠it:=fun b hb=>by simpa using hb
  have I2:Inv X pins σ (upd H s.heap.objs.size (.tup [.int i,x])) { s with heap:=h2,toks:=tk+1 }:=Ht (fp:=[e,it]) I (fun b o hb q=>hs2.extBut b o (nb b hb).1 (hk b o (nb b hb).1 (nb b hb).2 q)) hf (Nat.le_refl _) ⟨by simp [sizeLine_eq],[.int i tk,y],.cons ⟨tk,rfl⟩ (.cons ru .nil),hT2⟩;refine ⟨.ref s.heap.objs.size,_,I2,rfl,⟨s.heap.objs.size,x,I.hok.fresh (Nat.le_refl _),rfl,fun ys hy=>by rw [k.inj I hy hq];exact hx,rfl⟩,⟨⟨_,by simpa using he2⟩,k.itK st1.1 fun o q=>hs2.extBut _ _ hne.symm q⟩,fun b hb=>?_⟩;rw [Ac ?_]
  ·exact (hf b hb).1
  ·intro z;have hb:b=e\/b=it:=by simpa using hb
   rcases hb with q|q
   ·rw [q] at z;exact absurd z (Nat.ne_of_lt elt)
   ·rw [q] at z;exact absurd z (Nat.ne_of_lt ilt)
 done:=by
  intro X hP hw hK hc i pins s σ H E I hf st hg;subst hP hw hK;obtain ⟨xs,hq,hx⟩:=hg;obtain ⟨its,rv,p,hz⟩:=k.get I hq;obtain ⟨⟨old,he⟩,hit⟩:=st;have hl:=rv.length
  have hT:s.TypeIs (.ref e) "enumerate":=⟨_,he,rfl⟩
  unfold pyNext
  refine wpAny_bind (wpAny_attempt (wpAny_callSpecial?_slot (name:=Str.ofString "__next__") hT F.slot_enumerate_next (wpAny_call_entry F.slot_enumerate_next hT F.entry_enumerate_next ?_ (F.args_enumerate_next_1 _))));show wpAny _ _ (field (.ref e) 2 >>= _) _ _ _;refine wpAny_bind (wpAny_field he rfl (x:=.ref it) rfl ?_);refine wpAny_bind (k.stop (A:=X.A.in1) (I.ok.hd hc) hit p (by simp;omega) fun h' x he' hx'=>?_);obtain ⟨o,ho,hcl⟩:=hx'
  refine wpAny_bind (wpAny_isInstance (T := "StopIteration") (b:=true) ⟨o,ho,hcl⟩ isSubtype_stop (wpAny_pure ⟨rfl,?_⟩));exact Oe (t':=s.toks) (fp:=[e,it]) I (fun b o hb q=>he' b o (fun z=>hb (by simp [z])) q) hf
 self:=fun _ i s Q E st h=>by
  obtain ⟨⟨old,he⟩,_⟩:=st;exact wpAny_pyIter_enum he h
set_option maxHeartbeats 8000000 in
theorem Rx (l:Addr) (items:Array Value) (n:Nat) (dct:Option Addr) (sl:Array (Option Value)) :
    Meets (Builtin.«enumerate.__new__» ⟨[.type "enumerate",.ref l],[]⟩) (fun _ R s=>s.heap.get? l=some { cls:=.type "tuple",dict:=dct,data:=.seq items n,slots:=sl } /\
      R (.ok (.ret (.ref (s.heap.push { cls:=.type "tuple_iterator",data:=.fields #[.ref l,.int 0 0] }).objs.size)))
        { s with heap:=(s.heap.push { cls:=.type "tuple_iterator",data:=.fields #[.ref l,.int 0 0] }).push { cls:=.type "enumerate",data:=.fields #[.none,.bool false,.ref s.heap.objs.size,rawInt 0,.none,.none] } }) :=
  .of_wp fun prog w A R s h=>by
    obtain ⟨hp,g,d,tk,os⟩:=s;obtain ⟨hl,h⟩:=h;have hsub:=sub_enumerate;have hL:Heap.IsTuple (Shared.heap ⟨hp,g,d,tk,os⟩) l items:=⟨_,hl,rfl,n,rfl⟩;wp_walk using AutoSeq1.wpAny_loadPart' hl
    refine wpAny_stack_any fun st=>wpAny_pure ?_;split
    · rename_i c _ _ _ _ _
      cases (c==Value.type "enumerate") <;> (wp_walk using AutoSeq1.wpAny_loadPart' hl,wpAny_pyIter_tuple hL;exact ⟨_,rfl,h⟩)
    · (wp_walk using AutoSeq1.wpAny_loadPart' hl,wpAny_pyIter_tuple hL;exact ⟨_,rfl,h⟩)
section
variable {prog:Program}{w:World}{A:Around}{E:Value->Shared->Prop}{s:Shared}
theorem Xm {l:Addr}{items:Array Value}{Q:Value->Shared->Prop}(hL:s.heap.IsTuple l items)
  (h:∀ h',IsEnum h' (s.heap.objs.size+1) s.heap.objs.size 0 .none->h'.IsTupleIter s.heap.objs.size l 0->h'.objs.size=s.heap.objs.size+2->(∀ b o,s.heap.get? b=some o->h'.get? b=some o)->Q (.ref (s.heap.objs.size+1)) { s with heap:=h' }) :
  wpAny (model prog w) A (call (.type "enumerate") [.ref l]) Q E s:=by
 obtain ⟨⟨c,dct,dt,sl⟩,hl,hc,n,hd⟩:=hL
 replace hc:c=.type "tuple":=hc
 replace hd:dt=.seq items n:=hd
 subst hc hd;refine callType_new F.called_enumerate (by decide) (F.typeCall_enumerate_1 _) (F.newCall_enumerate_1 _) (fun obj=>F.args_object_init_2 obj _) F.entry_enumerate_new (Rx l items n dct sl) ⟨hl,?_⟩
 have hz:(s.heap.push { cls:=.type "tuple_iterator",data:=.fields #[.ref l,.int 0 0] }).objs.size=s.heap.objs.size+1:=Heap.size_push ..;show _/\_;rw [hz]
 have he:IsEnum ((s.heap.push { cls:=.type "tuple_iterator",data:=.fields #[.ref l,.int 0 0] }).push { cls:=.type "enumerate",data:=.fields #[.none,.bool false,.ref s.heap.objs.size,rawInt 0,.none,.none] }) (s.heap.objs.size+1) s.heap.objs.size 0 .none:=by
  have:=Heap.get?_push_size (s.heap.push { cls:=.type "tuple_iterator",data:=.fields #[.ref l,.int 0 0] }) (o:={ cls:=.type "enumerate",data:=.fields #[.none,.bool false,.ref s.heap.objs.size,rawInt 0,.none,.none] }) rfl;rw [hz] at this;exact this
 refine ⟨⟨_,he,rfl⟩,h _ he ⟨_,Heap.get?_push_of_some _ (Heap.get?_push_size _ rfl),rfl,rfl⟩ (by rw [Heap.size_push,hz]) fun b o x=>Heap.get?_push_of_some _ (Heap.get?_push_of_some _ x)⟩
end
structure SR (k:SeqK) (K:PySem.W.Frag) (H0:Hp) (ρ0:List Addr) (src:Src) (a:Addr):Prop where
 rd:∀ H ρ mh,Ev K H0 ρ0 H ρ->RS K H ρ mh->src.ok mh=true->∃ xs,k.sq K H a xs/\RDs K H ρ (src.items mh) xs
 ok:∀ (mh:MH) (i:Nat) (d:D),(src.items mh)[i]?=some d->src.ok mh=true
theorem SR.tup {K:PySem.W.Frag}{H0:Hp}{ρ0:List Addr}{ds:List D}{a:Addr}{xs:List V}(s:SqT K H0 a xs) (r:RDs K H0 ρ0 ds xs):SR yU K H0 ρ0 (.seq ds) a :=
 ⟨fun H ρ mh e rs _=>⟨xs,e.tup _ _ s,r.mono e⟩,fun _ _ _ _=>rfl⟩
theorem SR.rol {K:PySem.W.Frag}{H0:Hp}{ρ0:List Addr}{ds:List D}{a:Addr}{xs:List V}(s:Gi K H0 a xs) (r:RDs K H0 ρ0 ds xs):SR lB K H0 ρ0 (.seq ds) a :=
 ⟨fun H ρ mh e rs _=>⟨xs,(e.perm _ _ s).sq,r.mono e⟩,fun _ _ _ _=>rfl⟩
theorem SR.lst {K:PySem.W.Frag}{H0:Hp}{ρ0:List Addr}{n:Nat}{a:Addr}(h:ρ0[n]?=some a):SR lB K H0 ρ0 (.lref n) a:=by
 refine ⟨fun H ρ mh e rs ok=>?_,fun mh i d q=>?_⟩
 ·have ok:(match mh[n]? with | some (.lst _)=>true | _=>false)=true:=ok;obtain ⟨o,eo⟩:∃ o,mh[n]?=some (.lst o):=by
   split at ok
   ·exact ⟨_,‹_›⟩
   ·cases ok
  obtain ⟨a',ha,ro⟩:=rs.at eo;rw [e.at h] at ha;cases ha;obtain ⟨xs,sq,r⟩:=ro.read;refine ⟨xs,sq,?_⟩;show RDs K H ρ (match mh[n]? with | some (.lst o)=>o | _=>[]) xs;rw [eo];exact r
 ·have q:(match mh[n]? with | some (.lst o)=>o | _=>[])[i]?=some d:=q;show (match mh[n]? with | some (.lst _)=>true | _=>false)=true;split at q
  ·rfl
  ·simp at q
theorem G3:∀ (l:List D) (j i:Nat),(Ez j l)[i]?=(l[i]?).map fun d=>D.tup [.int ((j+i:Nat):Int),d]
 | [],_,_=>by simp [Ez]
 | d::r,j,0=>by simp [Ez]
 | d::r,j,i+1=>by
  show (Ez (j+1) r)[i]?=_;rw [G3 r (j+1) i,List.getElem?_cons_succ];have e:j+1+i=j+(i+1):=by omega
  rw [e]
theorem G4:∀ (l:List D) (j:Nat),(Ez j l).length=l.length
 | [],_=>rfl
 | _::r,j=>by show (Ez (j+1) r).length+1=r.length+1;rw [G4 r]
theorem JR.enum {k:SeqK}{K:PySem.W.Frag}{H0:Hp}{ρ0:List Addr}{src:Src}{a:Addr}(S:SR k K H0 ρ0 src a):JR K H0 ρ0 (.enum src) (Ite k K a) where
 go:=fun H ρ mh i d e rs q=>by
  have q:(Ez 0 (src.items mh))[i]?=some d:=q;rw [G3] at q;cases e1:(src.items mh)[i]? with
  | none=>rw [e1] at q;cases q
  | some d' =>
   rw [e1] at q;cases q;obtain ⟨xs,sq,r⟩:=S.rd H ρ mh e rs (S.ok mh i d' e1);obtain ⟨v,ev,rv⟩:=r.get e1;refine ⟨⟨xs,v,sq,ev⟩,?_⟩;rintro x H' ⟨T,x',hT,h1,h2,h3⟩;subst h1;subst h3;have:=h2 xs sq;rw [ev] at this;cases this;refine ⟨Ev.new hT,rs.new hT,.tup (.inl (.inl Be)) (.cons ?_ (.cons (rv.mono (Ev.new hT)) .nil))⟩;rw [Nat.zero_add];exact .int _
 stop:=fun H ρ mh i e rs q=>by
  have q:(src.ok mh&&decide ((Ez 0 (src.items mh)).length<=i))=true:=q;rw [Bool.and_eq_true,G4] at q;obtain ⟨xs,sq,r⟩:=S.rd H ρ mh e rs q.1;exact ⟨xs,sq,by rw [← r.length];exact of_decide_eq_true q.2⟩
noncomputable def Hu (ma:DM D):DM Src:=ma.bnd fun x=>fun _ mh=>match srcOf x mh with | some s=>some (.enum s,mh) | none=>none
section
variable {X:Cx}
theorem Xn:bootBuiltins "enumerate"=some (.type "enumerate"):=by decide +kernel
theorem Li (k:SeqK) {pins:List (Addr×Obj)}{σ:L2.St}{H:Hp}{s:Shared}{R:It->Hp->Prop}{E:Value->Shared->Prop}{elts:List Expr}{kk:Nat}{tp:Pos}{a:Addr}{xs:List V}(I:Inv X pins σ H s) (hq:k.sq X.K H a xs) (hR:R (Ite k X.K a) H)
  (hnew:∀ {items:Array Value} {Q:Value->Shared->Prop},k.isSeq s.heap a items->(∀ h',IsEnum h' (s.heap.objs.size+1) s.heap.objs.size 0 .none->k.isIt h' s.heap.objs.size a 0->h'.objs.size=s.heap.objs.size+2->(∀ b o,s.heap.get? b=some o->h'.get? b=some o)->Q (.ref (s.heap.objs.size+1)) { s with heap:=h' }) ->
   wpAny (model X.prog X.w) X.A (call (.type "enumerate") [.ref a]) Q E s) :
  wpAny (model X.prog X.w) X.A (call (.type "enumerate") [.ref a]) (fun v s1=>wpAny (model X.prog X.w) X.A (pyIter v) (PIE X pins σ (.Tuple elts kk tp) R) E s1) E s:=by
 obtain ⟨its,rv,p,hz⟩:=k.get I hq;refine hnew p fun h' he hit hsz hk=>wpAny_pyIter_enum he ?_
 have I1:Inv X pins σ H { s with heap:=h' }:=I.kept (t':=s.toks) hk;refine ⟨s.heap.objs.size+1,[s.heap.objs.size+1,s.heap.objs.size],_,Ite k X.K a,H,rfl,I1,Xl k a _ _ (Nat.succ_ne_self _),⟨⟨_,he⟩,hit⟩,fun b hb=>?_,hR⟩;have hb:b=s.heap.objs.size+1\/b=s.heap.objs.size:=by simpa using hb
 rcases hb with rfl|rfl
 ·exact I.fpOk (Nat.le_succ _) (I.hok.fresh (Nat.le_succ _))
 ·exact I.fpOk (Nat.le_refl _) (I.hok.fresh (Nat.le_refl _))
theorem lC {a:Expr}{ma:DM D}{elts:List Expr}{kk:Nat}{tp p pos:Pos}(hc:X.calm=true) (hg:Gl X "enumerate") (hm:X.mg "enumerate"=none) (ha:DE X a ma) (hs:starEach [a] X.env=(false,eval a X.env)::starEach [] X.env) :
  DI X (.Tuple elts kk tp) (.Call (.Name "enumerate" p) [a] [] pos) (Hu ma):=fun loc mh=>by
 cases ea:ma loc mh with
 | none =>
  have:Hu ma loc mh=none:=by unfold Hu DM.bnd;rw [ea]
  rw [this];exact Cq
 | some pr =>
  obtain ⟨x,m1⟩:=pr;have eq:Hu ma loc mh=(match srcOf x m1 with | some s=>some (.enum s,m1) | none=>none):=by unfold Hu DM.bnd;rw [ea]
  rw [eq];rintro pins s σ H R I ⟨ρ,src,mh',q,rl,rs,co⟩;refine Call_ (K4 I hg hm Xn (PyProof.Rows.callWith_type1 (thn (Vi (ha loc mh) Y0 hs pos pins s σ H (fun vs H1=>∃ v ρ1,vs=[v]/\Ev X.K H ρ H1 ρ1/\RS X.K H1 ρ1 m1/\RD X.K H1 ρ1 x v) I ⟨ρ,x,m1,ea,rl,rs,fun H1 ρ1 v e1 rs1 r1=>⟨v,ρ1,rfl,e1,rs1,r1⟩⟩) ?_) hs rfl));rintro us s1 ⟨vs,H1,I1,r1,q1⟩;obtain ⟨v,ρ1,rfl,e1,rs1,rx⟩:=q1;obtain ⟨u,rfl,ru⟩:=vals1 r1;cases x with
  | tup ds =>
   cases q;cases rx with
   | tup sq r =>
    cases ru;exact Li yU I1 sq (co H1 ρ1 _ e1 rs1 (JR.enum (SR.tup sq r))) fun hL h=>Xm hL h
  | ref n =>
   cases eo:m1[n]? with
   | none=>simp only [srcOf,eo] at q;cases q
   | some ob =>
    cases ob with
    | dct kvs=>simp only [srcOf,eo] at q;cases q
    | dtk kvs=>simp only [srcOf,eo] at q;cases q
    | plc=>simp only [srcOf,eo] at q;cases q
    | plq=>simp only [srcOf,eo] at q;cases q
    | fzd=>simp only [srcOf,eo] at q;cases q
    | lst o =>
    simp only [srcOf,eo] at q;cases q;cases rx with
    | @ref _ a' h =>
     cases ru;obtain ⟨a2,ha2,ro⟩:=rs1.at eo;rw [h] at ha2;cases ha2;obtain ⟨xs,sq,r⟩:=ro.read;exact Li lB I1 sq (co H1 ρ1 _ e1 rs1 (JR.enum (SR.lst h))) fun hL h=>call_enumerate_list hL h
  | rol ds =>
   cases q;cases rx with
   | rol sq r =>
    cases ru;exact Li lB I1 sq.sq (co H1 ρ1 _ e1 rs1 (JR.enum (SR.rol sq r))) fun hL h=>call_enumerate_list hL h
  | non=>cases q
  | bl b=>cases q
  | int i=>cases q
  | str z=>cases q
  | obj c ks ds=>cases q
  | fn x=>cases q
  | lam=>cases q
  | clo=>cases q
end
section
variable {X:Cx}
noncomputable def aC (x:D) (mh:MH):Option (D×MH):=match x with
 | .int j=>if -(2 ^ 62)<=j/\j<=1000000 then some (.ref mh.length,mh++[.lst (Cd 0 j.toNat)]) else none
 | _=>none
noncomputable def lE (x:D) (mh:MH):Option (D×MH):=match x with
 | .int j=>if -(2 ^ 62)<=j/\j<=1000000 then some (.tup (Cd 0 j.toNat),mh) else none
 | _=>none
variable {a:Expr}{ma:DM D}{p p2 pos pos2:Pos}
end
end DL
namespace DL
open PySem PySem.Spec PyProof.Rows L2 PySem.W
noncomputable def sortI (ns:List Int):List Int:=ns.mergeSort fun a b=>decide (a<=b)
theorem sortI_perm (ns:List Int):(sortI ns).Perm ns:=List.mergeSort_perm _ _
theorem aD (ns:List Int):(sortI ns).Pairwise (·<=·):=by
 have h:=List.pairwise_mergeSort (le:=fun a b:Int=>decide (a<=b)) (fun a b c h1 h2=>by simp at *;omega) (fun a b=>by simp;omega) ns;exact h.imp fun h=>by simpa using h
theorem aF {ns l:List Int}(p:l.Perm ns) (h:l.Pairwise (·<=·)):l=sortI ns:=Z7 (p.trans (sortI_perm ns).symm) h (aD ns)
noncomputable def Ed:List Int->List Int->Bool
 | [],[]=>false
 | [],_::_=>true
 | _::_,[]=>false
 | x::xs,y::ys=>if (x==y)=true then Ed xs ys else decide (x < y)
section
variable {prog:Program}{w:World}{A:Around}{E:Value->Shared->Prop}{κ:SortKind}{it:Array Keyed}{s:Shared}
end
theorem Jr:∀ {ns:List Int}{us:List Value},Vals (ns.map V.int) us->IntsAre us ns
 | [],_,.nil=>.nil
 | _::_,_,.cons ⟨t,e⟩ h=>by subst e;exact .cons _ _ (Jr h)
noncomputable def TI (h:Heap) (v:Value) (ns:List Int):Prop:=∃ (a:Addr) (o:Obj) (its:List Value) (n:Nat),v=.ref a/\h.get? a=some o/\o.cls=.type "tuple"/\o.data=.seq its.toArray n/\IntsAre its ns
section
variable {prog:Program}{w:World}{A:Around}{E:Value->Shared->Prop}{s:Shared}
theorem Ry {fin:Bool}{Q:Bool->Shared->Prop}:∀ {xs ys:List Value}{ns ms:List Int},IntsAre xs ns->IntsAre ys ms->∀ i,fin=decide (xs.length < ys.length)->Q (Ed ns ms) s->KatLex prog w A true fin Q (xs.zip ys) i s
 | _,_,_,_,.nil,.nil,i,e,h=>by subst e;exact h
 | _,_,_,_,.nil,.cons m u r,i,e,h=>by subst e;exact kat_nil (by simpa [Ed] using h)
 | _,_,_,_,.cons n t r,.nil,i,e,h=>by subst e;exact kat_nil (by simpa [Ed] using h)
 | _,_,_,_,.cons (vs:=vs) n t r,.cons (vs:=us) m u q,i,e,h=>by
  have h:Q (if (n==m)=true then Ed _ _ else decide (n < m)) s:=h;refine kat_cons (wpAny_eqBool_int (kat_go (fun e1=>kat_yes ?_) fun e1=>kat_no ?_))
  ·rw [if_pos e1] at h;exact Ry r q (i+1) (by rw [e];simp) h
  ·rw [if_neg (by rw [e1];simp)] at h;cases hb:(true&&i==0) with
   | true=>exact oneLt_int h
   | false=>exact kat_one _ _ (lt_int h)
theorem yV {v u:Value}{ns ms:List Int}{Q:Bool->Shared->Prop}(h1:TI s.heap v ns) (h2:TI s.heap u ms) (h:Q (Ed ns ms) s):wpAny (model prog w) A (keyLt' (tuples' true) v u) Q E s:=by
 obtain ⟨a,o,its,n,rfl,e1,_,e3,e4⟩:=h1;obtain ⟨a',o',its',n',rfl,e1',_,e3',e4'⟩:=h2;exact kat_lt e1 e3 e1' e3' (by simpa using Ry e4 e4' 0 rfl h)
end
theorem Lj {K:PySem.W.Frag}{H:Hp}{ρ:List Addr}:∀ (ns:List Int),RDs K H ρ (ns.map D.int) (ns.map V.int)
 | []=>.nil
 | _::r=>.cons (.int _) (Lj r)
section
variable {X:Cx}
end
noncomputable abbrev TX:=Str×List Int
noncomputable def Ef (a b:TX):Bool:=if a.1=b.1 then Ed a.2 b.2 else decide (a.1.cps.toList < b.1.cps.toList)
theorem Lk:∀ {a b:List Int},a≠b->Ed b a=!Ed a b
 | [],[],h=>absurd rfl h
 | [],_::_,_=>rfl
 | _::_,[],_=>rfl
 | x::xs,y::ys,h=>by
  show (if (y==x)=true then Ed ys xs else decide (y < x))=!(if (x==y)=true then Ed xs ys else decide (x < y))
  by_cases e:x=y
  ·subst e;rw [if_pos (by simp),if_pos (by simp)];exact Lk fun q=>h (by rw [q])
  ·rw [if_neg (by simpa using fun q=>e q.symm),if_neg (by simpa using e)]
   by_cases l:x < y
   ·rw [decide_eq_true l,decide_eq_false (by omega)];rfl
   ·rw [decide_eq_false l,decide_eq_true (by omega)];rfl
theorem H9:∀ {a b c:List Int},Ed a b=true->Ed b c=true->Ed a c=true
 | [],[],_,h,_=>by cases h
 | [],_::_,[],_,h=>by cases h
 | [],_::_,_::_,_,_=>rfl
 | _::_,[],_,h,_=>by cases h
 | _::_,_::_,[],_,h=>by cases h
 | x::xs,y::ys,z::zs,h1,h2=>by
  have g1:(if (x==y)=true then Ed xs ys else decide (x < y))=true:=h1;have g2:(if (y==z)=true then Ed ys zs else decide (y < z))=true:=h2;show (if (x==z)=true then Ed xs zs else decide (x < z))=true
  by_cases e1:x=y
  ·subst e1;rw [if_pos (by simp)] at g1
   by_cases e2:x=z
   ·subst e2;rw [if_pos (by simp)] at g2;rw [if_pos (by simp)];exact H9 g1 g2
   ·rw [if_neg (by simpa using e2)] at g2;rw [if_neg (by simpa using e2)];exact g2
  ·rw [if_neg (by simpa using e1)] at g1;have l1:=of_decide_eq_true g1
   by_cases e2:y=z
   ·subst e2;rw [if_neg (by simpa using e1)];exact g1
   ·rw [if_neg (by simpa using e2)] at g2;have l2:=of_decide_eq_true g2;rw [if_neg (by simp;omega)];exact decide_eq_true (by omega)
theorem lF {a b:Str}(h:a.cps.toList=b.cps.toList):a=b:=by
 cases a;cases b;congr;exact Array.toList_inj.mp h
theorem Fe {a b:TX}(h:a≠b):Ef b a=!Ef a b:=by
 unfold Ef
 by_cases e:a.1=b.1
 ·rw [if_pos e,if_pos e.symm];exact Lk fun q=>h (Prod.ext e q)
 ·rw [if_neg e,if_neg fun q=>e q.symm]
  by_cases l:a.1.cps.toList < b.1.cps.toList
  ·rw [decide_eq_true l,decide_eq_false (List.lt_asymm l)];rfl
  ·rw [decide_eq_false l,decide_eq_true]
   ·rfl
   ·refine Classical.byContradiction fun q=>e (lF ?_)
    exact List.le_antisymm (by simpa using q) (by simpa using l)
theorem Ug {a b c:TX}(h1:Ef a b=true) (h2:Ef b c=true):Ef a c=true:=by
 unfold Ef at *;split at h1
 ·rename_i e1;rw [e1];split at h2
  ·rename_i e2;rw [if_pos e2];exact H9 h1 h2
  ·rename_i e2;rw [if_neg e2];exact h2
 ·rename_i e1;have l1:=of_decide_eq_true h1;split at h2
  ·rename_i e2;rw [← e2,if_neg e1];exact h1
  ·have l2:=of_decide_eq_true h2;have l3:=List.lt_trans l1 l2;rw [if_neg (fun q=>List.lt_irrefl _ (show c.1.cps.toList < c.1.cps.toList by rw [q] at l3;exact l3))];exact decide_eq_true l3
noncomputable def Av {α:Type}(n:Nat) (lt:Nat->Nat->Bool):KasT α->Option α
 | .ret a=>some a
 | .ask i j k=>if i < n/\j < n/\i≠j then Av n lt (k (lt i j)) else none
theorem Rz {α:Type}{n:Nat}{lt:Nat->Nat->Bool}{cmp:Nat->Nat->(Bool->Shared->Prop)->Shared->Prop}{Q:α->Shared->Prop}{s:Shared}{a:α}
  (h:∀ i j C,i < n->j < n->i≠j->C (lt i j) s->cmp i j C s) (q:Q a s):∀ t:KasT α,Av n lt t=some a->t.kasWp cmp Q s
 | .ret b,e=>by cases e;exact q
 | .ask i j k,e=>by
  have e:(if i < n/\j < n/\i≠j then Av n lt (k (lt i j)) else none)=some a:=e;split at e
  ·rename_i c;exact h i j _ c.1 c.2.1 c.2.2 (Rz h q _ e)
  ·cases e
theorem aG {α:Type} [DecidableEq α]:∀ {l l':List α},l.Nodup->(∀ x∈l,x∈l')->l'.length<=l.length->l.Perm l'
 | [],l',_,_,h=>by
  have:l'=[]:=List.length_eq_zero_iff.mp (Nat.le_zero.mp h);rw [this]
 | a::r,l',nd,sub,h=>by
  obtain ⟨na,nr⟩:=List.nodup_cons.mp nd;have ha:=sub a (.head _);refine .trans (.cons a ?_) (List.perm_cons_erase ha).symm;refine aG nr (fun x hx=>(List.mem_erase_of_ne (fun e=>na (by rw [← e];exact hx))).mpr (sub x (.tail _ hx))) ?_;have:=List.length_erase_of_mem ha;simp at h;omega
noncomputable def Lp (ks:List TX):List TX:=ks.mergeSort fun a b=>!Ef b a
theorem Ia (ks:List TX):(Lp ks).Perm ks:=List.mergeSort_perm _ _
theorem R0 (a:TX):Ef a a=false:=by
 unfold Ef;rw [if_pos rfl];have:∀ l:List Int,Ed l l=false:=fun l=>by
  induction l with
  | nil=>rfl
  | cons x r ih=>show (if (x==x)=true then Ed r r else decide (x < x))=false;rw [if_pos (by simp),ih]
 exact this _
theorem Uh {ks:List TX}(nd:ks.Nodup):(Lp ks).Pairwise fun a b=>Ef a b=true:=by
 have nd2:(Lp ks).Nodup:=(Ia ks).nodup_iff.mpr nd;have h:=List.pairwise_mergeSort (le:=fun a b:TX=>!Ef b a) (fun a b c h1 h2=>?_) (fun a b=>?_) ks
 ·refine List.Pairwise.imp_of_mem (R:=fun a b=>a≠b/\(!Ef b a)=true) ?_ (List.pairwise_and_iff.mpr ⟨nd2,h⟩);intro a b _ _ q;rw [← Bool.not_not (Ef a b),← Fe q.1];exact q.2
 ·by_cases e1:a=b
  ·subst e1;exact h2
  by_cases e2:b=c
  ·subst e2;exact h1
  by_cases e3:a=c
  ·subst e3;simp [R0]
  have q1:Ef a b=true:=by rw [← Bool.not_not (Ef a b),← Fe e1];exact h1
  have q2:Ef b c=true:=by rw [← Bool.not_not (Ef b c),← Fe e2];exact h2
  show (!Ef c a)=true;rw [Fe e3,Bool.not_not];exact Ug q1 q2
 ·by_cases e:a=b
  ·subst e;simp [R0]
  ·rw [Fe e,Bool.not_not];cases Ef a b <;> rfl
theorem aH {ks l:List TX}(nd:ks.Nodup) (p:l.Perm ks) (h:l.Pairwise fun a b=>Ef a b=true):l=Lp ks :=
 (p.trans (Ia ks).symm).eq_of_pairwise (le:=fun a b=>Ef a b=true) (fun a b _ _ x y=>by
  by_cases e:a=b
  ·exact e
  ·rw [Fe e,x] at y;cases y) h (Uh nd)
theorem Dc {α β:Type}{n:Nat}{lt:Nat->Nat->Bool}{f:α->KasT β}{a:α}:∀ t:KasT α,Av n lt t=some a->Av n lt (t.bind f)=Av n lt (f a)
 | .ret b,e=>by cases e;rfl
 | .ask i j k,e=>by
  have e:(if i < n/\j < n/\i≠j then Av n lt (k (lt i j)) else none)=some a:=e;show (if i < n/\j < n/\i≠j then Av n lt ((k (lt i j)).bind f) else none)=_;split at e
  ·rename_i c;rw [if_pos c];exact Dc _ e
  ·cases e
theorem Ff {α:Type}{n i j:Nat}{lt:Nat->Nat->Bool}{k:Bool->KasT α}(hi:i < n) (hj:j < n) (ne:i≠j):Av n lt (.ask i j k)=Av n lt (k (lt i j)):=by
 show (if i < n/\j < n/\i≠j then Av n lt (k (lt i j)) else none)=_;rw [if_pos ⟨hi,hj,ne⟩]
section
variable {n:Nat}{lt:Nat->Nat->Bool}
structure Tot (n:Nat) (lt:Nat->Nat->Bool):Prop where
 tri:∀ i j,i < n->j < n->i≠j->lt j i=!lt i j
 tr:∀ i j k,i < n->j < n->k < n->lt i j=true->lt j k=true->lt i k=true
structure Gd (n:Nat) (p:Array Nat):Prop where
 sz:p.size=n
 pm:p.toList.Perm (List.range n)
theorem Gd.bel {p:Array Nat}(g:Gd n p) {i:Nat}(hi:i < n):p.getD i 0 < n:=by
 have h:i < p.toList.length:=by rw [Array.length_toList,g.sz];exact hi
 have:p.getD i 0=p.toList[i]:=by simp [Array.getD,g.sz,hi]
 rw [this];exact List.mem_range.mp (g.pm.mem_iff.mp (List.getElem_mem h))
theorem Gd.ne {p:Array Nat}(g:Gd n p) {i j:Nat}(hi:i < n) (hj:j < n) (ne:i≠j):p.getD i 0≠p.getD j 0:=by
 have h1:i < p.toList.length:=by rw [Array.length_toList,g.sz];exact hi
 have h2:j < p.toList.length:=by rw [Array.length_toList,g.sz];exact hj
 have e1:p.getD i 0=p.toList[i]:=by simp [Array.getD,g.sz,hi]
 have e2:p.getD j 0=p.toList[j]:=by simp [Array.getD,g.sz,hj]
 rw [e1,e2];intro e;have nd:p.toList.Nodup:=g.pm.nodup_iff.mpr List.nodup_range;exact ne ((List.getElem_inj nd).mp e)
noncomputable def Up (lt:Nat->Nat->Bool) (p:Array Nat) (m:Nat):Prop:=∀ i j,i < j->j < m->lt (p.getD i 0) (p.getD j 0)=true
noncomputable def Dn (lt:Nat->Nat->Bool) (p:Array Nat) (m:Nat):Prop:=∀ i j,i < j->j < m->lt (p.getD j 0) (p.getD i 0)=true
theorem Ui (T:Tot n lt) {p:Array Nat}(g:Gd n p):∀ (f k:Nat),1<=k->k+f<=n->Up lt p k->∃ m,Av n lt (kas_asc p f k)=some m/\k<=m/\m<=k+f/\Up lt p m/\(m < k+f->lt (p.getD m 0) (p.getD (m - 1) 0)=true)
 | 0,k,h1,h2,u=>⟨k,rfl,Nat.le_refl _,Nat.le_refl _,u,fun h=>absurd h (Nat.lt_irrefl _)⟩
 | f+1,k,h1,h2,u=>by
  have ne:=g.ne (show k < n by omega) (show k - 1 < n by omega) (by omega);have e:Av n lt (kas_asc p (f+1) k)=Av n lt (if lt (p.getD k 0) (p.getD (k - 1) 0)=true then .ret k else kas_asc p f (k+1)):=Ff (g.bel (by omega)) (g.bel (by omega)) ne;rw [e];cases c:lt (p.getD k 0) (p.getD (k - 1) 0) with
  | true=>exact ⟨k,by rw [if_pos rfl];rfl,Nat.le_refl _,by omega,u,fun _=>c⟩
  | false =>
   rw [if_neg (by simp)];have c2:lt (p.getD (k - 1) 0) (p.getD k 0)=true:=by rw [T.tri _ _ (g.bel (by omega)) (g.bel (by omega)) ne,c];rfl
   have u2:Up lt p (k+1):=fun i j hij hj=>by
    by_cases hjk:j < k
    ·exact u i j hij hjk
    ·have:j=k:=by omega
     subst this
     by_cases hi:i=j - 1
     ·rw [hi];exact c2
     ·exact T.tr _ _ _ (g.bel (by omega)) (g.bel (by omega)) (g.bel (by omega)) (u i (j - 1) (by omega) (by omega)) c2
   obtain ⟨m,a1,a2,a3,a4,a5⟩:=Ui T g f (k+1) (by omega) (by omega) u2;exact ⟨m,a1,by omega,by omega,a4,fun h=>a5 (by omega)⟩
theorem Vu (T:Tot n lt) {p:Array Nat}(g:Gd n p):∀ (f k:Nat),1<=k->k+f<=n->Dn lt p k->∃ m,Av n lt (kas_desc f p k 0)=some (p,m,0)/\k<=m/\m<=k+f/\Dn lt p m
 | 0,k,h1,h2,u=>⟨k,rfl,Nat.le_refl _,Nat.le_refl _,u⟩
 | f+1,k,h1,h2,u=>by
  have ne:=g.ne (show k < n by omega) (show k - 1 < n by omega) (by omega)
  have e:Av n lt (kas_desc (f+1) p k 0)=Av n lt (if lt (p.getD k 0) (p.getD (k - 1) 0)=true then (if 0 > 0 then kas_desc f (kas_rev p (k - (0+1)) k) (k+1) 0 else kas_desc f p (k+1) 0)
   else .ask (p.getD (k - 1) 0) (p.getD k 0) fun d=>if d=true then .ret (p,k,0) else kas_desc f p (k+1) (0+1)):=Ff (g.bel (by omega)) (g.bel (by omega)) ne
  rw [e];cases c:lt (p.getD k 0) (p.getD (k - 1) 0) with
  | true =>
   rw [if_pos rfl,if_neg (Nat.lt_irrefl _)];have u2:Dn lt p (k+1):=fun i j hij hj=>by
    by_cases hjk:j < k
    ·exact u i j hij hjk
    ·have:j=k:=by omega
     subst this
     by_cases hi:i=j - 1
     ·rw [hi];exact c
     ·exact T.tr _ _ _ (g.bel (by omega)) (g.bel (by omega)) (g.bel (by omega)) c (u i (j - 1) (by omega) (by omega))
   obtain ⟨m,a1,a2,a3,a4⟩:=Vu T g f (k+1) (by omega) (by omega) u2;exact ⟨m,a1,by omega,by omega,a4⟩
  | false =>
   rw [if_neg (by simp),Ff (g.bel (by omega)) (g.bel (by omega)) ne.symm];have c2:lt (p.getD (k - 1) 0) (p.getD k 0)=true:=by rw [T.tri _ _ (g.bel (by omega)) (g.bel (by omega)) ne,c];rfl
   rw [c2,if_pos rfl];exact ⟨k,rfl,Nat.le_refl _,by omega,u⟩
theorem Kp {p q:Array Nat}{i j:Nat}(h:p[i]?=q[j]?):p.getD i 0=q.getD j 0:=by
 rw [Array.getD_eq_getD_getElem?,Array.getD_eq_getD_getElem?,h]
theorem aJ {p:Array Nat}(g:Gd n p) (i j:Nat):Gd n (kas_rev p i j):=⟨by rw [kas_rev_size];exact g.sz,(Array.perm_iff_toList_perm.mp (mirror_perm p i j _)).trans g.pm⟩
theorem sW {p:Array Nat}(g:Gd n p) {m:Nat}(hm:m<=n) (d:Dn lt p m):Up lt (kas_rev p 0 m) m:=fun i j hij hj=>by
 have at':∀ k,k < m->(kas_rev p 0 m).getD k 0=p.getD (m - 1 - k) 0:=fun k hk=>by
  refine Kp ?_;have:=getElem?_mirror_all (xs:=p) (i:=0) (j:=m) (by rw [g.sz];exact hm) k;rw [if_pos ⟨Nat.zero_le _,hk⟩,Nat.zero_add] at this;exact this
 rw [at' i (by omega),at' j hj];exact d _ _ (by omega) (by omega)
theorem aK (T:Tot n lt) (h1:1<=n) {p:Array Nat}(g:Gd n p):∃ m p',Av n lt (kas_count n p)=some (m,p')/\Gd n p'/\1<=m/\m<=n/\Up lt p' m:=by
 obtain ⟨m,a1,a2,a3,a4,a5⟩:=Ui T g (n - 1) 1 (Nat.le_refl _) (by omega) (fun i j h1 h2=>by omega);have e:Av n lt (kas_count n p)=Av n lt (if (m==n)=true then .ret (m,p) else if m > 1 then .ask (p.getD 0 0) (p.getD (m - 1) 0) fun c=>if c=true then .ret (m,p) else kas_descPart m n (kas_rev p 0 m) else kas_descPart m n p):=Dc _ a1;rw [e]
 by_cases hm:m=n
 ·rw [if_pos (by simpa using hm)];exact ⟨m,p,rfl,g,a2,by omega,a4⟩
 ·rw [if_neg (by simpa using hm)]
  by_cases h:m > 1
  ·rw [if_pos h,Ff (g.bel (by omega)) (g.bel (by omega)) (g.ne (by omega) (by omega) (by omega)),a4 0 (m - 1) (by omega) (by omega),if_pos rfl];exact ⟨m,p,rfl,g,a2,by omega,a4⟩
  ·have:m=1:=by omega
   subst this;rw [if_neg h];have c:=a5 (by omega)
   obtain ⟨d,b1,b2,b3,b4⟩:=Vu T g (n - 2) 2 (by decide) (by omega) (fun i j h1 h2=>by
    have e1:i=0:=by omega
    have e2:j=1:=by omega
    subst e1 e2
    exact c)
   have e2:Av n lt (kas_descPart 1 n p)=Av n lt (if (0:Nat) > 0 then kas_tail3 d n (kas_rev p (d - (0+1)) d) else kas_tail3 d n p):=Dc _ b1;rw [e2,if_neg (Nat.lt_irrefl _)];obtain ⟨q,c1,c2,c3,c4,_⟩:=Ui T (aJ g 0 d) (n - d) d (by omega) (by omega) (sW g (by omega) b4);have e3:Av n lt (kas_tail3 d n p)=Av n lt (.ret (q,kas_rev p 0 d)):=Dc _ c1;exact ⟨q,kas_rev p 0 d,e3,aJ g 0 d,by omega,by omega,c4⟩
theorem Lq (T:Tot n lt) {p:Array Nat}(g:Gd n p) {k:Nat}(hk:k < n) (u:Up lt p k):∀ (f l r:Nat),l<=r->r<=k->r - l<=f->(∀ i,i < l->lt (p.getD i 0) (p.getD k 0)=true)->(∀ i,r<=i->i < k->lt (p.getD k 0) (p.getD i 0)=true) ->
  ∃ l',Av n lt (kas_place p k f l r)=some l'/\l'<=k/\(∀ i,i < l'->lt (p.getD i 0) (p.getD k 0)=true)/\∀ i,l'<=i->i < k->lt (p.getD k 0) (p.getD i 0)=true
 | 0,l,r,h1,h2,h3,a,b=>⟨l,rfl,by omega,a,fun i hi hk=>b i (by omega) hk⟩
 | f+1,l,r,h1,h2,h3,a,b=>by
  by_cases hlr:l ≥ r
  ·refine ⟨l,?_,by omega,a,fun i hi hk=>b i (by omega) hk⟩;show Av n lt (if l ≥ r then .ret l else _)=_;rw [if_pos hlr];rfl
  ·have ne:=g.ne (show k < n from hk) (show (l+r) / 2 < n by omega) (by omega);have e:Av n lt (kas_place p k (f+1) l r)=Av n lt (if lt (p.getD k 0) (p.getD ((l+r) / 2) 0)=true then kas_place p k f l ((l+r) / 2) else kas_place p k f ((l+r) / 2+1) r):=by
    show Av n lt (if l ≥ r then .ret l else .ask (p.getD k 0) (p.getD ((l+r) / 2) 0) fun c=>if c=true then kas_place p k f l ((l+r) / 2) else kas_place p k f ((l+r) / 2+1) r)=_;rw [if_neg hlr];exact Ff (g.bel hk) (g.bel (by omega)) ne
   rw [e];cases c:lt (p.getD k 0) (p.getD ((l+r) / 2) 0) with
   | true =>
    rw [if_pos rfl];refine Lq T g hk u f l ((l+r) / 2) (by omega) (by omega) (by omega) a fun i hi hik=>?_
    by_cases e:i=(l+r) / 2
    ·rw [e];exact c
    ·exact T.tr _ _ _ (g.bel hk) (g.bel (by omega)) (g.bel (by omega)) c (u _ _ (by omega) hik)
   | false =>
    rw [if_neg (by simp)];have c2:lt (p.getD ((l+r) / 2) 0) (p.getD k 0)=true:=by rw [T.tri _ _ (g.bel hk) (g.bel (by omega)) ne,c];rfl
    refine Lq T g hk u f ((l+r) / 2+1) r (by omega) h2 (by omega) (fun i hi=>?_) b
    by_cases e:i=(l+r) / 2
    ·rw [e];exact c2
    ·exact T.tr _ _ _ (g.bel (by omega)) (g.bel (by omega)) (g.bel hk) (u _ _ (by omega) (by omega)) c2
theorem aL (T:Tot n lt):∀ (f k:Nat) (p:Array Nat),Gd n p->k+f=n->Up lt p k->∃ p',Av n lt (kas_bin f p k)=some p'/\Gd n p'/\Up lt p' n
 | 0,k,p,g,e,u=>⟨p,rfl,g,by have:k=n:=e;subst this;exact u⟩
 | f+1,k,p,g,e,u=>by
  have hk:k < n:=by omega
  obtain ⟨l,a1,a2,a3,a4⟩:=Lq T g hk u k 0 k (Nat.zero_le _) (Nat.le_refl _) (by omega) (fun i h=>by omega) (fun i h1 h2=>by omega);have e2:Av n lt (kas_bin (f+1) p k)=Av n lt (kas_bin f (bubble p k (k - l)) (k+1)):=Dc _ a1;rw [e2];have at':∀ i,(bubble p k (k - l)).getD i 0=if i=l then p.getD k 0 else if l < i/\i<=k then p.getD (i - 1) 0 else p.getD i 0:=fun i=>by
   have:=getElem?_bubble (xs:=p) (src:=k) (by rw [g.sz];exact hk) (k - l) (by omega) i;rw [show k - (k - l)=l by omega] at this;split at this
   ·rename_i h;rw [if_pos h];exact Kp this
   ·rename_i h;rw [if_neg h];split at this
    ·rename_i h2;rw [if_pos h2];exact Kp this
    ·rename_i h2;rw [if_neg h2];exact Kp this
  refine aL T f (k+1) _ ⟨by rw [bubble_size];exact g.sz,(Array.perm_iff_toList_perm.mp (bubble_perm p k _)).trans g.pm⟩ (by omega) fun i j hij hj=>?_
  rw [at' i,at' j];repeat' split
  all_goals first
   | (exfalso;omega)
   | exact a3 _ (by omega)
   | exact a4 _ (by omega) (by omega)
   | exact u _ _ (by omega) (by omega)
theorem aM (h2:2<=n) (T:Tot n lt):∃ p:Array Nat,Av n lt (kas_sort n)=some p/\p.toList.length=n/\(∀ i∈p.toList,i < n)/\p.toList.Nodup/\p.toList.Pairwise fun i j=>lt i j=true:=by
 have g0:Gd n (List.toArray (List.range n)):=⟨by simp,by simp⟩;obtain ⟨m,q,a1,a2,a3,a4,a5⟩:=aK T (by omega) g0;have e:Av n lt (kas_sort n)=Av n lt (if m < n then kas_bin (n - max m 1) q (max m 1) else .ret q):=Dc _ a1;have fin:∃ p,Av n lt (kas_sort n)=some p/\Gd n p/\Up lt p n:=by
  rw [e]
  by_cases h:m < n
  ·rw [if_pos h,show max m 1=m by omega];exact aL T (n - m) m q a2 (by omega) a5
  ·rw [if_neg h];have:m=n:=by omega
   subst this;exact ⟨q,rfl,a2,a5⟩
 obtain ⟨p,b1,b2,b3⟩:=fin;refine ⟨p,b1,by rw [Array.length_toList];exact b2.sz,fun i hi=>List.mem_range.mp (b2.pm.mem_iff.mp hi),b2.pm.nodup_iff.mpr List.nodup_range,?_⟩;rw [List.pairwise_iff_getElem];intro i j hi hj hij;rw [Array.length_toList,b2.sz] at hi hj;have:=b3 i j hij hj;have e1:p.getD i 0=p.toList[i]:=by simp [Array.getD,b2.sz,hi]
 have e2:p.getD j 0=p.toList[j]:=by simp [Array.getD,b2.sz,hj]
 rw [e1,e2] at this;exact this
end
section
variable {prog:Program}{w:World}{A:Around}{E:Value->Shared->Prop}{s:Shared}
theorem getD_some {α:Type}{l:List α}{i:Nat}{d x:α}(h:l[i]?=some x):l.getD i d=x:=by rw [List.getD_eq_getElem?_getD,h];rfl
theorem range_getD {α:Type}{d:α}(l:List α):(List.range l.length).map (fun i=>l.getD i d)=l:=by
 refine List.ext_getElem? fun i=>?_
 rw [List.getElem?_map]
 by_cases h:i < l.length
 ·rw [List.getElem?_range h,Option.map_some,List.getD_eq_getElem?_getD,List.getElem?_eq_getElem h];rfl
 ·rw [List.getElem?_eq_none (by simpa using h),List.getElem?_eq_none (by simpa using h)];rfl
end
noncomputable def txD (k:TX):D:=.tup (.str k.1::k.2.map D.int)
noncomputable def lG:List TX->List TX
 | []=>[]
 | x::r=>if x∈r then lG r else x::lG r
theorem Og {α β:Type}{R:α->β->Prop}:∀ {l:List α},(∀ v∈l,∃ k,R v k)->∃ ks:List β,l.length=ks.length/\∀ (i:Nat) (v:α) (k:β),l[i]?=some v->ks[i]?=some k->R v k
 | [],_=>⟨[],rfl,fun i v k h=>by simp at h⟩
 | a::r,h=>by
  obtain ⟨k,hk⟩:=h a (.head _);obtain ⟨ks,h1,h2⟩:=Og fun v hv=>h v (.tail _ hv)
  refine ⟨k::ks,by simp [h1],fun i v k' e1 e2=>?_⟩;cases i with
  | zero=>cases e1;cases e2;exact hk
  | succ i=>exact h2 i v k' (by simpa using e1) (by simpa using e2)
section
variable {X:Cx}
end
noncomputable def aN:List D->Option (List TX)
 | []=>some []
 | .tup (.str x::r)::t=>match intsOf r with
  | some ns=>match aN t with
   | some l=>some ((x,ns)::l)
   | none=>none
  | none=>none
 | _=>none
noncomputable def aO (ds:List D) (mh:MH):Option (D×MH):=match aN ds with
 | some ks=>if (lG ks).length<=17 then some (.ref mh.length,mh++[.lst ((Lp (lG ks)).map txD)]) else none
 | none=>none
noncomputable def Xo (x:D) (mh:MH):Option (D×MH):=match x with
 | .ref n=>match mh[n]? with
  | some (.lst o)=>match intsOf o with
   | some ns=>if ns.length < 4000 then (if (Z6 ns).length < 64 then some (.ref mh.length,mh++[.lst ((yR ns).map D.int)]) else none) else none
   | none=>aO o mh
  | _=>none
 | _=>none
section
variable {K:PySem.W.Frag}{H:Hp}{ρ:List Addr}
end
section
variable {X:Cx}{a:Expr}{ma:DM D}{p p2 pos pos2:Pos}
end
end DL
namespace DL
open PySem PySem.Spec PyProof.Rows L2
section
variable {prog:Program}{w:World}{A:Around}{E:Value->Shared->Prop}{s:Shared}
end
section
variable {prog:Program}{w:World}{A:Around}{E:Value->Shared->Prop}{s:Shared}
end
section
variable {X:Cx}
end
section
variable {prog:Program}{w:World}{A:Around}{E:Value->Shared->Prop}{s:Shared}
end
section
variable {prog:Program}{w:World}{A:Around}{E:Value->Shared->Prop}{s:Shared}{k1 k2:SeqK}{S z TI TO i1 i2 l1 l2:Addr}{i:Nat}
end
noncomputable def sX (a b:D):D:=.tup [a,b]
noncomputable def aP:List D->MH->Option (D×MH)
 | [x,y],mh=>match Er x mh,Er y mh with
  | some as,some bs=>some (.ref mh.length,mh++[.lst (List.zipWith sX as bs)])
  | _,_=>none
 | _,_=>none
section
variable {X:Cx}
end
end DL
namespace DL
open PySem PySem.Spec PyProof.Rows L2 PySem.W
noncomputable def aQ:List D->MH->Option (D×MH)
 | [x,y],mh=>match Er x mh,Er y mh with
  | some as,some bs=>match aN (List.zipWith sX as bs) with
   | some ks=>if ks.Nodup/\ks.length < 64 then some (.ref (mh.length+1),mh++[.lst (List.zipWith sX as bs)]++[.lst ((Lp ks).map txD)]) else none
   | none=>none
  | _,_=>none
 | _,_=>none
section
variable {X:Cx}
end
end DL
namespace DL
open PySem PySem.Spec PyProof.Rows L2
section
variable {X:Cx}
end
noncomputable def Vv (T1:String) (f1:D->List D->MH->Option (D×MH)) (T2:String) (f2:D->List D->MH->Option (D×MH)) (mo:DM D) (mr:DM (List D)):DM D:=fun loc mh=>match mo loc mh with
 | some (x,m1)=>if Xi T1 x m1 then Cm T1 f1 mo mr loc mh else Cm T2 f2 mo mr loc mh
 | none=>none
theorem R3 {X:Cx}{e:Expr}{T1 T2:String}{f1 f2:D->List D->MH->Option (D×MH)}{mo:DM D}{mr:DM (List D)}(h1:DE X e (Cm T1 f1 mo mr)) (h2:DE X e (Cm T2 f2 mo mr)):DE X e (Vv T1 f1 T2 f2 mo mr):=fun loc mh=>by
 unfold Vv;split
 ·split
  ·exact h1 loc mh
  ·exact h2 loc mh
 ·exact Dr
section
variable {prog:Program}{w:World}{A:Around}{E:Value->Shared->Prop}{s:Shared}
end
inductive DEnts (w:World) (K:PySem.W.Frag):List DictEntry->List (Str×D)->Prop
 | nil:DEnts w K [] []
 | cons {k:Str} {t:Tok} {u:Value} {v:V} {d:D} {es:List DictEntry} {kvs:List (Str×D)}:RelV v u->(∀ H ρ,RD K H ρ d v)->DEnts w K es kvs->DEnts w K ({ hash:=hashStr w k,key:=.str k t,val:=u }::es) ((k,d)::kvs)
structure DicOk (w:World) (K:PySem.W.Frag) (a:Addr) (kvs:List (Str×D)):Prop where
 ns:(a==sysModules)=false
 ob:∃ o es ep,K.lookup a=some o/\o.ExactDict/\o.data=.dict es ep/\DEnts w K es.toList kvs
section
variable {X:Cx}{a:Addr}{kvs:List (Str×D)}
variable {e:Expr}{me:DM D}{x:Str}{p pos:Pos}
end
mutual
noncomputable def rdV (K:PySem.W.Frag):Nat->Value->Option D
 | _,.none=>some .non
 | _,.bool b=>some (.bl b)
 | _,.int i _=>some (.int i)
 | _,.str x _=>some (.str x)
 | n+1,.ref a=>match K.lookup a with
  | some ⟨.type c,none,.seq its _,_⟩=>if c == "tuple"&&decide (its.size<=1000) then (match Xp K n its.toList with | some ds=>some (.tup ds) | none=>none) else none
  | _=>none
 | _,_=>none
noncomputable def Xp (K:PySem.W.Frag):Nat->List Value->Option (List D)
 | _,[]=>some []
 | 0,_::_=>none
 | n+1,u::r=>match rdV K n u with
  | some d=>(match Xp K n r with | some ds=>some (d::ds) | none=>none)
  | none=>none
end
mutual
theorem sY {K:PySem.W.Frag}:∀ (n:Nat) {u:Value}{d:D},rdV K n u=some d->∃ v,RelV v u/\∀ H ρ,RD K H ρ d v
 | n,.none,d,h=>by cases n <;> (simp only [rdV] at h;cases h;exact ⟨.non,rfl,fun _ _=>.non⟩)
 | n,.bool b,d,h=>by cases n <;> (simp only [rdV] at h;cases h;exact ⟨.bl b,rfl,fun _ _=>.bl b⟩)
 | n,.int i t,d,h=>by cases n <;> (simp only [rdV] at h;cases h;exact ⟨.int i,⟨t,rfl⟩,fun _ _=>.int i⟩)
 | n,.str x t,d,h=>by cases n <;> (simp only [rdV] at h;cases h;exact ⟨.str x,⟨t,rfl⟩,fun _ _=>.str x⟩)
 | 0,.ref a,d,h=>by simp only [rdV] at h;cases h
 | n+1,.ref a,d,h=>by
  simp only [rdV] at h;split at h
  ·rename_i c its ep sl hk;split at h
   ·rename_i hc;rw [Bool.and_eq_true,decide_eq_true_iff] at hc;split at h
    ·rename_i ds hd;cases h;obtain ⟨vs,h1,h2⟩:=Vw n hd;refine ⟨.ref a,rfl,fun H ρ=>.tup (.inr ⟨_,its,ep,hk,by rw [eq_of_beq hc.1],rfl,rfl,?_,h1⟩) (h2 H ρ)⟩;rw [sizeLine_eq];omega
    ·cases h
   ·cases h
  ·cases h
 | n,.float _ _,d,h=>by cases n <;> (simp only [rdV] at h;cases h)
 | n,.bytes _ _,d,h=>by cases n <;> (simp only [rdV] at h;cases h)
 | n,.ellipsis,d,h=>by cases n <;> (simp only [rdV] at h;cases h)
 | n,.notImplemented,d,h=>by cases n <;> (simp only [rdV] at h;cases h)
 | n,.type _,d,h=>by cases n <;> (simp only [rdV] at h;cases h)
 | n,.builtin _,d,h=>by cases n <;> (simp only [rdV] at h;cases h)
theorem Vw {K:PySem.W.Frag}:∀ (n:Nat) {us:List Value}{ds:List D},Xp K n us=some ds->∃ vs,Vals vs us/\∀ H ρ,RDs K H ρ ds vs
 | n,[],ds,h=>by cases n <;> (simp only [Xp] at h;cases h;exact ⟨[],.nil,fun _ _=>.nil⟩)
 | 0,_::_,ds,h=>by simp only [Xp] at h;cases h
 | n+1,u::r,ds,h=>by
  simp only [Xp] at h;split at h
  ·rename_i d hd;split at h
   ·rename_i ds' hr;cases h;obtain ⟨v,a1,a2⟩:=sY n hd;obtain ⟨vs,b1,b2⟩:=Vw n hr;exact ⟨v::vs,.cons a1 b1,fun H ρ=>.cons (a2 H ρ) (b2 H ρ)⟩
   ·cases h
  ·cases h
end
section
variable {X:Cx}{o:Expr}{mo:DM D}{c f:Str}{C:Addr}{pos apos:Pos}
variable {CX:CXT}{k:Nat}{fa:Addr}{fd:FuncData}{ps:List Str}{m:Str}{g:List D->MH->Option (D×MH)}{e:Expr}{es:List Expr}{mr:DM (List D)}{E:XK}
noncomputable def spI (C:Addr) (f:Str):Sp:=fun vs H Q _=>∃ x dx v,vs=[.ref x,v]/\H x=some (.ins C dx [])/\Q .non (upd H x (.ins C dx [(f,v)]))
end
noncomputable abbrev Fn:=List D->MH->Option (D×MH)
section
variable {X:Cx}{o:Expr}{mo:DM D}{f m:Str}{pos apos:Pos}
end
section
variable {X:Cx}
end
section
variable {X:Cx}{tg:Expr}
end
theorem J8:fillsNumberSlot (.type "tuple") "mul"=pure false:=PySem.fillsNumberSlot_seq (id := "tuple.__mul__") (r:=some (.builtin "tuple.__rmul__")) PySem.F.slot_tuple_mul.lookup (by decide +kernel) PySem.F.slot_tuple_rmul.lookup (by decide +kernel)
theorem Ka:seqRepeat? (.type "tuple")=pure (some (.builtin "tuple.__mul__")):=by
 unfold seqRepeat?
 rw [PySem.seqSlot_of (T := "tuple") (name := "__mul__") (id := "tuple.__mul__") PySem.F.slot_tuple_mul.lookup (by decide +kernel),PySem.seqSlot_of (T := "tuple") (name := "__rmul__") (id := "tuple.__rmul__") PySem.F.slot_tuple_rmul.lookup (by decide +kernel)];rfl
theorem Oh (a:Int) (t:Tok) (l:Addr) (items:Array Value) (n:Nat) (dd:Option Addr) (sl:Array (Option Value)) :
  Meets (Builtin.«int.__rmul__» ⟨[.int a t,.ref l],[]⟩) (fun _ R s=>s.heap.get? l=some { cls:=.type "tuple",dict:=dd,data:=.seq items n,slots:=sl }/\R (.ok (.ret Value.notImplemented)) s) :=
 .of_wp fun prog w A R s h=>by obtain ⟨hp,g,d,tk,os⟩:=s;obtain ⟨hl,h⟩:=h;wp_walk;exact ⟨_,rfl,h⟩
theorem aR (l:Addr) (items:Array Value) (n:Nat) (dd:Option Addr) (sl:Array (Option Value)) (x:Int) (u:Tok) (hc0:¬(decide (x < -(2 ^ 63)) || decide (x ≥ 2 ^ 63))=true) (hc1:¬(items.isEmpty || x==1)=true) (hc2:¬(decide (x<=0) || items.isEmpty)=true) (hc3:¬((items.size:Int) * x > (2 ^ 63 - 1) / 8)) (hc5:¬(List.foldl (fun x1 x2=>x1++x2) #[] (List.replicate x.toNat items)).size > sizeLine) (hc4:¬PySem.Builtin.Tuple.tupleTooMany ((items.size:Int) * x)=true) :
  Meets (Builtin.«tuple.__mul__» ⟨[.ref l,.int x u],[]⟩) (fun _ R s=>s.heap.get? l=some { cls:=.type "tuple",dict:=dd,data:=.seq items n,slots:=sl }/\R (.ok (.ret (Value.ref s.heap.objs.size))) { s with heap:=s.heap.push { cls:=Value.type "tuple",data:=Data.seq (List.foldl (fun x1 x2=>x1++x2) #[] (List.replicate x.toNat items)) },toks:=s.toks }) :=
 .of_wp fun prog w A R s h=>by
  obtain ⟨hp,g,d,tk,os⟩:=s;obtain ⟨hl,h⟩:=h;have f1:=AutoSeq1.idx_int;wp_walk using wpAny_loadPart' hl
  simp only [hc0,Bool.false_eq_true,if_false];wp_walk using wpAny_loadPart' hl
  simp only [hc3,if_false];wp_walk using wpAny_loadPart' hl
  exact ⟨_,rfl,h⟩
theorem aU (l:Addr) (items:Array Value) (n:Nat) (dd:Option Addr) (sl:Array (Option Value)) (u:Tok) :
  Meets (Builtin.«tuple.__mul__» ⟨[.ref l,.int 1 u],[]⟩) (fun _ R s=>s.heap.get? l=some { cls:=.type "tuple",dict:=dd,data:=.seq items n,slots:=sl }/\R (.ok (.ret (Value.ref l))) s) :=
 .of_wp fun prog w A R s h=>by
  obtain ⟨hp,g,d,tk,os⟩:=s;obtain ⟨hl,h⟩:=h;have f1:=AutoSeq1.idx_int;have c1:(items.isEmpty || (1:Int)==1)=true:=by rw [Bool.or_eq_true];exact .inr rfl
  wp_walk using wpAny_loadPart' hl
  exact ⟨_,rfl,h⟩
section
variable {X:Cx}
theorem RDs.rep {K:PySem.W.Frag}{H:Hp}{ρ:List Addr}{ds:List D}{vs:List V}(h:RDs K H ρ ds vs):∀ k:Nat,RDs K H ρ (List.replicate k ds).flatten (List.replicate k vs).flatten
 | 0=>.nil
 | k+1=>by
  rw [List.replicate_succ,List.replicate_succ,List.flatten_cons,List.flatten_cons];exact h.append (RDs.rep h k)
theorem Xq:OpR X (binaryOp .Mult) (fun x y H Q=>∃ a k xs,x=.ref a/\y=.int k/\SqT X.K H a xs/\xs≠[]/\1 < k/\k<=1000/\xs.length<=1000/\∀ p,H p=none->Q (.ref p) (upd H p (.tup (List.replicate k.toNat xs).flatten))):=by
 rintro pins s σ H x y v u Q I rx ry ⟨a,k,xs,e1,e2,ha,hne,h1,h2,h3,q⟩;subst e1;subst e2;cases rx;obtain ⟨t,rfl⟩:=ry;obtain ⟨its,r1,p1,_⟩:=I.tuple ha;obtain ⟨⟨cls,dd,data,sl⟩,ho,hc,n,hd⟩:=id p1;simp only at hc hd;subst hc hd;have hl:its.length<=1000:=by rw [← r1.length];exact h3
 have hn:its.toArray.isEmpty=false:=by
  cases its with
  | nil=>exact absurd (r1.nil_iff.mp rfl) hne
  | cons b r=>rfl
 have hm:((its.toArray.size:Nat):Int) * k<=1000 * 1000:=by
  rw [List.size_toArray];exact Int.mul_le_mul (by omega) (by omega) (by omega) (by omega)
 have hf:List.foldl (fun x1 x2=>x1++x2) #[] (List.replicate k.toNat its.toArray)=(List.replicate k.toNat its).flatten.toArray:=by
  have:=foldl_rep its k.toNat [];rw [List.nil_append] at this;exact this
 have c0:¬(decide (k < -(2 ^ 63)) || decide (k ≥ 2 ^ 63))=true:=by
  rw [Bool.or_eq_true,decide_eq_true_iff,decide_eq_true_iff];omega
 have c1:¬(its.toArray.isEmpty || k==1)=true:=by
  rw [hn,Bool.false_or,beq_iff_eq];omega
 have c2:¬(decide (k<=0) || its.toArray.isEmpty)=true:=by
  rw [hn,Bool.or_false,decide_eq_true_iff];omega
 have c3:¬(((its.toArray.size:Nat):Int) * k > (2 ^ 63 - 1) / 8):=by omega
 have c4:¬PySem.Builtin.Tuple.tupleTooMany (((its.toArray.size:Nat):Int) * k)=true:=by
  have:(sizeLine:Nat)=16777216:=sizeLine_eq;unfold PySem.Builtin.Tuple.tupleTooMany;rw [decide_eq_true_iff];omega
 have c5:¬(List.foldl (fun x1 x2=>x1++x2) #[] (List.replicate k.toNat its.toArray)).size > sizeLine:=by
  rw [hf,List.size_toArray,len_rep,sizeLine_eq];have:k.toNat * its.length<=1000 * 1000:=Nat.mul_le_mul (by omega) hl;omega
 refine wpAny_binaryOp_repeat_ref (T := "tuple") (U := "int") (by decide) ⟨_,ho,rfl⟩ (fun s'=>PySem.typeIs_int s' k t) J8 PySem.F.fills_int_mul PySem.F.slot_int_rmul Ka PySem.F.slot_int_index.lookup
  (call_meets PySem.F.slot_int_rmul (PySem.typeIs_int s k t) PySem.F.entry_int_rmul (PySem.F.args_int_rmul_2 _ _) (Oh k t a its.toArray n dd sl)
   ⟨ho,rfl,⟨_,ho,rfl⟩,call_meets PySem.F.slot_tuple_mul ⟨_,ho,rfl⟩ PySem.F.entry_tuple_mul (PySem.F.args_tuple_mul_2 _ _) (aR a its.toArray n dd sl k t c0 c1 c2 c3 c5 c4) ⟨ho,?_⟩⟩)
 rw [hf];refine ⟨.ref s.heap.objs.size,_,I.laid (t':=s.toks) (o:=.tup (List.replicate k.toNat xs).flatten) (fun b ob q=>Heap.get?_push_of_some _ q) (Nat.le_refl _) ?_,rfl,q _ (I.hok.fresh (Nat.le_refl _))⟩;refine ⟨?_,_,r1.rep k.toNat,Kf.new _ _⟩;rw [len_rep,sizeLine_eq];have:k.toNat * xs.length<=1000 * 1000:=Nat.mul_le_mul (by omega) h3;omega
theorem Xr:OpR X (binaryOp .Mult) (fun x y H Q=>∃ a xs,x=.ref a/\y=.int 1/\SqT X.K H a xs/\Q (.ref a) H):=by
 rintro pins s σ H x y v u Q I rx ry ⟨a,xs,e1,e2,ha,q⟩;subst e1;subst e2;cases rx;obtain ⟨t,rfl⟩:=ry;obtain ⟨its,r1,p1,_⟩:=I.tuple ha;obtain ⟨⟨cls,dd,data,sl⟩,ho,hc,n,hd⟩:=id p1;simp only at hc hd;subst hc hd
 exact wpAny_binaryOp_repeat_ref (T := "tuple") (U := "int") (by decide) ⟨_,ho,rfl⟩ (fun s'=>PySem.typeIs_int s' 1 t) J8 PySem.F.fills_int_mul PySem.F.slot_int_rmul Ka PySem.F.slot_int_index.lookup
  (call_meets PySem.F.slot_int_rmul (PySem.typeIs_int s 1 t) PySem.F.entry_int_rmul (PySem.F.args_int_rmul_2 _ _) (Oh 1 t a its.toArray n dd sl)
   ⟨ho,rfl,⟨_,ho,rfl⟩,call_meets PySem.F.slot_tuple_mul ⟨_,ho,rfl⟩ PySem.F.entry_tuple_mul (PySem.F.args_tuple_mul_2 _ _) (aU a its.toArray n dd sl t) ⟨ho,⟨.ref a,H,I,rfl,q⟩⟩⟩)
noncomputable def sZ:D->D->Option (List D×Int)
 | .tup ds,.int k=>some (ds,k)
 | _,_=>none
theorem Xu {x y:D}{z:List D×Int}(h:sZ x y=some z):x=.tup z.1/\y=.int z.2:=by
 cases x with
 | tup ds =>
  cases y with
  | int k=>cases h;exact ⟨rfl,rfl⟩
  | _=>cases h
 | _=>cases h
noncomputable def Oi (g:D->D->MH->Option (D×MH)):D->D->MH->Option (D×MH):=fun x y mh=>match sZ x y with
 | some z=>if z.2=1 then some (.tup z.1,mh) else if (z.1.isEmpty=false/\z.1.length<=1000)/\(1 < z.2/\z.2<=1000) then some (.tup (List.replicate z.2.toNat z.1).flatten,mh) else none
 | none=>g x y mh
theorem aV {g:D->D->MH->Option (D×MH)}(h:OpR X (binaryOp .Mult) (rD X.K g)):OpR X (binaryOp .Mult) (rD X.K (Oi g)):=by
 rintro pins s σ H x y v u Q I rx ry ⟨ρ,mh,dx,dy,d,mh',q,rs,r1,r2,co⟩;unfold Oi at q;cases e:sZ dx dy with
 | none=>rw [e] at q;exact h pins s σ H x y v u Q I rx ry ⟨ρ,mh,dx,dy,d,mh',q,rs,r1,r2,co⟩
 | some z =>
  rw [e] at q;obtain ⟨ds,k⟩:=z;obtain ⟨rfl,rfl⟩:=Xu e;have q:(if k=1 then some (D.tup ds,mh) else if (ds.isEmpty=false/\ds.length<=1000)/\(1 < k/\k<=1000) then some (D.tup (List.replicate k.toNat ds).flatten,mh) else none)=some (d,mh'):=q
  by_cases h1:k=1
  ·subst h1;rw [if_pos rfl] at q;cases q;cases r2;cases r1 with
   | tup s1 rr=>exact Xr pins s σ H _ _ v u Q I rx ry ⟨_,_,rfl,rfl,s1,co H ρ _ Ev.refl rs (.tup s1 rr)⟩
  rw [if_neg h1] at q
  by_cases hz:(ds.isEmpty=false/\ds.length<=1000)/\(1 < k/\k<=1000)
  ·have q:(if (ds.isEmpty=false/\ds.length<=1000)/\(1 < k/\k<=1000) then some (D.tup (List.replicate k.toNat ds).flatten,mh) else none)=some (d,mh'):=q;rw [if_pos hz] at q;cases q;cases r2;cases r1 with
   | tup s1 rr=>exact Xq pins s σ H _ _ v u Q I rx ry ⟨_,_,_,rfl,rfl,s1,fun z=>by
     subst z;cases rr
     exact absurd hz.1.1 (by simp),hz.2.1,hz.2.2,by rw [← rr.length];exact hz.1.2,Co.newT rs (rr.rep _) co⟩
  ·have q:(if (ds.isEmpty=false/\ds.length<=1000)/\(1 < k/\k<=1000) then some (D.tup (List.replicate k.toNat ds).flatten,mh) else none)=some (d,mh'):=q;rw [if_neg hz] at q;cases q
end
section
variable {X:Cx}
noncomputable def aW:D->MH->Option (List D)
 | .ref n,mh=>match mh[n]? with | some (.lst ds)=>some ds | _=>none
 | _,_=>none
theorem Uj {x:D}{mh:MH}{ds:List D}(h:aW x mh=some ds):∃ n,x=.ref n/\mh[n]?=some (.lst ds):=by
 cases x with
 | ref n =>
  have h:(match mh[n]? with | some (.lst ds)=>some ds | _=>none)=some ds:=h;cases e:mh[n]? with
  | none=>rw [e] at h;cases h
  | some o =>
   cases o with
   | lst es=>rw [e] at h;cases h;exact ⟨n,rfl,e⟩
   | dct kvs=>rw [e] at h;cases h
   | dtk kvs=>rw [e] at h;cases h
   | plc=>rw [e] at h;cases h
   | plq=>rw [e] at h;cases h
   | fzd=>rw [e] at h;cases h
 | _=>cases h
noncomputable def intD:Fn:=fun ds mh=>match ds with
 | [x]=>(match x with
  | .int i=>some (.int i,mh)
  | .bl b=>some (.int (if b then 1 else 0),mh)
  | _=>none)
 | _=>none
theorem Xv:Bs X (.type "int") (rDs X.K intD):=by
 rintro pins s σ H xs us Q I r ⟨ρ,mh,ds,d,mh',q,rs,rd,co⟩
 match ds,q with
 | [x],q =>
  obtain ⟨v,rfl,rx⟩:=Lf rd;cases x with
  | int i=>cases q;cases rx;exact Nr pins s σ H _ us Q I r (.inl ⟨i,rfl,co H ρ _ Ev.refl rs (.int _)⟩)
  | bl b=>cases q;cases rx;exact Nr pins s σ H _ us Q I r (.inr ⟨b,rfl,co H ρ _ Ev.refl rs (.int _)⟩)
  | _=>cases q
 | [],q=>cases q
 | _::_::_,q=>cases q
end
noncomputable def Nh:D->Option Key
 | .int i=>some (.inl i)
 | .str x=>some (.inr x)
 | _=>none
noncomputable def keyB:Key->Key->Bool
 | .inl i,.inl j=>i==j
 | .inr x,.inr y=>x==y
 | _,_=>false
theorem Kq (a b:Key):keyB a b=decide (a=b):=by
 cases a with
 | inl i =>
  cases b with
  | inl j=>show (i==j)=_;by_cases h:i=j <;> simp [h]
  | inr y=>rfl
 | inr x =>
  cases b with
  | inl j=>rfl
  | inr y =>
   show (x==y)=_
   by_cases h:x=y
   ·subst h;simp
   ·rw [decide_eq_false (fun z=>h (by cases z;rfl))];exact beq_eq_false_iff_ne.mpr h
noncomputable def Py:List (Key×D)->Key->Option D
 | [],_=>none
 | p::r,k=>if keyB p.1 k=true then some p.2 else Py r k
noncomputable def putD (kvs:List (Key×D)) (k:Key) (d:D):List (Key×D) :=
 if (kvs.any fun kv=>keyB kv.1 k)=true then kvs.map (fun kv=>if keyB kv.1 k=true then (kv.1,d) else kv) else kvs++[(k,d)]
section
variable {K:PySem.W.Frag}{H H':Hp}{ρ ρ':List Addr}
noncomputable def RK (K:PySem.W.Frag) (H:Hp) (ρ:List Addr) (kvs:List (Key×D)) (xs:List (Key×V)):Prop:=xs.map (·.1)=kvs.map (·.1)/\RDs K H ρ (kvs.map (·.2)) (xs.map (·.2))
theorem RK.nil:RK K H ρ [] []:=⟨rfl,.nil⟩
theorem RK.cons {k:Key}{d:D}{v:V}{kvs:List (Key×D)}{xs:List (Key×V)}(r:RD K H ρ d v) (h:RK K H ρ kvs xs):RK K H ρ ((k,d)::kvs) ((k,v)::xs) :=
 ⟨by rw [List.map_cons,List.map_cons,h.1],.cons r h.2⟩
theorem RK.inv {k:Key}{d:D}{kvs:List (Key×D)}{xs:List (Key×V)}(h:RK K H ρ ((k,d)::kvs) xs):∃ v r,xs=(k,v)::r/\RD K H ρ d v/\RK K H ρ kvs r:=by
 obtain ⟨h1,h2⟩:=h;cases xs with
 | nil=>cases h1
 | cons p r =>
  obtain ⟨k',v⟩:=p;rw [List.map_cons,List.map_cons] at h1;injection h1 with e1 e2
  have e1:k'=k:=e1;subst e1;cases h2 with
  | cons a b=>exact ⟨v,r,rfl,a,e2,b⟩
theorem RK.inv0 {xs:List (Key×V)}(h:RK K H ρ [] xs):xs=[]:=by
 cases xs with
 | nil=>rfl
 | cons p r=>cases h.1
theorem RK.val (k:Key):∀ {kvs:List (Key×D)}{xs:List (Key×V)},RK K H ρ kvs xs->(∃ d v,Py kvs k=some d/\Il xs k=some v/\RD K H ρ d v)\/(Py kvs k=none/\Il xs k=none)
 | [],xs,h=>by rw [h.inv0];exact .inr ⟨rfl,rfl⟩
 | (k',d)::kvs,xs,h=>by
  obtain ⟨v,r,rfl,a,b⟩:=h.inv
  by_cases e:k'=k
  ·exact .inl ⟨d,v,by unfold Py;rw [Kq,decide_eq_true e,if_pos rfl],Im e,a⟩
  ·have e1:Py ((k',d)::kvs) k=Py kvs k:=by
    show (if keyB k' k=true then _ else _)=_;rw [Kq,decide_eq_false e,if_neg Bool.false_ne_true]
   rw [e1,Io e];exact RK.val k b
theorem RK.some_eq (k:Key) {kvs:List (Key×D)}{xs:List (Key×V)}(h:RK K H ρ kvs xs):(Il xs k).isSome=(Py kvs k).isSome:=by
 rcases h.val k with ⟨d,v,e1,e2,_⟩ | ⟨e1,e2⟩ <;> rw [e1,e2] <;> rfl
theorem RK.any (k:Key):∀ {kvs:List (Key×D)}{xs:List (Key×V)},RK K H ρ kvs xs->(xs.any fun kv=>decide (kv.1=k))=(kvs.any fun kv=>keyB kv.1 k)
 | [],xs,h=>by rw [h.inv0];rfl
 | (k',d)::kvs,xs,h=>by
  obtain ⟨v,r,rfl,a,b⟩:=h.inv;rw [List.any_cons,List.any_cons,RK.any k b,Kq]
theorem RK.repl {d:D}{v:V}(k:Key) (rv:RD K H ρ d v):∀ {kvs:List (Key×D)}{xs:List (Key×V)},RK K H ρ kvs xs->RK K H ρ (kvs.map fun kv=>if keyB kv.1 k=true then (kv.1,d) else kv) (xs.map fun kv=>if kv.1=k then (kv.1,v) else kv)
 | [],xs,h=>by rw [h.inv0];exact .nil
 | (k',d')::kvs,xs,h=>by
  obtain ⟨v',r,rfl,a,b⟩:=h.inv;rw [List.map_cons,List.map_cons];dsimp only;rw [Kq]
  by_cases e:k'=k
  ·rw [decide_eq_true e,if_pos rfl,if_pos e];exact (RK.repl k rv b).cons rv
  ·rw [decide_eq_false e,if_neg Bool.false_ne_true,if_neg e];exact (RK.repl k rv b).cons a
theorem RK.put {d:D}{v:V}(k:Key) (rv:RD K H ρ d v) {kvs:List (Key×D)}{xs:List (Key×V)}(h:RK K H ρ kvs xs):RK K H ρ (putD kvs k d) (putK xs k v):=by
 unfold putD putK;rw [h.any k]
 by_cases e:(kvs.any fun kv=>keyB kv.1 k)=true
 ·rw [if_pos e,if_pos e];exact h.repl k rv
 ·rw [if_neg e,if_neg e];refine ⟨by rw [List.map_append,List.map_append,h.1];rfl,?_⟩;rw [List.map_append,List.map_append];exact h.2.append (.cons rv .nil)
theorem RK.length {kvs:List (Key×D)}{xs:List (Key×V)}(h:RK K H ρ kvs xs):xs.length=kvs.length:=by
 have:=congrArg List.length h.1
 simpa using this
theorem Ev.dk {p:Addr}{ys zs:List (Key×V)}(hp:H p=some (.dK ys)):Ev K H ρ (upd H p (.dK zs)) ρ:=by
 refine ⟨fun a xs h=>?_,List.prefix_refl _,fun a xs h=>?_,fun a C dx fs h=>?_,fun a o u h=>by rw [Ac (Gm h hp (by intro z;cases z))];exact h⟩
 ·rcases h with (h|⟨ob,h⟩)|h
  ·exact .inl (.inl (by rw [Ac (Gm h hp (by intro z;cases z))];exact h))
  ·exact .inl (.inr ⟨ob,by rw [Ac (Gm h hp (by intro z;cases z))];exact h⟩)
  ·exact .inr h
 ·rcases h with ⟨ob,h⟩|h
  ·exact .inl ⟨ob,by rw [Ac (Gm h hp (by intro z;cases z))];exact h⟩
  ·exact .inr h
 ·rw [Ac (Gm h hp (by intro z;cases z))];exact h
theorem RS.newD {mh:MH}{p:Addr}{xs:List (Key×V)}{kvs:List (Key×D)}(h:RS K H ρ mh) (hp:H p=none) (r:RK K H ρ kvs xs):RS K (upd H p (.dK xs)) (ρ++[p]) (mh++[.dct kvs]):=by
 have hnp:p ∉ ρ:=fun z=>by
  obtain ⟨o,q⟩:=h.tracked z;rw [hp] at q;cases q
 refine ⟨by rw [List.length_append,List.length_append,h.len];rfl,?_,fun n a ob e1 e2=>?_⟩
 ·rw [List.nodup_append]
  exact ⟨h.nd,List.pairwise_singleton _ _,fun a ha b hb z=>by
   rw [List.mem_singleton.mp hb] at z;rw [z] at ha;exact hnp ha⟩
 ·by_cases hn:n < ρ.length
  ·rw [List.getElem?_append_left hn] at e1;rw [List.getElem?_append_left (by rw [← h.len];exact hn)] at e2;refine (h.obj n a ob e1 e2).mono (Ev.newL hp) ?_;obtain ⟨oo,q⟩:=h.tracked (List.mem_of_getElem? e1);rw [Ac (Ai q hp)]
  ·rw [List.getElem?_append_right (by omega)] at e1;rw [List.getElem?_append_right (by rw [← h.len];omega)] at e2;have n0:n - ρ.length=0:=by
    have:=(List.getElem?_eq_some_iff.mp e1).1;simp at this;omega
   rw [n0] at e1;rw [← h.len,n0] at e2;cases e1;cases e2;exact ⟨xs,Be,r.1,r.2.mono (Ev.newL hp)⟩
theorem RS.setD {mh:MH}{n:Nat}{p:Addr}{ys xs:List (Key×V)}{kvs:List (Key×D)}(h:RS K H ρ mh) (hn:ρ[n]?=some p) (hp:H p=some (.dK ys)) (r:RK K H ρ kvs xs):RS K (upd H p (.dK xs)) ρ (mh.set n (.dct kvs)):=by
 refine ⟨by rw [List.length_set];exact h.len,h.nd,fun m a ob e1 e2=>?_⟩
 by_cases hm:n=m
 ·subst hm;rw [hn] at e1;cases e1;rw [List.getElem?_set] at e2;simp only [if_true] at e2;split at e2
  ·cases e2;exact ⟨xs,Be,r.1,r.2.mono (Ev.dk hp)⟩
  ·cases e2
 ·rw [List.getElem?_set_ne hm] at e2;refine (h.obj m a ob e1 e2).mono (Ev.dk hp) ?_;rw [Ac];intro z;subst z;exact hm ((List.getElem?_inj (List.getElem?_eq_some_iff.mp hn).1 h.nd).mp (hn.trans e1.symm))
end
noncomputable def Gj (kvs:List (PyData×D)) (k:PyData):Option D:=(kvs.find? fun e=>decide (e.1=k)).map (·.2)
noncomputable def Xw (kvs:List (PyData×D)) (k:PyData) (d:D):List (PyData×D) :=
 if (Gj kvs k).isSome=true then kvs.map (fun e=>if e.1=k then (e.1,d) else e) else kvs++[(k,d)]
noncomputable def kD (d:D):Option PyData:=match py [] 8 d with
 | some (.tuple ks)=>if kCl (.tuple ks)=true then some (.tuple ks) else none
 | _=>none
theorem Pz {f g:D->Option PyData}(h:∀ d k,f d=some k->g d=some k):∀ {ds:List D}{ks:List PyData},Bm f ds=some ks->Bm g ds=some ks
 | [],_,e=>e
 | d::r,ks,e=>by
  simp only [Bm] at e ⊢;cases e1:f d with
  | none=>rw [e1] at e;cases e
  | some b =>
   rw [e1] at e;rw [h d b e1];cases e2:Bm f r with
   | none=>rw [e2] at e;cases e
   | some bs=>rw [e2] at e;rw [Pz h e2];exact e
theorem Uk (mh:MH):∀ (n:Nat) (d:D) (k:PyData),py [] n d=some k->py mh n d=some k
 | 0,d,k,e=>by cases d <;> exact e
 | n+1,d,k,e=>by
  cases d with
  | tup ds =>
   have e:(match Bm (py [] n) ds with | some xs=>some (PyData.tuple xs) | none=>none)=some k:=e;show (match Bm (py mh n) ds with | some xs=>some (PyData.tuple xs) | none=>none)=some k;cases e1:Bm (py [] n) ds with
   | none=>rw [e1] at e;cases e
   | some xs=>rw [e1] at e;rw [Pz (Uk mh n) e1];exact e
  | rol ds =>
   have e:(match Bm (py [] n) ds with | some xs=>some (PyData.list xs) | none=>none)=some k:=e;show (match Bm (py mh n) ds with | some xs=>some (PyData.list xs) | none=>none)=some k;cases e1:Bm (py [] n) ds with
   | none=>rw [e1] at e;cases e
   | some xs=>rw [e1] at e;rw [Pz (Uk mh n) e1];exact e
  | ref i=>cases e
  | _=>exact e
theorem aX:∀ (n:Nat) (d:D) (k:PyData),py [] n d=some k->kCl k=true->toD k=d
 | n,.int i,k,e,_=>by
  have e:some (PyData.int i)=some k:=by cases n <;> exact e
  cases e;rfl
 | n,.str x,k,e,_=>by
  have e:(if PyData.strOk x=true then some (PyData.str x) else none)=some k:=by cases n <;> exact e
  split at e
  ·cases e;rfl
  ·cases e
 | n,.non,k,e,c=>by
  have e:some PyData.none=some k:=by cases n <;> exact e
  cases e;simp [kCl] at c
 | n,.bl b,k,e,c=>by
  have e:some (PyData.bool b)=some k:=by cases n <;> exact e
  cases e;simp [kCl] at c
 | n+1,.tup ds,k,e,c=>by
  have e:(match Bm (py [] n) ds with | some xs=>some (PyData.tuple xs) | none=>none)=some k:=e;have all:∀ {l:List D} {ks:List PyData},Bm (py [] n) l=some ks->Bv ks=true->Nb ks=l:=fun {l}=>by
   induction l with
   | nil=>intro ks e _;cases e;rfl
   | cons d r ih =>
    intro ks e c;simp only [Bm] at e;cases e1:py [] n d with
    | none=>rw [e1] at e;cases e
    | some b =>
     rw [e1] at e;cases e2:Bm (py [] n) r with
     | none=>rw [e2] at e;cases e
     | some bs =>
      rw [e2] at e;cases e;have c:(kCl b&&Bv bs)=true:=by simpa [Bv] using c
      rw [Bool.and_eq_true] at c;rw [Nb,aX n d b e1 c.1,ih e2 c.2]
  cases e1:Bm (py [] n) ds with
  | none=>rw [e1] at e;cases e
  | some xs =>
   rw [e1] at e;cases e;rw [toD,all e1 (by simpa [kCl] using c)]
 | n+1,.rol ds,k,e,c=>by
  have e:(match Bm (py [] n) ds with | some xs=>some (PyData.list xs) | none=>none)=some k:=e;split at e
  ·cases e;simp [kCl] at c
  ·cases e
 | 0,.tup _,_,e,_=>by cases e
 | 0,.rol _,_,e,_=>by cases e
 | 0,.ref _,_,e,_=>by cases e
 | _+1,.ref _,_,e,_=>by cases e
 | 0,.obj ..,_,e,_=>by cases e
 | _+1,.obj ..,_,e,_=>by cases e
 | 0,.fn _,_,e,_=>by cases e
 | _+1,.fn _,_,e,_=>by cases e
 | 0,.lam,_,e,_=>by cases e
 | _+1,.lam,_,e,_=>by cases e
 | 0,.clo ..,_,e,_=>by cases e
 | _+1,.clo ..,_,e,_=>by cases e
mutual
theorem aY (mh:MH):∀ (k:PyData) (n:Nat),kCl k=true->k.canLay0=true->k.depth<=n->py mh n (toD k)=some k
 | .int _,n,_,_,_=>by cases n <;> rfl
 | .str x,n,_,l,_=>by
  have l:PyData.strOk x=true:=l;cases n <;> (show (if PyData.strOk x=true then some (PyData.str x) else none)=_;rw [if_pos l])
 | .tuple xs,0,_,_,h=>by simp [PyData.depth] at h
 | .tuple xs,n+1,c,l,h=>by
  have:=Vx mh xs n (by simpa [kCl] using c) (by simpa [PyData.canLay0] using l) (by simpa [PyData.depth] using h);show (match Bm (py mh n) (Nb xs) with | some xs=>some (PyData.tuple xs) | none=>none)=_;rw [this]
 | .none,_,c,_,_ | .bool _,_,c,_,_ | .list _,_,c,_,_ | .dict _,_,c,_,_=>by simp [kCl] at c
theorem Vx (mh:MH):∀ (ks:List PyData) (n:Nat),Bv ks=true->PyData.canLayAll0 ks=true->PyData.depthAll ks<=n->Bm (py mh n) (Nb ks)=some ks
 | [],_,_,_,_=>rfl
 | x::r,n,c,l,h=>by
  have c:(kCl x&&Bv r)=true:=by simpa [Bv] using c
  have l:(x.canLay0&&PyData.canLayAll0 r)=true:=by simpa [PyData.canLayAll0] using l
  rw [Bool.and_eq_true] at c l;simp only [PyData.depthAll] at h;simp only [Nb,Bm,aY mh x n c.1 l.1 (by omega),Vx mh r n c.2 l.2 (by omega)]
end
section
variable {X:Cx}{pins:List (Addr×Obj)}{σ:St}{s:Shared}{mh:MH}
theorem Eg {k:PyData}{b:Addr}{H:Hp}{ρ:List Addr}(I:Inv X pins σ H s) (rs:RS X.K H ρ mh) (o:kOk k) (r:RD X.K H ρ (toD k) (.ref b)):IsK s.heap k b:=by
 obtain ⟨⟨as,q⟩,l,d⟩:=Bf I rs 8 _ _ (.ref b) k (aY mh k 8 o.1 o.2.1 o.2.2) r rfl;exact ⟨o.1,l,d,as,q⟩
theorem Hv {d:D}{v:V}{u:Value}{k:PyData}{H:Hp}{ρ:List Addr}(I:Inv X pins σ H s) (rs:RS X.K H ρ mh) (e:kD d=some k) (r:RD X.K H ρ d v) (rv:RelV v u):∃ b,v=.ref b/\u=.ref b/\kOk k/\RD X.K H ρ (toD k) (.ref b):=by
 unfold kD at e;split at e
 ·rename_i ks e1;split at e
  ·rename_i c;cases e;obtain ⟨⟨as,q⟩,l,dp⟩:=Bf I rs 8 _ _ u _ (Uk mh 8 d _ e1) r rv;have ed:=aX 8 d _ e1 c;rw [toD] at ed;subst ed;cases r with
   | @tup _ a xs s1 r1 =>
    cases (show u=Value.ref a from rv);exact ⟨a,rfl,rfl,⟨c,l,dp⟩,.tup s1 r1⟩
  ·cases e
 ·cases e
noncomputable abbrev PN:List (PyData×Addr×V)->List (PyData×Addr×Value)->Prop:=Paired fun p q=>p.1=q.1/\p.2.1=q.2.1/\RelV p.2.2 q.2.2
theorem Iv {n:Nat}{kvs:List (PyData×D)}{v:V}{H:Hp}{ρ:List Addr}(I:Inv X pins σ H s) (rs:RS X.K H ρ mh) (e:mh[n]?=some (.dtk kvs)) (r:RD X.K H ρ (.ref n) v):∃ a xs ys,v=.ref a/\ρ[n]?=some a/\H a=some (.dN xs)/\KN X.K H ρ kvs xs/\xs.length<=sizeLine/\(a==sysModules)=false/\PN xs ys/\s.heap.DictOfH (Ci X.prog X.w) a ys:=by
 cases r with
 | @ref _ a ha =>
  obtain ⟨a',ha',ro⟩:=rs.at e;rw [ha] at ha';cases ha';obtain ⟨xs,q,kn⟩:=ro;obtain ⟨z,y,ys,p,o,es,ep,h1,h2,h3,h4,h5⟩:=(show Br X.prog X.w H s.heap a (.dN xs) from I.hok a _ q);refine ⟨a,xs,ys,rfl,ha,q,kn,z,y,p,o,es,ep,h1,h2,h3,h4,?_,h5⟩
  clear h4 h5 q z e
  induction kn generalizing ys with
  | nil=>cases p;intro x hx;exact nomatch hx
  | cons ok rk rd _ ih =>
   cases p with
   | cons h t =>
    intro x hx;rcases List.mem_cons.mp hx with rfl|hx
    ·rw [← h.1,← h.2.1];exact Eg I rs ok rk
    ·exact ih _ t x hx
end
section
variable {K:PySem.W.Frag}{H:Hp}{ρ:List Addr}
theorem Js {p:PyData×D}{r:List (PyData×D)}{k:PyData}:Gj (p::r) k=if p.1=k then some p.2 else Gj r k:=by
 unfold Gj;rw [List.find?_cons]
 by_cases e:p.1=k
 ·rw [decide_eq_true e,if_pos e];rfl
 ·rw [decide_eq_false e,if_neg e]
theorem Ul {p:PyData×Addr×Value}{r:List (PyData×Addr×Value)}{k:PyData}:atKey (p::r) k=if p.1=k then some p.2 else atKey r k:=by
 unfold atKey;rw [List.find?_cons]
 by_cases e:p.1=k
 ·rw [decide_eq_true e,if_pos e];rfl
 ·rw [decide_eq_false e,if_neg e]
theorem KN.val (k:PyData) {kvs:List (PyData×D)}{xs:List (PyData×Addr×V)}(h:KN K H ρ kvs xs):∀ {ys:List (PyData×Addr×Value)},PN xs ys->(∃ d v b u,Gj kvs k=some d/\atKey ys k=some (b,u)/\RD K H ρ d v/\RelV v u)\/(Gj kvs k=none/\atKey ys k=none):=by
 induction h with
 | nil=>intro ys p;cases p;exact .inr ⟨rfl,rfl⟩
 | @cons k' d b v kvs xs ok rk rd _ ih =>
  intro ys p;cases p with
  | @cons _ q _ qs h t =>
   rw [Js,Ul]
   by_cases e:k'=k
   ·rw [if_pos e,if_pos (h.1.symm.trans e)];exact .inl ⟨d,v,q.2.1,q.2.2,rfl,rfl,rd,h.2.2⟩
   ·rw [if_neg e,if_neg fun z=>e (h.1.trans z)];exact ih t
noncomputable def aZ (xs:List (PyData×Addr×V)) (k:PyData) (b:Addr) (v:V):Bool->List (PyData×Addr×V)
 | true=>xs.map fun x=>if x.1=k then (x.1,x.2.1,v) else x
 | false=>xs++[(k,b,v)]
theorem KN.put {k:PyData}{d:D}{b:Addr}{v:V}(ok:kOk k) (rk:RD K H ρ (toD k) (.ref b)) (rd:RD K H ρ d v) {kvs:List (PyData×D)}{xs:List (PyData×Addr×V)}(h:KN K H ρ kvs xs):KN K H ρ (Xw kvs k d) (aZ xs k b v (Gj kvs k).isSome):=by
 unfold Xw;cases (Gj kvs k).isSome with
 | false =>
  rw [if_neg (by decide)];show KN K H ρ (kvs++[(k,d)]) (xs++[(k,b,v)])
  induction h with
  | nil=>exact .cons ok rk rd .nil
  | cons a b c _ ih=>exact .cons a b c ih
 | true =>
  rw [if_pos rfl];show KN K H ρ (kvs.map fun e=>if e.1=k then (e.1,d) else e) (xs.map fun x=>if x.1=k then (x.1,x.2.1,v) else x)
  induction h with
  | nil=>exact .nil
  | @cons k' d' b' v' _ _ a b c _ ih =>
   rw [List.map_cons,List.map_cons]
   by_cases e:k'=k
   ·rw [if_pos e,if_pos e];exact .cons a b rd ih
   ·rw [if_neg e,if_neg e];exact .cons a b c ih
theorem PN.put {k:PyData}{b:Addr}{v:V}{u:Value}(rv:RelV v u) {t:Bool}{xs:List (PyData×Addr×V)}{ys:List (PyData×Addr×Value)}(h:PN xs ys) (e:t=(atKey ys k).isSome):PN (aZ xs k b v t) (storedH ys k b u):=by
 unfold storedH;rw [← e];cases t with
 | false=>rw [if_neg (by decide)];exact Paired.snoc h ⟨rfl,rfl,rv⟩
 | true =>
  rw [if_pos rfl];show PN (xs.map fun x=>if x.1=k then (x.1,x.2.1,v) else x) (ys.map (putAt k u))
  clear e
  induction h with
  | nil=>exact .nil
  | @cons p q ps qs h t ih =>
   rw [List.map_cons,List.map_cons];refine .cons ?_ ih;unfold putAt
   by_cases e:p.1=k
   ·rw [if_pos e,if_pos (h.1.symm.trans e)];exact ⟨h.1,h.2.1,rv⟩
   ·rw [if_neg e,if_neg fun z=>e (h.1.trans z)];exact h
theorem bA {xs:List (PyData×Addr×V)}{k:PyData}{b:Addr}{v:V}(t:Bool):(aZ xs k b v t).length<=xs.length+1:=by
 cases t with
 | true=>show (xs.map _).length<=_;rw [List.length_map];omega
 | false=>show (xs++[_]).length<=_;rw [List.length_append];exact Nat.le_refl _
theorem KN.length {kvs:List (PyData×D)}{xs:List (PyData×Addr×V)}(h:KN K H ρ kvs xs):xs.length=kvs.length:=by
 induction h with
 | nil=>rfl
 | cons _ _ _ _ ih=>rw [List.length_cons,List.length_cons,ih]
theorem Ev.dn {p:Addr}{o z:HO}(hp:H p=some o) (h:(∃ ys,o=.dN ys)\/∃ ys,o=.dK ys):Ev K H ρ (upd H p z) ρ:=by
 have ne:∀ {a:Addr} {u:HO},H a=some u->(∀ ys,u≠.dN ys)->(∀ ys,u≠.dK ys)->a≠p:=fun {a u} e n1 n2 q=>by
  rw [q,hp] at e;cases e;rcases h with ⟨ys,h⟩|⟨ys,h⟩
  ·exact n1 ys h
  ·exact n2 ys h
 refine ⟨fun a xs h=>?_,List.prefix_refl _,fun a xs h=>?_,fun a C dx fs h=>?_,fun a o' u' h=>?_⟩
 ·rcases h with (h|⟨ob,h⟩)|h
  ·exact .inl (.inl (by rw [Ac (ne h (fun _ z=>nomatch z) fun _ z=>nomatch z)];exact h))
  ·exact .inl (.inr ⟨ob,by rw [Ac (ne h (fun _ z=>nomatch z) fun _ z=>nomatch z)];exact h⟩)
  ·exact .inr h
 ·rcases h with ⟨ob,h⟩|h
  ·exact .inl ⟨ob,by rw [Ac (ne h (fun _ z=>nomatch z) fun _ z=>nomatch z)];exact h⟩
  ·exact .inr h
 ·rw [Ac (ne h (fun _ z=>nomatch z) fun _ z=>nomatch z)];exact h
 ·rw [Ac (ne h (fun _ z=>nomatch z) fun _ z=>nomatch z)];exact h
theorem RS.setN {mh:MH}{n:Nat}{p:Addr}{o:HO}{xs:List (PyData×Addr×V)}{kvs:List (PyData×D)}(h:RS K H ρ mh) (hn:ρ[n]?=some p) (hp:H p=some o) (ho:(∃ ys,o=.dN ys)\/∃ ys,o=.dK ys) (r:KN K H ρ kvs xs):RS K (upd H p (.dN xs)) ρ (mh.set n (.dtk kvs)):=by
 have ev:Ev K H ρ (upd H p (.dN xs)) ρ:=Ev.dn hp ho;refine ⟨by rw [List.length_set];exact h.len,h.nd,fun m a ob e1 e2=>?_⟩
 by_cases e:m=n
 ·subst e;rw [hn] at e1;cases e1;rw [List.getElem?_set_self (by rw [← h.len];exact (List.getElem?_eq_some_iff.mp hn).1)] at e2;cases e2;exact ⟨xs,Be,r.mono ev⟩
 ·rw [List.getElem?_set_ne (Ne.symm e)] at e2;refine (h.obj m a ob e1 e2).mono ev (Ac fun z=>e ?_);subst z;exact (List.getElem?_inj (List.getElem?_eq_some_iff.mp e1).1 h.nd).mp (e1.trans hn.symm)
end
noncomputable def R4 (kvs:List (Key×D)) (y:D):Option (Option D):=match Nh y with
 | some k=>some (Py kvs k)
 | none=>if kvs.isEmpty then (match kD y with | some _=>some none | none=>none) else none
theorem G5 {kvs:List (Key×D)}{y:D}{o:Option D}(h:R4 kvs y=some o):(∃ k,Nh y=some k/\o=Py kvs k)\/(kvs=[]/\∃ k,kD y=some k/\o=none):=by
 unfold R4 at h;split at h
 ·rename_i k e;cases h;exact .inl ⟨k,e,rfl⟩
 ·split at h
  ·rename_i e;split at h
   ·rename_i k ek;cases h;exact .inr ⟨List.isEmpty_iff.mp e,k,ek,rfl⟩
   ·cases h
  ·cases h
theorem Lr {P:Program}{w:World}{h:Heap}{a:Addr}(dd:h.DictOf (Az P w) a []):h.DictOfH (Ci P w) a []:=by
 obtain ⟨o,es,ep,h1,h2,h3,_,h5,_⟩:=dd;have e:es.toList=[]:=by
  cases q:es.toList with
  | nil=>rfl
  | cons x r=>rw [q] at h5;cases h5
 refine ⟨o,es,ep,h1,h2,h3,by rw [e];rfl,?_,List.nodup_nil⟩;intro x hx;cases hx
noncomputable def Eo (x:D) (mh:MH):Option (D->Option (Option D)):=match x with
 | .ref n=>(match mh[n]? with | some (.dct kvs)=>some (R4 kvs) | some (.dtk kvs)=>some (fun y=>(kD y).map (Gj kvs)) | _=>none)
 | _=>none
theorem Eh {x:D}{mh:MH}{f:D->Option (Option D)}(h:Eo x mh=some f):∃ n,x=.ref n/\((∃ kvs,mh[n]?=some (.dct kvs)/\f=R4 kvs)\/∃ kvs,mh[n]?=some (.dtk kvs)/\f=fun y=>(kD y).map (Gj kvs)):=by
 cases x with
 | ref n =>
  have h:(match mh[n]? with | some (.dct kvs)=>some (R4 kvs) | some (.dtk kvs)=>some (fun y=>(kD y).map (Gj kvs)) | _=>none)=some f:=h;split at h
  ·rename_i e;cases h;exact ⟨n,rfl,.inl ⟨_,e,rfl⟩⟩
  ·rename_i e;cases h;exact ⟨n,rfl,.inr ⟨_,e,rfl⟩⟩
  ·cases h
 | _=>cases h
theorem Xx {n:Nat}{mh:MH}{ds:List D}(h:mh[n]?=some (.lst ds)):Eo (.ref n) mh=none:=by
 unfold Eo;simp only [h]
theorem Oj {n:Nat}{mh:MH}{kvs:List (Key×D)}(h:mh[n]?=some (.dct kvs)):Eo (.ref n) mh=some (R4 kvs):=by
 unfold Eo;simp only [h]
theorem Jt {n:Nat}{mh:MH}{kvs:List (PyData×D)}(h:mh[n]?=some (.dtk kvs)):Eo (.ref n) mh=some (fun y=>(kD y).map (Gj kvs)):=by
 unfold Eo;simp only [h]
theorem Bt {K:PySem.W.Frag}{H:Hp}{ρ:List Addr}{mh:MH}{n:Nat}{v:V}{kvs:List (Key×D)}(rs:RS K H ρ mh) (r:RD K H ρ (.ref n) v) (e:mh[n]?=some (.dct kvs)):∃ a xs,v=.ref a/\H a=some (.dK xs)/\RK K H ρ kvs xs:=by
 cases r with
 | @ref _ a ha =>
  obtain ⟨a',ha',ro⟩:=rs.at e;rw [ha] at ha';cases ha';obtain ⟨xs,q,k,r⟩:=ro;exact ⟨a,xs,rfl,q,k,r⟩
theorem G6 {K:PySem.W.Frag}{H:Hp}{ρ:List Addr}{x:D}{v:V}{k:Key}(r:RD K H ρ x v) (h:Nh x=some k):v=kV k:=by
 cases r with
 | int i=>cases h;rfl
 | str x=>cases h;rfl
 | _=>cases h
noncomputable def inD (neg:Bool) (x c:D) (mh:MH):Option (D×MH):=match Eo c mh with
 | none=>Xa neg x c mh
 | some f=>match f x with
  | some o=>some (.bl (if neg then !o.isSome else o.isSome),mh)
  | none=>none
noncomputable def ixD (x y:D) (mh:MH):Option (D×MH):=match Eo x mh with
 | none=>Zt x y mh
 | some f=>match f y with
  | some (some d)=>some (d,mh)
  | _=>none
section
variable {X:Cx}
theorem Iw (hu:X.A.units+64 < cLine):X.A.units+1 < cLine:=by omega
theorem Ga (hu:X.A.units+64 < cLine):(Ci X.prog X.w).room X.A.in1:=by
 show X.A.in1.units+8 < cLine;rw [Around.in1_units];omega
theorem KN.some_eq {K:PySem.W.Frag}{H:Hp}{ρ:List Addr}(k:PyData) {kvs:List (PyData×D)}{xs:List (PyData×Addr×V)}(h:KN K H ρ kvs xs) {ys:List (PyData×Addr×Value)}(p:PN xs ys):(Gj kvs k).isSome=(atKey ys k).isSome:=by
 rcases h.val k p with ⟨d,v,b,u,e1,e2,_⟩ | ⟨e1,e2⟩ <;> rw [e1,e2] <;> rfl
theorem tB (hu:X.A.units+64 < cLine):OpR X (compareOp .In) (rD X.K (inD false)):=by
 rintro pins s σ H x y v u Q I rx ry ⟨ρ,mh,dx,dy,d,mh',q,rs,r1,r2,co⟩;unfold inD at q;split at q
 ·exact jO hu pins s σ H x y v u Q I rx ry ⟨ρ,mh,dx,dy,d,mh',q,rs,r1,r2,co⟩
 ·rename_i f ek;obtain ⟨n,rfl,⟨kvs,en,rfl⟩ | ⟨kvs,en,rfl⟩⟩:=Eh ek
  ·obtain ⟨a,xs,rfl,hd,rk⟩:=Bt rs r2 en;split at q
   ·rename_i o e;cases q;rcases G5 e with ⟨k,e',rfl⟩|⟨rfl,k,e',rfl⟩
    rotate_left
    ·obtain ⟨b,rfl,rfl,ok,rk'⟩:=Hv I rs e' r1 rx;cases ry;cases rk.inv0;obtain ⟨z,lo,vs,rel,dd⟩:=Ho I.hok hd;cases rel;exact wpAny_in_heap (Ga hu) (Eg I rs ok rk') lo (Lr dd) ⟨.bl _,H,I.tok _,rfl,co H ρ _ Ev.refl rs (.bl _)⟩
    cases G6 r1 e';cases ry;exact Aa2 (Iw hu) I (Rf.k hd) rx fun s' I'=>⟨.bl _,H,I',rfl,by rw [rk.some_eq];exact co H ρ _ Ev.refl rs (.bl _)⟩
   ·cases q
  ·obtain ⟨a,xs,ys,rfl,hn,hd,kn,z,lo,pn,dd⟩:=Iv I rs en r2;split at q
   ·rename_i o e;cases q;obtain ⟨k,e',rfl⟩:=Option.map_eq_some_iff.mp e;obtain ⟨b,rfl,rfl,ok,rk⟩:=Hv I rs e' r1 rx;cases ry;exact wpAny_in_heap (Ga hu) (Eg I rs ok rk) lo dd ⟨.bl _,H,I.tok _,rfl,by rw [← kn.some_eq k pn];exact co H ρ _ Ev.refl rs (.bl _)⟩
   ·cases q
theorem Xy (hu:X.A.units+64 < cLine):OpR X (compareOp .NotIn) (rD X.K (inD true)):=by
 rintro pins s σ H x y v u Q I rx ry ⟨ρ,mh,dx,dy,d,mh',q,rs,r1,r2,co⟩;unfold inD at q;split at q
 ·exact T6 hu pins s σ H x y v u Q I rx ry ⟨ρ,mh,dx,dy,d,mh',q,rs,r1,r2,co⟩
 ·rename_i f ek;obtain ⟨n,rfl,⟨kvs,en,rfl⟩ | ⟨kvs,en,rfl⟩⟩:=Eh ek
  ·obtain ⟨a,xs,rfl,hd,rk⟩:=Bt rs r2 en;split at q
   ·rename_i o e;cases q;rcases G5 e with ⟨k,e',rfl⟩|⟨rfl,k,e',rfl⟩
    rotate_left
    ·obtain ⟨b,rfl,rfl,ok,rk'⟩:=Hv I rs e' r1 rx;cases ry;cases rk.inv0;obtain ⟨z,lo,vs,rel,dd⟩:=Ho I.hok hd;cases rel;exact wpAny_notIn_heap (Ga hu) (Eg I rs ok rk') lo (Lr dd) ⟨.bl _,H,I.tok _,rfl,co H ρ _ Ev.refl rs (.bl _)⟩
    cases G6 r1 e';cases ry;exact jA (Iw hu) I (Rf.k hd) rx fun s' I'=>⟨.bl _,H,I',rfl,by rw [rk.some_eq];exact co H ρ _ Ev.refl rs (.bl _)⟩
   ·cases q
  ·obtain ⟨a,xs,ys,rfl,hn,hd,kn,z,lo,pn,dd⟩:=Iv I rs en r2;split at q
   ·rename_i o e;cases q;obtain ⟨k,e',rfl⟩:=Option.map_eq_some_iff.mp e;obtain ⟨b,rfl,rfl,ok,rk⟩:=Hv I rs e' r1 rx;cases ry;exact wpAny_notIn_heap (Ga hu) (Eg I rs ok rk) lo dd ⟨.bl _,H,I.tok _,rfl,by rw [← kn.some_eq k pn];exact co H ρ _ Ev.refl rs (.bl _)⟩
   ·cases q
theorem Abd (hu:X.A.units+64 < cLine):IxR X (rD X.K ixD):=by
 rintro value slice pins s σ H x y v u Q I rx ry ⟨ρ,mh,dx,dy,d,mh',q,rs,r1,r2,co⟩ hs;unfold ixD at q;split at q
 ·exact yO value slice pins s σ H x y v u Q I rx ry ⟨ρ,mh,dx,dy,d,mh',q,rs,r1,r2,co⟩ hs
 ·rename_i f ek;obtain ⟨n,rfl,⟨kvs,en,rfl⟩ | ⟨kvs,en,rfl⟩⟩:=Eh ek
  ·obtain ⟨a,xs,rfl,hd,rk⟩:=Bt rs r1 en;split at q
   ·rename_i d' e;cases q;rcases G5 e with ⟨k,e,e2⟩|⟨_,k,_,e2⟩
    rotate_left
    ·cases e2
    have e2:=e2.symm;cases G6 r2 e;cases rx;rcases rk.val k with ⟨d2,v2,g1,g2,g3⟩|⟨g1,g2⟩
    ·rw [e2] at g1;cases g1;obtain ⟨z,hn,vs,rel,dd⟩:=Ho I.hok hd;obtain ⟨w',hw,rw'⟩:=K1.some_of (v:=v2) (o:=valueAt vs k) (by rw [← g2];exact rel.val k);exact subscriptTail_builtinR (x:=w') dd.typeIs PySem.F.slot_dict_getitem.lookup (wpAny_getItem_of (K8 ry) dd.mapOf hw ⟨rfl,⟨v2,H,I.tok _,rw',co H ρ _ Ev.refl rs g3⟩⟩) hs
    ·rw [e2] at g1;cases g1
   ·cases q
  ·obtain ⟨a,xs,ys,rfl,hn,hd,kn,z,lo,pn,dd⟩:=Iv I rs en r1;split at q
   ·rename_i d' e;cases q;obtain ⟨k,e,e2⟩:=Option.map_eq_some_iff.mp e;obtain ⟨b,rfl,rfl,ok,rk⟩:=Hv I rs e r2 ry;cases rx;rcases kn.val k pn with ⟨d2,v2,b2,u2,g1,g2,g3,g4⟩|⟨g1,g2⟩
    ·rw [e2] at g1;cases g1;exact subscriptTail_builtinR (x:=u2) dd.typeIs PySem.F.slot_dict_getitem.lookup (wpAny_getItem_heap (Ga hu) (Eg I rs ok rk) dd g2 ⟨rfl,⟨v2,H,I.tok _,g4,co H ρ _ Ev.refl rs g3⟩⟩) hs
    ·rw [e2] at g1;cases g1
   ·cases q
noncomputable def Abe:Const->Option Str
 | .str x=>some x
 | _=>none
noncomputable def Abf:Expr->Option Str
 | .Constant c _ _=>Abe c
 | _=>none
noncomputable def Abg:Option Expr->Option Str
 | some e=>Abf e
 | none=>none
noncomputable def oH:List (Option Expr)->List Expr->Bool
 | [],[]=>true
 | k::ks,_::vs=>(Abg k).isSome&&oH ks vs
 | _,_=>false
end
section
variable {X:Cx}{a:Addr}{kvs:List (Str×D)}
variable {e:Expr}{es:List Expr}{x:Str}{p apos cpos:Pos}
end
section
variable {X:Cx}{pos pos':Pos}
noncomputable def newD:DM D:=fun _ mh=>some (.ref mh.length,mh++[.dct []])
theorem lH:DE X (.Dict [] [] pos) newD:=fun loc mh=>by
 refine Bg Zd ?_;rintro σ H Q ⟨ρ,d,mh',q,rl,rs,co⟩;cases q;exact fun p hp=>co _ (ρ++[p]) _ (Ev.newL hp) (rs.newD hp RK.nil) (.ref (rs.last p))
noncomputable def Hw (o i v:D) (h:MH):Option MH:=match o with
 | .ref n=>(match h[n]? with
  | some (.dct kvs)=>(match Nh i with
   | some k=>if kvs.length < 1000000 then some (h.set n (.dct (putD kvs k v))) else none
   | none=>(match kvs with
    | []=>(match kD i with | some k=>some (h.set n (.dtk [(k,v)])) | none=>none)
    | _=>none))
  | some (.dtk kvs)=>(match kD i with | some k=>if kvs.length < 1000000 then some (h.set n (.dtk (Xw kvs k v))) else none | none=>none)
  | _=>none)
 | _=>none
theorem Ls {o i v:D}{h h':MH}(q:Hw o i v h=some h'):∃ n,o=.ref n/\((∃ kvs k,h[n]?=some (.dct kvs)/\Nh i=some k/\kvs.length < 1000000/\h'=h.set n (.dct (putD kvs k v)))\/(∃ k,h[n]?=some (.dct [])/\kD i=some k/\h'=h.set n (.dtk [(k,v)]))\/∃ kvs k,h[n]?=some (.dtk kvs)/\kD i=some k/\kvs.length < 1000000/\h'=h.set n (.dtk (Xw kvs k v))):=by
 unfold Hw at q;split at q
 ·rename_i n;refine ⟨n,rfl,?_⟩;split at q
  ·rename_i kvs en;split at q
   ·rename_i k ek;split at q
    ·rename_i hz;cases q;exact .inl ⟨kvs,k,en,ek,hz,rfl⟩
    ·cases q
   ·split at q
    ·split at q
     ·rename_i k ek;cases q;exact .inr (.inl ⟨k,en,ek,rfl⟩)
     ·cases q
    ·cases q
  ·rename_i kvs en;split at q
   ·rename_i k ek;split at q
    ·rename_i hz;cases q;exact .inr (.inr ⟨kvs,k,en,ek,hz,rfl⟩)
    ·cases q
   ·cases q
  ·cases q
 ·cases q
noncomputable def bB (mv mo mi:DM D):SM:=fun loc mh=>match mv loc mh with
 | none=>none
 | some (v,h1)=>match mo loc h1 with
  | none=>none
  | some (o,h2)=>match mi loc h2 with
   | none=>none
   | some (i,h3)=>match Hw o i v h3 with
    | some h4=>some (.nx,loc,h4)
    | none=>none
theorem tE {o i value:Expr}{mv mo mi:DM D}(hu:X.A.units+64 < cLine) (ho:DE X o mo) (hi:DE X i mi) (hv:DE X value mv) (hs:swapsWith value (some (.Subscript o i pos')) pos.line X.env=pure false):DS X (.Assign [.Subscript o i pos'] value pos) (bB mv mo mi):=by
 rintro pins s σ H N I ⟨loc,mh,ρ,f,loc',mh',q,rl,rs,co⟩;unfold bB at q;split at q
 ·cases q
 rename_i v h1 ev;split at q
 ·cases q
 rename_i ov h2 eo;split at q
 ·cases q
 rename_i iv h3 ei;split at q
 ·rename_i h4 ep;cases q;refine wpAny_Assign_Subscript (thn (hv.x pins s σ H (fun v1 H1=>∃ ρ1,Ev X.K H ρ H1 ρ1/\RS X.K H1 ρ1 h1/\RD X.K H1 ρ1 v v1) I ⟨loc,mh,ρ,v,h1,ev,rl,rs,fun H1 ρ1 v1 e1 rs1 r1=>⟨ρ1,e1,rs1,r1⟩⟩) ?_) hs;rintro r s1 ⟨v1,H1,I1,rv,ρ1,e1,rs1,r1⟩;refine thn (ho.x pins s1 σ H1 (fun v2 H2=>∃ ρ2,Ev X.K H1 ρ1 H2 ρ2/\RS X.K H2 ρ2 h2/\RD X.K H2 ρ2 ov v2) I1 ⟨loc,h1,ρ1,ov,h2,eo,rl.mono e1,rs1,fun H2 ρ2 v2 e2 rs2 r2=>⟨ρ2,e2,rs2,r2⟩⟩) ?_;rintro u s2 ⟨v2,H2,I2,ru,ρ2,e2,rs2,r2⟩;refine thn (hi.x pins s2 σ H2 (fun v3 H3=>∃ ρ3,Ev X.K H2 ρ2 H3 ρ3/\RS X.K H3 ρ3 h3/\RD X.K H3 ρ3 iv v3) I2 ⟨loc,h2,ρ2,iv,h3,ei,(rl.mono e1).mono e2,rs2,fun H3 ρ3 v3 e3 rs3 r3=>⟨ρ3,e3,rs3,r3⟩⟩) ?_;rintro ui s3 ⟨v3,H3,I3,ri,ρ3,e3,rs3,r3⟩;have r2:=r2.mono e3;have rv3:=(r1.mono e2).mono e3;have rl3:=((rl.mono e1).mono e2).mono e3;have e13:=e1.trans (e2.trans e3);obtain ⟨n,rfl,⟨kvs,k,en,ek,hz,rfl⟩ | ⟨k,en,ek,rfl⟩ | ⟨kvs,k,en,ek,hz,rfl⟩⟩:=Ls ep
  ·obtain ⟨a,xs,rfl,hd,rk⟩:=Bt rs3 r2 en;cases G6 r3 ek;have hn:ρ3[n]?=some a:=by cases r2 with | ref h=>exact h
   cases (show u=Value.ref a from ru);exact W9 (Iw hu) I3 (iZ.k hd (by rw [rk.length];exact Nat.lt_of_lt_of_le hz (by decide))) ri rv fun s4 I4=>⟨σ,_,I4,co _ ρ3 σ (e13.trans (Ev.dk hd)) (rs3.setD hn hd (rk.put k rv3)) (rl3.mono (Ev.dk hd))⟩
  ·obtain ⟨a,xs,rfl,hd,rk⟩:=Bt rs3 r2 en;have hn:ρ3[n]?=some a:=by cases r2 with | ref h=>exact h
   cases (show u=Value.ref a from ru);cases rk.inv0;obtain ⟨b,rfl,rfl,ok,rkk⟩:=Hv I3 rs3 ek r3 ri;obtain ⟨z,lo,vs,rel,dd⟩:=Ho I3.hok hd;cases rel;have pn:PN [(k,b,v1)] (storedH [] k b r):=.cons ⟨rfl,rfl,rv⟩ .nil;refine wpAny_setItem_heap (hsz:=by decide) (Ga hu) (Eg I3 rs3 ok rkk) (Lr dd) fun h' dd' hs'=>?_
   obtain ⟨q,es,ep',hq,g2,g3,g4,_,g5⟩:=dd';have ho:(∃ ys,HO.dK []=.dN ys)\/∃ ys,HO.dK []=.dK ys:=.inr ⟨_,rfl⟩;exact ⟨σ,_,Fw I3 (by rw [hd];exact True.intro) hs' ⟨q,hq⟩ (ob:=.dN [(k,b,v1)]) ⟨(by decide:1<=sizeLine),lo,_,pn,q,es,ep',hq,g2,g3,g4,g5⟩,co _ ρ3 σ (e13.trans (Ev.dn hd ho)) (rs3.setN hn hd ho (.cons ok rkk rv3 .nil)) (rl3.mono (Ev.dn hd ho))⟩
  ·obtain ⟨a,xs,ys,rfl,hn,hd,kn,z,lo,pn,dd⟩:=Iv I3 rs3 en r2;cases (show u=Value.ref a from ru);obtain ⟨b,rfl,rfl,ok,rkk⟩:=Hv I3 rs3 ek r3 ri;have hz':xs.length < 1000000:=by rw [kn.length];exact hz
   have hl:(aZ xs k b v1 (Gj kvs k).isSome).length<=sizeLine:=Nat.le_trans (bA _) (Nat.le_trans hz' (by decide));refine wpAny_setItem_heap (hsz:=by rw [← Paired.length pn];exact z) (Ga hu) (Eg I3 rs3 ok rkk) dd fun h' dd' hs'=>?_
   obtain ⟨q,es,ep',hq,g2,g3,g4,_,g5⟩:=dd';have ho:(∃ zs,HO.dN xs=.dN zs)\/∃ zs,HO.dN xs=.dK zs:=.inl ⟨_,rfl⟩;exact ⟨σ,_,Fw I3 (by rw [hd];exact True.intro) hs' ⟨q,hq⟩ (ob:=.dN (aZ xs k b v1 (Gj kvs k).isSome)) ⟨hl,lo,_,PN.put rv pn (kn.some_eq k pn),q,es,ep',hq,g2,g3,g4,g5⟩,co _ ρ3 σ (e13.trans (Ev.dn hd ho)) (rs3.setN hn hd ho (kn.put ok rkk rv3)) (rl3.mono (Ev.dn hd ho))⟩
 ·cases q
noncomputable def orS (m1 m2:SM):SM:=fun loc mh=>match m1 loc mh with
 | some r=>some r
 | none=>m2 loc mh
theorem yW {st:Stmt}{m1 m2:SM}(h1:DS X st m1) (h2:DS X st m2):DS X st (orS m1 m2):=by
 rintro pins s σ H N I ⟨loc,mh,ρ,f,loc',mh',q,rest⟩;unfold orS at q;split at q
 ·rename_i e;cases q;exact h1 pins s σ H N I ⟨loc,mh,ρ,f,loc',mh',e,rest⟩
 ·exact h2 pins s σ H N I ⟨loc,mh,ρ,f,loc',mh',q,rest⟩
noncomputable def Ju (o i v:D) (h:MH):Option MH:=match Fb o i v h with
 | some h'=>some h'
 | none=>Hw o i v h
noncomputable def Cj (mo mi:DM D):GM:=fun v loc mh=>match mo loc mh with
 | some (o,m1)=>match mi loc m1 with
  | some (i,m2)=>match Ju o i v m2 with
   | some m3=>some (loc,m3)
   | none=>none
  | none=>none
 | none=>none
theorem bC {mv mo mi:DM D}{loc:DL.Loc}{mh:MH}{r:Fl×DL.Loc×MH}(q:Ah mv (Cj mo mi) loc mh=some r):orS (Ah mv (Rr mo mi)) (bB mv mo mi) loc mh=some r:=by
 unfold Ah Cj Ju at q;unfold orS Ah Rr bB;cases ev:mv loc mh with
 | none=>rw [ev] at q;cases q
 | some a =>
  obtain ⟨v,h1⟩:=a;rw [ev] at q;dsimp only at q ⊢;cases eo:mo loc h1 with
  | none=>rw [eo] at q;cases q
  | some b =>
   obtain ⟨o,h2⟩:=b;rw [eo] at q;dsimp only at q ⊢;cases ei:mi loc h2 with
   | none=>rw [ei] at q;cases q
   | some c =>
    obtain ⟨i,h3⟩:=c;rw [ei] at q;dsimp only at q ⊢;cases es:Fb o i v h3 with
    | some h4=>rw [es] at q;exact q
    | none =>
     rw [es] at q;dsimp only at q ⊢;cases ep:Hw o i v h3 with
     | some h4=>rw [ep] at q;exact q
     | none=>rw [ep] at q;cases q
theorem lJ {st:Stmt}{mv mo mi:DM D}(h1:DS X st (Ah mv (Rr mo mi))) (h2:DS X st (bB mv mo mi)):DS X st (Ah mv (Cj mo mi)):=by
 rintro pins s σ H N I ⟨loc,mh,ρ,f,loc',mh',q,rest⟩;exact yW h1 h2 pins s σ H N I ⟨loc,mh,ρ,f,loc',mh',bC q,rest⟩
end
section
variable {X:Cx}
end
noncomputable abbrev yX:=CloI->List D->List D->MH->Option (D×MH)
noncomputable def spC (K:PySem.W.Frag) (a:Addr) (I:CloI) (fd:FuncData) (cl:List (Str×Addr)) (g:List D->List D->MH->Option (D×MH)):Sp:=fun vs H Q _=>vs.length=I.ps.length/\(∃ o u,H a=some (.frz o u)/\o.data=.func fd)/\Ri H fd.code fd.qualname/\cl.map (·.1)=I.fr/\(cl.map (·.2)).Nodup /\
 ∃ xs,Fx H (cl.map (·.2)) xs/\∃ ρ mh fs ds d mh',g fs ds mh=some (d,mh')/\RS K H ρ mh/\RDs K H ρ fs xs/\RDs K H ρ ds vs/\∀ H' ρ' v,Ev K H ρ H' ρ'->RS K H' ρ' mh'->RD K H' ρ' d v->Q v H'
noncomputable def oJ (P:Program) (w:World) (K:PySem.W.Frag) (mg:Str->Option Value) (base:Heap) (k:Nat) (clo:yX):Prop:=(∀ I a fd cl,CloSc I->oF I fd cl->FnOk P w K mg base CX0 k a fd I.ps (spC K a I fd cl (clo I)))/\∀ I fs ds mh r,clo I fs ds mh=some r->ds.length=I.ps.length
theorem R5 {P:Program}{w:World}{K:PySem.W.Frag}{mg:Str->Option Value}{base:Heap}{k:Nat}:oJ P w K mg base k (fun _ _ _ _=>none) :=
 ⟨fun I a fd cl _ _=>⟨fun vs H Q E h=>h.1,fun A outer s H args us vs Q E _ _ _ _ h=>by
  obtain ⟨_,_,_,_,_,_,_,_,_,_,_,_,_,q,_⟩:=h
  cases q⟩,fun I fs ds mh r h=>by cases h⟩
section
variable {X:Cx}
end
section
variable {X:Cx}
noncomputable def Ol (g:D->D->MH->Option (D×MH)):D->D->MH->Option (D×MH):=fun x y mh=>match aW x mh with
 | some ds=>(match y with
  | .int k=>if (-(2 ^ 62)<=k/\k < 2 ^ 62)/\ds.length * k.toNat<=1000000 then some (.ref mh.length,mh++[.lst (List.replicate k.toNat ds).flatten]) else none
  | _=>none)
 | none=>g x y mh
theorem bD {g:D->D->MH->Option (D×MH)}(h:OpR X (binaryOp .Mult) (rD X.K g)):OpR X (binaryOp .Mult) (rD X.K (Ol g)):=by
 rintro pins s σ H x y v u Q I rx ry ⟨ρ,mh,dx,dy,d,mh',q,rs,r1,r2,co⟩;unfold Ol at q;split at q
 ·rename_i ds e;obtain ⟨n,rfl,en⟩:=Uj e;split at q
  ·rename_i k;split at q
   ·rename_i hk;cases q;cases r2;cases r1 with
    | @ref _ a ha =>
     obtain ⟨a',ha',xs,hl,rr⟩:=rs.at en;rw [ha] at ha';cases ha';refine rB pins s σ H _ _ v u Q I rx ry ⟨a,k,xs,rfl,rfl,hl,by omega,by omega,by rw [← rr.length,sizeLine_eq];omega,Co.newL rs (rr.rep _) co⟩
   ·cases q
  ·cases q
 ·exact h pins s σ H x y v u Q I rx ry ⟨ρ,mh,dx,dy,d,mh',q,rs,r1,r2,co⟩
end
theorem Um {prog:Program}{w:World}{d:Addr}(hd:(d==sysModules)=false) :
  MeetsIn prog w (Builtin.«dict.__len__» ⟨[.ref d],[]⟩) (fun _ R s=>∃ o es ep,s.heap.get? d=some o/\o.data=.dict es ep/\R (.ok (.ret (.int es.size s.toks))) { s with toks:=s.toks+1 }) :=
 .of_wp fun A R s ⟨o,es,ep,ho,hdat,h⟩=>by
  show wpAny _ _ (dictSize d >>= _) _ _ s;unfold dictSize;refine wpAny_bind (wpAny_bind (wpAny_dictEntries ho hdat (wpAny_pure ?_)));show wpAny _ _ (Builtin.Dict.pendingCount d >>= _) _ _ s;refine wpAny_bind (wpAny_pendingCount_other hd ?_);refine wpAny_ret_mkInt ?_;rw [Nat.add_zero];exact h
theorem Xz {prog:Program}{w:World}{A:Around}{E:Value->Shared->Prop}{s:Shared}{d:Addr}{o:Obj}{es ep}{Q:Value->Shared->Prop}(hd:(d==sysModules)=false) (ho:s.heap.get? d=some o) (hc:o.cls=.type "dict") (hdat:o.data=.dict es ep) (hfit:(es.size:Int) < 2 ^ 63)
  (h:Q (.int es.size (s.toks+1)) { s with toks:=s.toks+1+1 }):wpAny (model prog w) A (call (.builtin "len") [.ref d]) Q E s:=by
 refine Calls.call_function_entry kind_len plain_len entry_len (args_len1 _) ?_
 have hT:s.TypeIs (.ref d) "dict":=⟨o,ho,hc⟩
 unfold Builtin.«len»
 refine wpAny_bind (m:=oneArg "len" _) (wpAny_pure ?_)
 refine wpAny_bind (m:=callSpecial? (.ref d) (Str.ofString "__len__")) (wpAny_callSpecial?_slot (name:=Str.ofString "__len__") hT F.slot_dict_len
  (call_meetsIn F.slot_dict_len hT F.entry_dict_len (F.args_dict_len_1 _) (Um hd) ⟨o,es,ep,ho,hdat,?_⟩))
 show wpAny _ _ _ _ _ { s with toks:=s.toks+1 };refine wpAny_bind (wpAny_holding (wpAny_pure ?_));refine wpAny_bind (wpAny_letGo ?_);show wpAny _ _ (if ((es.size:Nat):Int) < 0 then _ else _) _ _ _;rw [if_neg (by omega)];show wpAny _ _ (if ((es.size:Nat):Int) ≥ 2 ^ 63 then _ else _) _ _ _;rw [if_neg (by omega)];exact wpAny_bind (wpAny_mkInt (wpAny_pure ⟨_,rfl,h⟩))
noncomputable def Es (ds:List D) (mh:MH):Option (D×MH):=match ds with
 | [.ref n]=>(match mh[n]? with
  | some (.dct kvs)=>some (.int kvs.length,mh)
  | some (.dtk kvs)=>some (.int kvs.length,mh)
  | _=>N8 [.ref n] mh)
 | _=>N8 ds mh
section
variable {X:Cx}
theorem X3:Bs X (.builtin "len") (rDs X.K Es):=by
 rintro pins s σ H xs us Q I rv ⟨ρ,mh,ds,d,mh',q,rs,r,co⟩;unfold Es at q;split at q
 ·rename_i n;obtain ⟨v,rfl,rx⟩:=Lf r;obtain ⟨u,rfl,ru⟩:∃ u,us=[u]/\RelV v u:=by cases rv with | cons h t=>cases t;exact ⟨_,rfl,h⟩
  split at q
  ·rename_i kvs en;cases q;obtain ⟨a,xs,rfl,hd,rk⟩:=Bt rs rx en;cases (show u=Value.ref a from ru);exact yE I (.of hd) fun t s' I'=>⟨.int _,H,I',⟨_,rfl⟩,by rw [rk.length];exact co H ρ _ Ev.refl rs (.int _)⟩
  ·rename_i kvs en;cases q;obtain ⟨a,xs,ys,rfl,hn,hd,kn,z,lo,pn,o,es,ep,h1,h2,h3,h4,_⟩:=Iv I rs en rx;cases (show u=Value.ref a from ru);have hl:es.size=kvs.length:=by rw [← kn.length,Paired.length pn,← List.length_map (f:=entryOfKey (Ci X.prog X.w)),← h4];simp
   have hf:(es.size:Int) < 2 ^ 63:=by
    rw [hl,← kn.length];rw [sizeLine_eq] at z;omega
   exact Xz lo h1 h2.1 h3 hf ⟨.int _,H,(I.tok _),⟨_,rfl⟩,by rw [hl];exact co H ρ _ Ev.refl rs (.int _)⟩
  ·exact Lg pins s σ H _ _ Q I rv ⟨ρ,mh,_,d,mh',q,rs,r,co⟩
 ·exact Lg pins s σ H _ _ Q I rv ⟨ρ,mh,_,d,mh',q,rs,r,co⟩
end
noncomputable def Om:List (Key×D)->Option (List Int)
 | []=>some []
 | (.inl n,_)::r=>(match Om r with | some ns=>some (n::ns) | none=>none)
 | (.inr _,_)::_=>none
theorem Lx:∀ {kvs:List (Key×D)}{ns:List Int},Om kvs=some ns->kvs.map (·.1)=ns.map Sum.inl
 | [],_,h=>by cases h;rfl
 | (.inl n,_)::r,ns,h=>by
  simp only [Om] at h;split at h
  ·rename_i ms e;cases h;rw [List.map_cons,List.map_cons,Lx e]
  ·cases h
 | (.inr _,_)::_,_,h=>by cases h
noncomputable def Iz (ds:List D) (mh:MH):Option (D×MH):=match ds with
 | [.ref n]=>(match mh[n]? with
  | some (.dct kvs)=>(match Om kvs with
   | some ns=>if ns.length < 64 then some (.ref mh.length,mh++[.lst ((sortI ns).map D.int)]) else none
   | none=>none)
  | _=>none)
 | _=>none
section
open PySem.W
variable {prog:Program}{w:World}{A:Around}{E:Value->Shared->Prop}{s:Shared}{T:String}{a d:Addr}{n:Nat}{P:Nat->Value->Prop}{OK:Heap->Prop}
theorem Kc {R:List Value->Shared->Prop}(K:KdlSrc prog w T a d n P OK) (hh:A.handled=none) (hok:OK s.heap) (hn:n<=sizeLine)
  (hQ:∀ (h':Heap) (tk:Nat) (acc:Array Value),(∀ b ob,s.heap.get? b=some ob->h'.get? b=some ob)->s.heap.objs.size<=h'.objs.size->ItemsOf P acc n->R acc.toList { s with heap:=h',toks:=tk }) :
  wpAny (model prog w) A (collect (.ref a)) R E s:=by
 have la:=K.there _ hok;unfold collect;refine wpAny_bind (wpAny_runValue (codeAny_builtin F.entry_proto_collect ?_));rw [Around.under_plainId F.plain_proto_collect _];refine wpAny_bind (m:=newList []) (wpAny_newObj_type (wpAny_pure ⟨plainId_quiet F.plain_list_iadd _,codeAny_builtin F.entry_list_iadd ?_⟩));rw [Around.under_plainId F.plain_list_iadd _];show wpAny _ A.in1 (Builtin.List.listExtendWith (.ref s.heap.objs.size) (.ref a) (.ref s.heap.objs.size)) _ _ _
 refine wpAny_mono (kdl_extend (A:=A) (s:={ s with heap:=s.heap.push { cls:=.type "list",data:=.seq ([]:List Value).toArray } })
  (R:=fun (q:Result) (s':Shared)=>q=.ok (.ret (.ref s.heap.objs.size))/\∃ (h':Heap) (tk:Nat) (acc:Array Value) (c:Nat),s'={ s with heap:=h',toks:=tk } /\
   (∀ b ob,s.heap.get? b=some ob->h'.get? b=some ob)/\h'.get? s.heap.objs.size=some { cls:=.type "list",dict:=none,data:=.seq acc c,slots:=#[] }/\ItemsOf P acc n)
  K hh (K.keep _ _ hok fun b _ o e=>Heap.get?_push_of_some _ e) s.heap.objs.size (Nat.ne_of_gt la.1) (Nat.ne_of_gt la.2) (.ref s.heap.objs.size) 0 (Heap.get?_push_size _ rfl)
  (fun h' tk acc c k e i=>⟨rfl,h',tk,acc,c,rfl,fun b o q=>k b o (Nat.ne_of_lt (Heap.lt_size q)) (Heap.get?_push_of_some _ q),e,i⟩) hn) (fun fin s' x=>?_) (fun e s' x=>nomatch x.1)
 cases fin with
 | done f =>
  obtain ⟨e,h',tk,acc,c,rfl,k,e',i⟩:=x;cases e;exact wpAny_bind (wpAny_load e' (wpAny_pure (hQ h' tk acc k (Nat.le_of_lt (Heap.lt_size e')) i)))
 | again c₁ =>
  refine ⟨x.1,codeAny_mono x.2 ?_⟩;rintro q s₂ ⟨rfl,h',tk,acc,c,rfl,k,e',i⟩;exact wpAny_bind (wpAny_load e' (wpAny_pure (hQ h' tk acc k (Nat.le_of_lt (Heap.lt_size e')) i)))
end
theorem Ly {P:Program}{w:World}{m:Int}{u:Value}(h:(Az P w).is (.inl m) u=true):∃ t,u=Value.int m t:=by
 rw [Tg] at h;rcases Bc h with ⟨i,t,e,rfl⟩|⟨x,t,e,rfl⟩
 ·cases e;exact ⟨t,rfl⟩
 ·cases e
section
variable {X:Cx}
theorem P0 (hc:X.calm=true):Bs X (.builtin "sorted") (rDs X.K Iz):=by
 rintro pins s σ H xs us Q I rv ⟨ρ,mh,ds,d,mh',q,rs,r,co⟩;unfold Iz at q;split at q
 ·rename_i n;obtain ⟨v,rfl,rx⟩:=Lf r;obtain ⟨u,rfl,ru⟩:∃ u,us=[u]/\RelV v u:=by cases rv with | cons h t=>cases t;exact ⟨_,rfl,h⟩
  split at q
  ·rename_i kvs en;split at q
   ·rename_i ns ek;split at q
    ·rename_i h64;cases q;obtain ⟨a,xs,rfl,hd,rk⟩:=Bt rs rx en;cases (show u=Value.ref a from ru);obtain ⟨z,lo,vs,rel,dd⟩:=Ho I.hok hd;have ekv:vs.map (·.1)=ns.map Sum.inl:=by rw [← rel.keys,rk.1,Lx ek]
     have lv:vs.length=ns.length:=by have:=congrArg List.length ekv;simpa using this
     obtain ⟨ep,hat⟩:=dd.dictAt;refine Calls.call_function_entry kind_sorted plain_sorted entry_sorted (args_sorted1 _) ?_;unfold Builtin.«sorted»
     refine wpAny_bind (m:=checkCount "sorted" 1 1 _) (wpAny_pure (wpAny_bind (Kc (PySem.W.kdl_dict (knd:=Az X.prog X.w) (kvs:=vs) (ep:=ep) lo) (by simp [I.ok.hd hc]) hat (by rw [← rel.length];exact z) fun h' tk acc hk len hacc=>?_)));obtain ⟨ha,hv⟩:=hacc;have ia:IntsAre acc.toList ns:=by
      have:Vals (ns.map V.int) acc.toList:=by
       have key:∀ (l:List Value) (ms:List Int),l.length=ms.length->(∀ (j:Nat) (w:Value),l[j]?=some w->∃ m t,ms[j]?=some m/\w=Value.int m t)->Vals (ms.map V.int) l:=by
        intro l
        induction l with
        | nil=>intro ms hl _;cases ms with
         | nil=>exact .nil
         | cons _ _=>cases hl
        | cons w l ih =>
         intro ms hl h;cases ms with
         | nil=>cases hl
         | cons m ms =>
          obtain ⟨m',t,e1,e2⟩:=h 0 w rfl;cases e1;exact .cons ⟨t,e2⟩ (ih ms (by simpa using hl) fun j w' e=>h (j+1) w' e)
       refine key _ _ (by rw [Array.length_toList,ha,lv]) fun j w e=>?_
       obtain ⟨k,x,e1,e2⟩:=hv j w (by rw [← Array.getElem?_toList];exact e);have e3:(vs.map (·.1))[j]?=some k:=by rw [List.getElem?_map,e1];rfl
       rw [ekv,List.getElem?_map] at e3;obtain ⟨m,e4,rfl⟩:=Option.map_eq_some_iff.mp e3;obtain ⟨t,e5⟩:∃ t,w=Value.int m t:=Ly e2;exact ⟨m,t,e4,e5⟩
      exact Jr this
     have hl:acc.toList.length=ns.length:=by rw [Array.length_toList,ha,lv]
     refine wpAny_bind (wpAny_newList ?_);refine wpAny_bind (wpAny_holding (wpAny_call_entry slot_list_sort ⟨_,Heap.get?_push_size _ rfl,rfl⟩ entry_list_sort (list_sort_tree (vs:=acc.toList) (ns:=ns) (n:=0) (Heap.get?_push_size _ rfl) ia (by rw [hl];exact h64) fun out ns' a1 a2 a3=>⟨_,rfl,?_⟩) (args_list_sort _)));have es':ns'=sortI ns:=aF a2 a3;subst es'
     obtain ⟨c,at'⟩:=sortedHeap_at (h:=h'.push (seqObj "list" acc.toList.toArray 0)) (a:=h'.objs.size) (vs:=acc.toList) (n:=0) (out:=out) (Heap.get?_push_size _ rfl);refine wpAny_pure ⟨_,rfl,.ref h'.objs.size,_,I.laid (t':=tk) (a:=h'.objs.size) (o:=.lst ((sortI ns).map V.int)) (fun b ob q=>?_) len ⟨?_,out.toList,c,Ey a1,?_⟩,rfl,Co.newL rs (Lj (sortI ns)) co _ (I.hok.fresh len)⟩
     ·have lb:b < h'.objs.size:=Heap.lt_size (hk b ob q);rw [sortedHeap_old (Nat.ne_of_lt lb) (by rw [size_push'];exact Nat.lt_succ_of_lt lb)];exact Heap.get?_push_of_some _ (hk b ob q)
     ·rw [List.length_map,(sortI_perm ns).length_eq,sizeLine_eq];omega
     ·rw [at']
    ·cases q
   ·cases q
  ·cases q
 ·cases q
end
end DL
namespace DL
open PySem PySem.Spec PyProof.Rows L2 PySem.W
noncomputable def Dt (h:Heap) (d:Addr) (es:Array DictEntry) (ep:Nat):Prop:=∃ o,h.get? d=some o/\o.ExactDict/\o.data=.dict es ep
theorem Dt.keep {h h':Heap}{d:Addr}{es:Array DictEntry}{ep:Nat}(x:Dt h d es ep) (k:∀ o,h.get? d=some o->h'.get? d=some o):Dt h' d es ep:=let ⟨o,e,r⟩:=x;⟨o,k o e,r⟩
theorem Dt.lt {h:Heap}{d:Addr}{es:Array DictEntry}{ep:Nat}(x:Dt h d es ep):d < h.objs.size:=let ⟨_,e,_⟩:=x;Heap.lt_size e
theorem Dt.typeIs {s:Shared}{d:Addr}{es:Array DictEntry}{ep:Nat}(x:Dt s.heap d es ep):s.TypeIs (.ref d) "dict":=let ⟨o,e,c,_⟩:=x;⟨o,e,c.1⟩
section
variable {prog:Program}{w:World}{A:Around}{E:Value->Shared->Prop}{s:Shared}{d it:Addr}{es:Array DictEntry}{ep i:Nat}
theorem bF {Q:Value->Shared->Prop}(lo:(d==sysModules)=false) (hm:Dt s.heap d es ep)
  (hQ:Q (.ref s.heap.objs.size) { s with heap:=s.heap.push { cls:=.type "dict_keyiterator",data:=.fields #[.ref d,.int 0 0,.int es.size 0,.int ep 0] } }) :
  wpAny (model prog w) A (pyIter (.ref d)) Q E s:=by
 obtain ⟨o,ho,hc,hdat⟩:=id hm;have hT:=hm.typeIs;refine wpAny_pyIter_slot hT F.slot_dict_iter (wpAny_call_entry F.slot_dict_iter hT F.entry_dict_iter ?_ (F.args_dict_iter_1 _));unfold Builtin.«dict.__iter__» Builtin.Dict.dictSlotNone;refine wpAny_bind (wpAny_bind (wpAny_notOrdered_dict hT ?_));refine (wpAny_pure ?_:wpAny _ _ (pure (Value.ref d)) _ _ s);show wpAny _ _ (Builtin.Dict.showsAll d >>= _) _ _ s;unfold Builtin.Dict.showsAll;rw [if_neg (by rw [lo];exact Bool.false_ne_true)]
 exact wpAny_bind (wpAny_pure (wpAny_bind (wpAny_dictEntries ho hdat (wpAny_bind (wpAny_dictEpoch ho hdat (wpAny_bind (wpAny_newObj_type (wpAny_pure ⟨_,rfl, "dict_keyiterator",_,⟨_,Heap.get?_push_size _ rfl,rfl⟩,F.slot_dict_keyiterator_next.lookup,hQ⟩))))))))
theorem bG {Q:Option Value->Shared->Prop}(hit:s.heap.IsKeyIter it d i es.size ep) (hm:Dt s.heap d es ep) (hx:i < es.size)
  (hQ:∀ h',h'.IsKeyIter it d (i+1) es.size ep->Heap.SameBut it s.heap h'->Q (some es[i].key) { s with heap:=h' }):wpAny (model prog w) A (pyNext (.ref it)) Q E s:=by
 obtain ⟨o,ho,hc,hd⟩:=id hit;obtain ⟨od,hod,hcd,hdd⟩:=id hm;have ht:=hit.typeIs;unfold pyNext
 refine wpAny_bind (wpAny_attempt (wpAny_callSpecial?_slot (name:=Str.ofString "__next__") ht F.slot_dict_keyiterator_next (wpAny_call_entry F.slot_dict_keyiterator_next ht F.entry_dict_keyiterator_next ?_ (F.args_dict_keyiterator_next_1 _))));refine wpAny_bind (wpAny_pure (wpAny_bind (wpAny_bind ?_)));refine wpAny_bind (wpAny_typeNameOfWhole_keyiter ht (wpAny_pure (wpAny_bind (wpAny_fieldsOf ho hd ?_))))
 simp only [show Builtin.Dict_items.ownsTuple "dict_keyiterator"=false by decide,Bool.false_eq_true,if_false];show wpAny _ _ (if (Value.ref d==Value.none)=true then _ else _) _ _ s;rw [if_neg (show ¬ ((Value.ref d==Value.none)=true) from Bool.false_ne_true)];refine wpAny_bind (wpAny_pure (wpAny_bind (wpAny_dictEntries hod hdd ?_)));rw [if_neg (by simp)];refine wpAny_bind (wpAny_pure (wpAny_bind (wpAny_dictEpoch hod hdd ?_)));rw [if_neg (by simp)];refine wpAny_pure ?_;simp only [show ¬ ((i:Int) < 0) from by omega,if_false,Int.toNat_natCast,Array.getElem?_eq_getElem hx];refine wpAny_bind (wpAny_bind (wpAny_typeNameOfWhole_keyiter ht (wpAny_pure (wpAny_bind (wpAny_isOneOf_keyiter ht ?_)))));show wpAny _ _ (setField (.ref it) 1 (rawInt ((i:Int)+1)) >>= _) _ _ s;refine wpAny_bind (wpAny_setField ho hd (by simp) ?_);have hit':(s.heap.update it (Obj.mapFields (·.setIfInBounds 1 (rawInt ((i:Int)+1))))).IsKeyIter it d (i+1) es.size ep :=
  ⟨_,Heap.get?_update_self _ ho (Obj.isFreed_of_fields (Obj.data_mapFields hd _)),(Obj.cls_mapFields ..).trans hc,by rw [Obj.data_mapFields hd];simp [rawInt]⟩
 refine wpAny_bind (wpAny_holding (wpAny_bind (wpAny_isOneOf_keyiter (s:={ s with heap:=s.heap.update it (Obj.mapFields (·.setIfInBounds 1 (rawInt ((i:Int)+1)))) }) hit'.typeIs ?_)));show wpAny _ _ (pure es[i].key) _ _ _;exact wpAny_pure (wpAny_pure ⟨_,rfl,wpAny_pure (hQ _ hit' (Heap.SameBut.update ..))⟩)
theorem lK {Q:Option Value->Shared->Prop}(hh:A.handled=none) (hit:s.heap.IsKeyIter it d es.size es.size ep) (hm:Dt s.heap d es ep)
  (hQ:∀ h',Heap.ExtBut it s.heap h'->Q none { s with heap:=h' }):wpAny (model prog w) A (pyNext (.ref it)) Q E s:=by
 obtain ⟨o,ho,hc,hd⟩:=id hit;obtain ⟨od,hod,hcd,hdd⟩:=id hm;have ht:=hit.typeIs;unfold pyNext
 refine wpAny_bind (wpAny_attempt (wpAny_callSpecial?_slot (name:=Str.ofString "__next__") ht F.slot_dict_keyiterator_next (wpAny_call_entry F.slot_dict_keyiterator_next ht F.entry_dict_keyiterator_next ?_ (F.args_dict_keyiterator_next_1 _))));refine wpAny_bind (wpAny_pure (wpAny_bind (wpAny_bind ?_)));refine wpAny_bind (wpAny_typeNameOfWhole_keyiter ht (wpAny_pure (wpAny_bind (wpAny_fieldsOf ho hd ?_))))
 simp only [show Builtin.Dict_items.ownsTuple "dict_keyiterator"=false by decide,Bool.false_eq_true,if_false];show wpAny _ _ (if (Value.ref d==Value.none)=true then _ else _) _ _ s;rw [if_neg (show ¬ ((Value.ref d==Value.none)=true) from Bool.false_ne_true)];refine wpAny_bind (wpAny_pure (wpAny_bind (wpAny_dictEntries hod hdd ?_)));rw [if_neg (by simp)];refine wpAny_bind (wpAny_pure (wpAny_bind (wpAny_dictEpoch hod hdd ?_)));rw [if_neg (by simp)];refine wpAny_pure ?_;simp only [show ¬ ((es.size:Int) < 0) from by omega,if_false,Int.toNat_natCast,Array.getElem?_eq_none (Nat.le_refl es.size)];refine wpAny_bind (wpAny_bind (wpAny_typeNameOfWhole_keyiter ht (wpAny_pure ?_)));show wpAny _ _ (setField (.ref it) 0 .none >>= _) _ _ s;refine wpAny_bind (wpAny_setField ho hd (by simp) ?_)
 show wpAny _ _ (newExc (.type "StopIteration") [] >>= _) _ _ _;simp only [newExc,newTuple];refine wpAny_bind (wpAny_bind (wpAny_newObj_type ?_ (by size_fits)));refine wpAny_bind (m:=firstArgMember _ _) (wpAny_of_eq (a:=Value.none) (by first | rfl | (simp only [firstArgMember];rfl)) ?_);refine wpAny_newObj_type ?_ (by size_fits);simp only [raiseNew];refine wpAny_bind (wpAny_handled ?_);rw [show A.in1.handled=none from hh];refine wpAny_bind (wpAny_pure (wpAny_throw ?_))
 refine wpAny_bind (wpAny_isInstance (T := "StopIteration") (b:=true) ⟨_,Heap.get?_push_size _ rfl,rfl⟩ isSubtype_stop ?_);exact wpAny_pure (hQ _ (((Heap.SameBut.update ..).extBut.push _).push _))
theorem lM (lo:(d==sysModules)=false):KdlSrc prog w "dict" d d es.size (fun i v=>∃ e,es[i]?=some e/\v=e.key) (fun h=>Dt h d es ep) where
 type:=fun _ hm=>hm.typeIs
 there:=fun _ hm=>⟨hm.lt,hm.lt⟩
 keep:=fun _ _ hm hk=>hm.keep fun o e=>hk d (.inl rfl) o e
 notList:=by decide
 notTuple:=by decide
 hint:=fun _ _ _ _ hm hq=>kdl_hint_dict hm.typeIs hq
 iter:=fun A s hh hm=>⟨_,fun i h=>h.IsKeyIter s.heap.objs.size d i es.size ep/\Dt h d es ep,(fun _ _ hq=>bF lo hm hq),{
  sub:=fun b hb=>by simp at hb;simp [hb]
  frame:=fun _ _ _ st hk=>⟨st.1.at fun o e=>hk _ (by simp) o e,st.2.keep fun o e=>hk d (by simp) o e⟩
  item:=fun i s' Q E hi st hQ=>bG st.1 st.2 hi fun h' h1 h2=>hQ _ h' s'.toks ⟨_,Array.getElem?_eq_getElem hi,rfl⟩ ⟨h1,st.2.keep fun o e=>h2.extBut _ o (Nat.ne_of_lt hm.lt) e⟩ fun b o hb e=>h2.extBut b o (fun z=>hb (by simp [z])) e
  done:=fun s' Q E st hQ=>lK hh st.1 st.2 fun h' he=>hQ h' s'.toks fun b o hb e=>he b o (fun z=>hb (by simp [z])) e
  self:=fun _ _ _ _ st hQ=>wpAny_pyIter_keyiter st.1 hQ },⟨⟨_,Heap.get?_push_size _ rfl,rfl,rfl⟩,hm.keep fun o e=>Heap.get?_push_of_some _ e⟩⟩
end
noncomputable def Ei (ks:List (List Int)):List (List Int):=(Lp (ks.map fun l=>(("":Str),l))).map (·.2)
theorem Abh (a b:List Int):Ef (("":Str),a) (("":Str),b)=Ed a b:=if_pos rfl
theorem Ib (ks:List (List Int)):(Ei ks).Perm ks:=by
 have:=(Ia (ks.map fun l=>(("":Str),l))).map (·.2)
 rwa [List.map_map,show ((fun x:TX=>x.2) ∘ fun l=>(("":Str),l))=id from rfl,List.map_id] at this
theorem R6 {ks l:List (List Int)}(nd:ks.Nodup) (p:l.Perm ks) (h:l.Pairwise fun a b=>Ed a b=true):l=Ei ks:=by
 have nd':(ks.map fun l=>(("":Str),l)).Nodup:=List.Pairwise.map _ (fun a b (h:a≠b) e=>h (congrArg Prod.snd e)) nd;have:=aH nd' (p.map _) (List.pairwise_map.mpr (h.imp fun {a b} q=>(Abh a b).trans q));unfold Ei
 rw [← this,List.map_map,show ((fun x:TX=>x.2) ∘ fun l=>(("":Str),l))=id from rfl,List.map_id]
theorem Vy {h h':Heap}(kp:∀ b o,o.cls=.type "tuple"->h.get? b=some o->h'.get? b=some o) {v:Value}{k:List Int}(q:TI h v k):TI h' v k :=
 let ⟨a,o,its,n,e1,e2,e3,e4⟩:=q;⟨a,o,its,n,e1,kp a o e3 e2,e3,e4⟩
section
variable {prog:Program}{w:World}{A:Around}{E:Value->Shared->Prop}{s:Shared}
theorem Lz {h:Heap}:∀ {vs:List Value}{ks:List (List Int)},vs.length=ks.length->(∀ k∈ks,k≠[])->(∀ (i:Nat) (v:Value) (k:List Int),vs[i]?=some v->ks[i]?=some k->TI h v k)->∃ fs,KatTups h vs fs/\fs.length=vs.length/\∀ v∈fs,∃ x t,v=Value.int x t
 | [],[],_,_,_=>⟨[],KatTups.nil,rfl,fun v hv=>by cases hv⟩
 | [],_::_,e,_,_=>by cases e
 | _::_,[],e,_,_=>by cases e
 | v::vs,k::ks,e,hn,hv=>by
  obtain ⟨fs,a1,a2,a3⟩:=Lz (vs:=vs) (ks:=ks) (by simpa using e) (fun k q=>hn k (List.mem_cons_of_mem _ q)) (fun i v' k' p q=>hv (i+1) v' k' (by simpa using p) (by simpa using q));obtain ⟨a,o,its,n,rfl,e2,e3,e4,e5⟩:=hv 0 v k rfl rfl;cases e5 with
  | nil=>exact absurd rfl (hn [] (List.mem_cons_self ..))
  | cons _ =>
   exact ⟨_::fs,KatTups.cons e2 e3 e4 rfl a1,by simp [a2],fun v hv=>by
    rcases List.mem_cons.mp hv with rfl|hv
    ·exact ⟨_,_,rfl⟩
    ·exact a3 v hv⟩
theorem Qa {a:Addr}{vs:List Value}{ks:List (List Int)}{n:Nat}{P:PySem.Fin->Shared->Prop}(ho:s.heap.get? a=some (seqObj "list" vs.toArray n)) (h3:vs.length < 64) (hl:vs.length=ks.length) (nd:ks.Nodup) (ne0:∀ k∈ks,k≠[])
  (hv:∀ (i:Nat) (v:Value) (k:List Int),vs[i]?=some v->ks[i]?=some k->TI s.heap v k)
  (h:∀ out:List Value,out.length=vs.length->(∀ (i:Nat) (v:Value),out[i]?=some v->∃ (j:Nat) (k:List Int),vs[j]?=some v/\ks[j]?=some k/\(Ei ks)[i]?=some k)->P (.done (.ret .none)) { s with heap:=sortedHeap s.heap a vs out.toArray }) :
  wpAny (model prog w) A (Builtin.«list.sort» ⟨[.ref a],[]⟩) P E s:=by
 rw [list_sort_plain];have ha:a < s.heap.objs.size:=Heap.lt_size ho;have hz:vs.length<=sizeLine:=by rw [sizeLine_eq];omega
 refine wpAny_bind (listItems_at ho rfl ?_);refine wpAny_bind (listUpdate_at ho rfl ?_ (by rw [List.size_toArray];exact hz) (Nat.zero_le _))
 obtain ⟨e1,ho1⟩:∃ e1,(s.heap.update a (Obj.mapSeq fun _=>#[])).get? a=some (seqObj "list" #[] e1):=⟨_,get?_update_seq ho (fun _=>#[])⟩;refine wpAny_bind (seqEpoch_at ho1 rfl ?_);refine wpAny_bind (wpAny_newTuple ?_ (by show vs.length<=_;exact hz));refine wpAny_bind (wpAny_newList ?_ (Nat.zero_le _));refine wpAny_holding ?_
 have ho6:(((s.heap.update a (Obj.mapSeq fun _=>#[])).push (seqObj "tuple" vs.toArray 0)).push (seqObj "list" #[] 0)).get? a=some (seqObj "list" #[] e1):=by
  rw [Heap.get?_push_ne _ _ _ (by rw [size_push',Heap.size_update];exact Nat.ne_of_lt (Nat.lt_succ_of_lt ha)),Heap.get?_push_ne _ _ _ (by rw [Heap.size_update];exact Nat.ne_of_lt ha)];exact ho1
 have kp:∀ b o,o.cls=.type "tuple"->s.heap.get? b=some o->(((s.heap.update a (Obj.mapSeq fun _=>(#[]:Array Value))).push (seqObj "tuple" vs.toArray 0)).push (seqObj "list" #[] 0)).get? b=some o:=fun b o hc q=>by
  have ne:b≠a:=fun z=>by
   subst z;rw [ho] at q;cases q
   exact absurd hc (show ¬ (Value.type "list"=Value.type "tuple") by decide +kernel)
  refine Heap.get?_push_of_some _ (Heap.get?_push_of_some _ ?_);rw [Heap.get?_update_ne _ _ _ _ ne];exact q
 show wpAny (model prog w) A _ P E { s with heap:=((s.heap.update a (Obj.mapSeq fun _=>#[])).push (seqObj "tuple" vs.toArray 0)).push (seqObj "list" #[] 0) };dsimp only;have hsz:vs.toArray.size=vs.length:=by simp
 by_cases hn2:vs.toArray.size < 2
 ·have e:Ei ks=ks:=by
   refine (R6 nd (.refl _) ?_).symm
   match ks,hl with
   | [],_=>exact .nil
   | [_],_=>exact List.pairwise_singleton _ _
   | _::_::_,hl=>simp at hl hn2;omega
  have hout:(pairsOf vs).map (·.2)=vs.toArray:=by
   apply Array.toList_inj.mp;rw [Array.toList_map,pairsOf_toList];simp only [List.map_snd_zip (Nat.le_refl _)]
  rw [if_pos hn2,if_pos hn2];refine wpAny_bind (wpAny_pure ?_);rw [StateT.run_pure];refine wpAny_bind (wpAny_pure ?_);dsimp only;refine wpAny_bind (seqEpoch_at ho6 rfl ?_);refine wpAny_bind (listUpdate_at ho6 rfl ?_ (Nat.zero_le _) (hsz2:=by rw [Array.size_map];show (pairsOf vs).size<=_;rw [pairsOf_size];omega));simp only [bne_self_eq_false,Bool.false_eq_true,if_false];refine wpAny_pure ?_;show P (.done (.ret .none)) { s with heap:=sortedHeap s.heap a vs ((pairsOf vs).map (·.2)) };rw [hout];refine h vs rfl fun i v hi=>?_
  rw [e];obtain ⟨hh,_⟩:=List.getElem?_eq_some_iff.mp hi;exact ⟨i,ks[i],hi,List.getElem?_eq_getElem (by omega),List.getElem?_eq_getElem (by omega)⟩
 have h2:2<=vs.length:=by rw [List.size_toArray] at hn2;omega
 rw [if_neg hn2,if_neg hn2]
 have hv2:∀ (i:Nat) (v:Value) (k:List Int),vs[i]?=some v->ks[i]?=some k->TI (((s.heap.update a (Obj.mapSeq fun _=>(#[]:Array Value))).push (seqObj "tuple" vs.toArray 0)).push (seqObj "list" #[] 0)) v k:=fun i v k p q=>Vy kp (hv i v k p q)
 obtain ⟨fs,kt,lf,hf⟩:=Lz hl ne0 hv2
 refine wpAny_bind (kat_kind (T:=.type "int") kt (by omega) (fun v hv=>?_) (by decide +kernel) ?_)
 ·obtain ⟨n,tk,rfl⟩:=hf v hv;exact Looks.now
 rw [show (Value.type "int" != Value.type "tuple")=true by decide +kernel];have at1:∀ i,i < vs.length->∃ v k,vs[i]?=some v/\ks[i]?=some k:=fun i hi=>⟨_,_,List.getElem?_eq_getElem hi,List.getElem?_eq_getElem (by omega)⟩
 obtain ⟨p,e0,p1,p2,p3,p4⟩:=aM (n:=vs.length) (lt:=fun i j=>Ed (ks.getD i default) (ks.getD j default)) h2 ⟨fun i j hi hj ne=>(by
   obtain ⟨_,k1,_,q1⟩:=at1 i hi;obtain ⟨_,k2,_,q2⟩:=at1 j hj;rw [getD_some q1,getD_some q2];refine Lk fun z=>ne ?_
   subst z
   exact (List.getElem?_inj (show i < ks.length by omega) nd).mp (q1.trans q2.symm)) ,fun i j k _ _ _ a b=>H9 a b⟩
 have run:=kat_run (E:=E) (s:={ s with heap:=((s.heap.update a (Obj.mapSeq fun _=>(#[]:Array Value))).push (seqObj "tuple" vs.toArray 0)).push (seqObj "list" #[] 0) }) (κ:=tuples' true) (prog:=prog) (w:=w) (A:=A) (ks:=vs) (vs:=vs)
  (Q:=fun st' s'=>s'={ s with heap:=((s.heap.update a (Obj.mapSeq fun _=>(#[]:Array Value))).push (seqObj "tuple" vs.toArray 0)).push (seqObj "list" #[] 0) }/\arrOf st'=p.map (kas_item (vs.toArray.zip vs.toArray))/\failedOf st'=none)
  (G:=fun p' s'=>p'=p/\s'={ s with heap:=((s.heap.update a (Obj.mapSeq fun _=>(#[]:Array Value))).push (seqObj "tuple" vs.toArray 0)).push (seqObj "list" #[] 0) })
  rfl h2 (by omega) (fun p' st' s' _ a2 a3 a4=>by
   obtain ⟨rfl,rfl⟩:=a4
   exact ⟨rfl,a2,a3⟩) (Rz (n:=vs.length) (lt:=fun i j=>Ed (ks.getD i default) (ks.getD j default)) (fun i j C hi hj ne hC=>by
    obtain ⟨v1,k1,r1,q1⟩:=at1 i hi;obtain ⟨v2,k2,r2,q2⟩:=at1 j hj;unfold kas_ask;rw [getD_some r1,getD_some r2];rw [getD_some q1,getD_some q2] at hC
    exact yV (hv2 i _ _ r1 q1) (hv2 j _ _ r2 q2) hC) ⟨rfl,rfl⟩ _ e0)
 refine wpAny_bind (wpAny_mono run ?_ fun _ _ e=>e);rintro ⟨⟨⟩,st'⟩ s' ⟨rfl,har,hf⟩;dsimp only;rw [kat_snds rfl har];have hso:(List.toArray (p.toList.map fun i=>vs.getD i Value.none)).size=vs.length:=by rw [List.size_toArray,List.length_map,p1]
 refine wpAny_bind (seqEpoch_at ho6 rfl ?_);refine wpAny_bind (listUpdate_at ho6 rfl ?_ (Nat.zero_le _) (hsz2:=by rw [hso];exact Nat.le_succ_of_le hz));rw [hf];simp only [bne_self_eq_false,Bool.false_eq_true,if_false];refine wpAny_pure (h (p.toList.map fun i=>vs.getD i Value.none) (by rw [List.length_map,p1]) fun i v hi=>?_);have pr:p.toList.Perm (List.range ks.length):=aG p3 (fun x hx=>List.mem_range.mpr (by rw [← hl];exact p2 x hx)) (by rw [List.length_range,p1,hl];exact Nat.le_refl _);have so:p.toList.map (fun i=>ks.getD i default)=Ei ks:=by
  refine R6 nd ?_ ?_
  ·have:=pr.map (fun i=>ks.getD i default);rw [range_getD] at this;exact this
  ·rw [List.pairwise_map];exact p4
 rw [← so];rw [List.getElem?_map] at hi ⊢;cases hj:p.toList[i]? with
 | none=>rw [hj] at hi;cases hi
 | some j =>
  rw [hj] at hi;have lj:=p2 j (List.mem_of_getElem? hj);obtain ⟨v1,k1,r1,q1⟩:=at1 j lj;have hi:some (vs.getD j Value.none)=some v:=hi;rw [getD_some r1] at hi;cases hi;exact ⟨j,k1,r1,q1,by rw [Option.map_some,getD_some q1]⟩
end
noncomputable def Ma:List PyData->Option (List Int)
 | []=>some []
 | .int n::r=>(match Ma r with | some ns=>some (n::ns) | none=>none)
 | _::_=>none
theorem Mf:∀ {ps:List PyData}{ns:List Int},Ma ps=some ns->ps=ns.map PyData.int
 | [],_,h=>by cases h;rfl
 | .int n::r,ns,h=>by
  simp only [Ma] at h;split at h
  ·rename_i ms e;cases h;rw [Mf e];rfl
  ·cases h
 | .str _::_,_,h=>by cases h
 | .tuple _::_,_,h=>by cases h
 | .none::_,_,h=>by cases h
 | .bool _::_,_,h=>by cases h
 | .list _::_,_,h=>by cases h
 | .dict _::_,_,h=>by cases h
noncomputable def bH:PyData->Option (List Int)
 | .tuple (p::ps)=>Ma (p::ps)
 | _=>none
theorem X4 {k:PyData}{ns:List Int}(h:bH k=some ns):ns≠[]/\k=.tuple (ns.map PyData.int):=by
 unfold bH at h;split at h
 ·have e:=Mf h;refine ⟨fun z=>?_,by rw [e]⟩;rw [z] at e;cases e
 ·cases h
noncomputable def Oo:List (PyData×D)->Option (List (List Int))
 | []=>some []
 | (k,_)::r=>(match bH k with
  | some n=>(match Oo r with | some ns=>some (n::ns) | none=>none)
  | none=>none)
noncomputable def tnD (ns:List Int):D:=.tup (ns.map D.int)
theorem Jv:∀ ns:List Int,Nb (ns.map PyData.int)=ns.map D.int
 | []=>by rw [List.map_nil,List.map_nil,Nb]
 | n::r=>by rw [List.map_cons,List.map_cons,Nb,toD,Jv r]
theorem Mg {K:PySem.W.Frag}{H:Hp}{ρ:List Addr}:∀ {kvs:List (PyData×D)}{ks:List (List Int)}{xs:List (PyData×Addr×V)},Oo kvs=some ks->KN K H ρ kvs xs->(∀ k∈ks,k≠[])/\xs.map (·.1)=ks.map (fun l=>PyData.tuple (l.map PyData.int))/\RDs K H ρ (ks.map tnD) ((xs.map (·.2.1)).map V.ref)
 | [],_,_,h,.nil=>by cases h;exact ⟨fun k q=>(by cases q),rfl,.nil⟩
 | (k,_)::r,ks,_,h,.cons o rk rd t=>by
  simp only [Oo] at h;split at h
  ·rename_i n en;split at h
   ·rename_i ns e;cases h;obtain ⟨n1,rfl⟩:=X4 en;obtain ⟨a1,a2,a3⟩:=Mg e t;rw [toD,Jv] at rk;refine ⟨fun k q=>?_,?_,.cons rk a3⟩
    ·rcases List.mem_cons.mp q with rfl|q
     ·exact n1
     ·exact a1 k q
    ·rw [List.map_cons,List.map_cons,a2]
   ·cases h
  ·cases h
section
variable {K:PySem.W.Frag}{H:Hp}{ρ:List Addr}
theorem Vz:∀ {ks:List (List Int)}{vs:List V},RDs K H ρ (ks.map tnD) vs->∃ cs:List Addr,vs=cs.map V.ref/\cs.length=ks.length/\∀ (i:Nat) (c:Addr),cs[i]?=some c->SqT K H c ((ks.getD i []).map V.int)
 | [],_,.nil=>⟨[],rfl,rfl,fun i c h=>by simp at h⟩
 | k::ks,_,.cons a t=>by
  obtain ⟨cs,e1,e2,e3⟩:=Vz t;cases a with
  | @tup _ c xs sq r =>
   cases Z9 r;refine ⟨c::cs,by rw [e1];rfl,by simp [e2],fun i c' q=>?_⟩;cases i with
   | zero=>cases q;exact sq
   | succ j=>exact e3 j c' q
theorem V0:∀ {ks:List (List Int)}{cs:List Addr},cs.length=ks.length->(∀ (i:Nat) (c:Addr) (k:List Int),cs[i]?=some c->ks[i]?=some k->SqT K H c (k.map V.int))->RDs K H ρ (ks.map tnD) (cs.map V.ref)
 | [],[],_,_=>.nil
 | [],_::_,e,_=>by cases e
 | _::_,[],e,_=>by cases e
 | k::ks,c::cs,e,h=>.cons (.tup (h 0 c k rfl rfl) (RDs.ints _)) (V0 (by simpa using e) fun i c' k' a b=>h (i+1) c' k' (by simpa using a) (by simpa using b))
end
theorem V1:∀ {xs:List (PyData×Addr×V)}{ys:List (PyData×Addr×Value)},PN xs ys->ys.map (·.1)=xs.map (·.1)/\ys.map (·.2.1)=xs.map (·.2.1)
 | [],[],_=>⟨rfl,rfl⟩
 | _::_,_::_,.cons ⟨e1,e2,_⟩ t=>by
  obtain ⟨a,b⟩:=V1 t;exact ⟨by rw [List.map_cons,List.map_cons,a,e1],by rw [List.map_cons,List.map_cons,b,e2]⟩
noncomputable def Dk (ds:List D) (mh:MH):Option (D×MH):=match ds with
 | [.ref n]=>(match mh[n]? with
  | some (.dtk kvs)=>(match Oo kvs with
   | some ks=>if ks.length < 64 then some (.ref mh.length,mh++[.lst ((Ei ks).map tnD)]) else none
   | none=>none)
  | _=>Iz [.ref n] mh)
 | _=>none
section
variable {X:Cx}
theorem Qc (hc:X.calm=true):Bs X (.builtin "sorted") (rDs X.K Dk):=by
 rintro pins s σ H xs us Q I rv ⟨ρ,mh,ds,d,mh',q,rs,r,co⟩;unfold Dk at q;split at q
 ·rename_i n;obtain ⟨v,rfl,rx⟩:=Lf r;obtain ⟨u,rfl,ru⟩:∃ u,us=[u]/\RelV v u:=by cases rv with | cons h t=>cases t;exact ⟨_,rfl,h⟩
  split at q
  ·rename_i kvs en;split at q
   ·rename_i ks ek;split at q
    ·rename_i h64;cases q;obtain ⟨a,xs,ys,rfl,hn,hd,kn,z,lo,pn,o,es,ep,g1,g2,g3,g4,g5,g6⟩:=Iv I rs en rx;cases (show u=Value.ref a from ru);obtain ⟨ne0,k1,r1⟩:=Mg ek kn;obtain ⟨p1,p2⟩:=V1 pn;rw [p1,k1] at g6;have nd:ks.Nodup:=List.Pairwise.of_map (fun l:List Int=>PyData.tuple (l.map PyData.int)) (fun a b (h:_≠_) e=>h (congrArg (fun l:List Int=>PyData.tuple (l.map PyData.int)) e)) g6;obtain ⟨cs,e1,e2,e3⟩:=Vz r1;have ecs:xs.map (·.2.1)=cs:=by
      have:Function.Injective V.ref:=fun a b e=>by cases e;rfl
      exact (List.map_inj_right fun a b e=>by cases e;rfl).mp e1
     have hsz:es.size=ks.length:=by rw [← Array.length_toList,g4,List.length_map,← List.length_map (f:=(·.1)) (as:=ys),p1,k1,List.length_map]
     have ekey:∀ (i:Nat) (c:Addr),cs[i]?=some c->∃ e,es[i]?=some e/\e.key=Value.ref c:=fun i c q=>by
      rw [← ecs,← p2,List.getElem?_map] at q;obtain ⟨y,q1,rfl⟩:=Option.map_eq_some_iff.mp q;exact ⟨_,by rw [← Array.getElem?_toList,g4,List.getElem?_map,q1];rfl,rfl⟩
     refine Calls.call_function_entry kind_sorted plain_sorted entry_sorted (args_sorted1 _) ?_;unfold Builtin.«sorted»
     refine wpAny_bind (m:=checkCount "sorted" 1 1 _) (wpAny_pure (wpAny_bind (Kc (lM (es:=es) (ep:=ep) lo) (by simp [I.ok.hd hc]) ⟨o,g1,g2,g3⟩ (by rw [hsz,sizeLine_eq];omega) fun h' tk acc hk len hacc=>?_)));obtain ⟨ha,hv⟩:=hacc;have ea:acc.toList=cs.map Value.ref:=List.ext_getElem? fun i=>by
      rw [List.getElem?_map]
      by_cases hi:i < acc.size
      ·have hic:i < cs.length:=by rw [e2,← hsz,← ha];exact hi
       obtain ⟨e,q1,q2⟩:=ekey i _ (List.getElem?_eq_getElem hic);obtain ⟨e',q3,q4⟩:=hv i _ (Array.getElem?_eq_getElem hi);rw [q1] at q3;cases q3;rw [Array.getElem?_toList,Array.getElem?_eq_getElem hi,List.getElem?_eq_getElem hic,Option.map_some,q4,q2]
      ·rw [Array.getElem?_toList,Array.getElem?_eq_none (by omega),List.getElem?_eq_none (by rw [e2,← hsz,← ha];omega)];rfl
     rw [ea];have I':Inv X pins σ H { s with heap:=h',toks:=tk }:=I.kept (t':=tk) hk;have tx0:∀ (i:Nat) (c:Addr),cs[i]?=some c->TI h' (.ref c) (ks.getD i []):=fun i c z=>by
      obtain ⟨its,r1,⟨o,e1,e2,n,e3⟩,_⟩:=I'.tuple (e3 i c z);exact ⟨c,o,_,n,rfl,e1,e2,e3,Jr r1⟩
     have lv:(cs.map Value.ref).length=ks.length:=by rw [List.length_map,e2]
     refine wpAny_bind (wpAny_newList ?_ (by rw [lv,sizeLine_eq];omega));refine wpAny_bind (wpAny_holding (wpAny_call_entry slot_list_sort ⟨_,Heap.get?_push_size _ rfl,rfl⟩ entry_list_sort (Qa (vs:=cs.map Value.ref) (ks:=ks) (n:=0) (Heap.get?_push_size _ rfl) (by omega) lv nd ne0 (fun i v k a1 a2=>?_) fun out lo ho=>⟨_,rfl,?_⟩) (args_list_sort _)))
     ·rw [List.getElem?_map] at a1;obtain ⟨c,ec,rfl⟩:=Option.map_eq_some_iff.mp a1;have:=tx0 i c ec;rw [getD_some a2] at this;exact Vy (fun b ob _ q=>Heap.get?_push_of_some _ q) this
     obtain ⟨outs,lo2,ho2⟩:=Og (l:=out) (R:=fun v c=>v=Value.ref c) (fun v hv=>by
      obtain ⟨i,hi,ei⟩:=List.getElem_of_mem hv;obtain ⟨j,k,z1,z2,_⟩:=ho i v (by rw [List.getElem?_eq_getElem hi,ei]);rw [List.getElem?_map] at z1;obtain ⟨c,_,rfl⟩:=Option.map_eq_some_iff.mp z1
      exact ⟨c,rfl⟩)
     have eout:out=outs.map Value.ref:=List.ext_getElem? fun i=>by
      rw [List.getElem?_map]
      by_cases hi:i < out.length
      ·rw [List.getElem?_eq_getElem hi,List.getElem?_eq_getElem (show i < outs.length by omega)];exact congrArg some (ho2 i _ _ (List.getElem?_eq_getElem hi) (List.getElem?_eq_getElem (show i < outs.length by omega)))
      ·rw [List.getElem?_eq_none (by omega),List.getElem?_eq_none (by omega)];rfl
     have rvo:∀ l:List Addr,Vals (l.map V.ref) (l.map Value.ref):=fun l=>by
      induction l with
      | nil=>exact .nil
      | cons a r ih=>exact .cons rfl ih
     obtain ⟨c,at'⟩:=sortedHeap_at (h:=h'.push (seqObj "list" (cs.map Value.ref).toArray 0)) (a:=h'.objs.size) (vs:=cs.map Value.ref) (n:=0) (out:=out.toArray) (Heap.get?_push_size _ rfl);have rso:RDs X.K H ρ ((Ei ks).map tnD) (outs.map V.ref):=V0 (by rw [← lo2,lo,(Ib _).length_eq,lv]) fun i cc k a1 a2=>by
      have hio:out[i]?=some (.ref cc):=by rw [eout,List.getElem?_map,a1];rfl
      obtain ⟨j,k',z1,z2,z3⟩:=ho i _ hio;rw [a2] at z3;cases z3;rw [List.getElem?_map] at z1;obtain ⟨c2,ec,z4⟩:=Option.map_eq_some_iff.mp z1;cases z4;have:=e3 j cc ec;rw [getD_some z2] at this;exact this
     refine wpAny_pure ⟨_,rfl,.ref h'.objs.size,_,I.laid (t':=tk) (a:=h'.objs.size) (o:=.lst (outs.map V.ref)) (fun b ob q=>?_) len ⟨?_,out,c,?_,?_⟩,rfl,Co.newL rs rso co _ (I.hok.fresh len)⟩
     ·have lb:b < h'.objs.size:=Heap.lt_size (hk b ob q);rw [sortedHeap_old (Nat.ne_of_lt lb) (by rw [size_push'];exact Nat.lt_succ_of_lt lb)];exact Heap.get?_push_of_some _ (hk b ob q)
     ·rw [List.length_map,← lo2,lo,lv,sizeLine_eq];omega
     ·rw [eout];exact rvo outs
     ·rw [at']
    ·cases q
   ·cases q
  ·exact P0 hc pins s σ H _ _ Q I rv ⟨ρ,mh,_,d,mh',q,rs,r,co⟩
 ·cases q
end
noncomputable def Mh (x:D) (ds:List D) (mh:MH):Option (D×MH):=match Eo x mh,ds with
 | some f,[y,z]=>(match f y with
  | some o=>some (o.getD z,mh)
  | none=>none)
 | _,_=>none
section
variable {X:Cx}
theorem bI (hu:X.A.units+64 < cLine):MtR X "dict.get" (rDM X.K Mh):=by
 rintro pins s σ H x xs v us Q I rx rv ⟨ρ,mh,dx,ds,d,mh',q,rs,r1,r2,co⟩;unfold Mh at q;split at q
 ·rename_i f y z ek;split at q
  ·rename_i o e;cases q;cases r2 with
   | cons ra r2 =>
   cases r2 with
   | cons rb r2 =>
   cases r2;cases rv with
   | cons va rv =>
   cases rv with
   | cons vb rv =>
   cases rv;obtain ⟨n,rfl,⟨kvs,en,rfl⟩ | ⟨kvs,en,rfl⟩⟩:=Eh ek
   ·obtain ⟨a,xs,rfl,hd,rk⟩:=Bt rs r1 en;rcases G5 e with ⟨k,e',rfl⟩|⟨rfl,k,e',rfl⟩
    rotate_left
    ·obtain ⟨b,rfl,rfl,ok,rk'⟩:=Hv I rs e' ra va;cases (show v=Value.ref a from rx);cases rk.inv0;obtain ⟨z,lo,vs,rel,dd⟩:=Ho I.hok hd;cases rel;exact call_meetsIn PySem.F.slot_dict_get dd.typeIs PySem.F.entry_dict_get (PySem.F.args_dict_get_3 _ _ _) (meetsH_dict_get_default (Ci X.prog X.w) a b lo _) ⟨Ga hu,k,[],Eg I rs ok rk',Lr dd,⟨_,H,I.tok _,vb,co H ρ _ Ev.refl rs rb⟩⟩
    cases G6 ra e';cases (show v=Value.ref a from rx);refine rF (Iw hu) I (Rf.k hd) va vb fun w' s' I' rw'=>⟨_,H,I',rw',co H ρ _ Ev.refl rs ?_⟩
    rcases rk.val k with ⟨d',v',e1,e2,e3⟩|⟨e1,e2⟩
    ·rw [e1,e2];exact e3
    ·rw [e1,e2];exact rb
   ·obtain ⟨a,xs,ys,rfl,hn,hd,kn,zz,lo,pn,dd⟩:=Iv I rs en r1;obtain ⟨k,e',rfl⟩:=Option.map_eq_some_iff.mp e;obtain ⟨b,rfl,rfl,ok,rk⟩:=Hv I rs e' ra va;cases (show v=Value.ref a from rx);refine call_meetsIn PySem.F.slot_dict_get dd.typeIs PySem.F.entry_dict_get (PySem.F.args_dict_get_3 _ _ _) (meetsH_dict_get_default (Ci X.prog X.w) a b lo _) ⟨Ga hu,k,ys,Eg I rs ok rk,dd,?_⟩;rcases kn.val k pn with ⟨d',v',b',u',e1,e2,e3,e4⟩|⟨e1,e2⟩
    ·rw [e2];rw [e1] at co;exact ⟨v',H,I.tok _,e4,co H ρ _ Ev.refl rs e3⟩
    ·rw [e2];rw [e1] at co;exact ⟨_,H,I.tok _,vb,co H ρ _ Ev.refl rs rb⟩
  ·cases q
 ·cases q
end
section
variable {prog:Program}{w:World}{A:Around}{E:Value->Shared->Prop}{s:Shared}
theorem bJ {nm:String}{a b:Addr}{es fs:Array DictEntry}{ep eq:Nat}{Q:Bool->Shared->Prop}(ha:(a==sysModules)=false) (hb:(b==sysModules)=false) (da:Dt s.heap a es ep) (db:Dt s.heap b fs eq) (h0:fs.size=0) (h:Q (es.size==0) s) :
  wpAny (model prog w) A (Builtin.Dict.samePairs nm a b) Q E s:=by
 obtain ⟨oa,a1,_,a3⟩:=da;obtain ⟨ob,b1,_,b3⟩:=db;unfold Builtin.Dict.samePairs Builtin.Dict.showsAll;rw [if_neg (by rw [ha];exact Bool.false_ne_true),if_neg (by rw [hb];exact Bool.false_ne_true)];refine wpAny_bind (wpAny_pure (wpAny_bind (wpAny_pure (wpAny_bind (wpAny_dictEntries a1 a3 ?_)))));dsimp only;refine wpAny_bind (wpAny_dictEntries b1 b3 ?_);rw [h0]
 by_cases z:es.size=0
 ·rw [if_neg (by rw [z];decide)];rw [z] at h ⊢;refine wpAny_bind (wpAny_dictEpoch a1 a3 (wpAny_bind ?_));rw [Std.Legacy.Range.forIn_eq_forIn_range'];exact wpAny_pure (wpAny_pure h)
 ·rw [if_pos (by simpa using z)];have e:(es.size==0)=false:=by simpa using z
  rw [e] at h;exact wpAny_bind (wpAny_rule (wpAny_pure h))
theorem tH {a b:Addr}{es fs:Array DictEntry}{ep eq:Nat}{Q:Value->Shared->Prop}(ha:(a==sysModules)=false) (hb:(b==sysModules)=false) (da:Dt s.heap a es ep) (db:Dt s.heap b fs eq) (h0:fs.size=0) (hu:A.units < cLine) (h:Q (.bool (es.size==0)) s) :
  wpAny (model prog w) A (compareOp .Eq (.ref a) (.ref b)) Q E s:=by
 refine wpAny_richCompare_same_room (op:=.Eq) da.typeIs db.typeIs PySem.F.slot_dict_eq (wpAny_call_entry PySem.F.slot_dict_eq da.typeIs PySem.F.entry_dict_eq ?_ (PySem.F.args_dict_eq_2 _ _)) hu
 show wpAny _ _ (Builtin.Dict.dictSlotArgs "__eq__" ⟨[.ref a,.ref b],[]⟩ >>= _) _ _ s;unfold Builtin.Dict.dictSlotArgs;refine wpAny_bind (wpAny_bind (wpAny_notOrdered_dict da.typeIs ?_));show wpAny _ _ (pure (Value.ref a,Value.ref b)) _ _ s
 refine wpAny_pure (wpAny_bind (wpAny_isInstance (T := "dict") db.typeIs PySem.F.sub_dict_dict ?_));rw [if_neg (by decide)];refine wpAny_bind (wpAny_pure (wpAny_bind (wpAny_pure (wpAny_bind (bJ ha hb da db h0 (wpAny_pure ⟨_,rfl,(fun x=>nomatch x),?_⟩))))));have e:((es.size==0)==true)=(es.size==0):=by cases (es.size==0) <;> rfl
 rw [e];exact h
end
section
variable {X:Cx}{pins:List (Addr×Obj)}{σ:L2.St}{H:Hp}{s:Shared}{ρ:List Addr}{mh:MH}
theorem Qd {x:D}{v:V}{u:Value}{n:Nat}(I:Inv X pins σ H s) (rs:RS X.K H ρ mh) (r:RD X.K H ρ x v) (ru:RelV v u) (e:dSz x mh=some n):∃ a es ep,u=.ref a/\(a==sysModules)=false/\Dt s.heap a es ep/\es.size=n:=by
 unfold dSz at e;split at e
 ·rename_i m;split at e
  ·rename_i kvs en;cases e;obtain ⟨a,xs,rfl,hd,rk⟩:=Bt rs r en;obtain ⟨z,lo,vs,rel,o,es,ep,h1,h2,h3,h4,h5,h6⟩:=Ho I.hok hd;refine ⟨a,es,ep,ru,lo,⟨o,h1,h2,h3⟩,?_⟩;rw [← rk.length,rel.length,← h5.length,Array.length_toList]
  ·rename_i kvs en;cases e;obtain ⟨a,xs,ys,rfl,hn,hd,kn,z,lo,pn,o,es,ep,g1,g2,g3,g4,g5,g6⟩:=Iv I rs en r;refine ⟨a,es,ep,ru,lo,⟨o,g1,g2,g3⟩,?_⟩;rw [← kn.length,Paired.length pn,← Array.length_toList,g4,List.length_map]
  ·cases e
 ·cases e
theorem tK {X:Cx}(hu:X.A.units+64 < cLine):OpR X (compareOp .Eq) (rD X.K eqD):=by
 rintro pins s σ H x y v u Q I rx ry ⟨ρ,mh,dx,dy,d,mh',q,rs,r1,r2,co⟩;unfold eqD at q;split at q
 ·rename_i k ek;cases q;obtain ⟨a,b,ea,eb,rfl⟩:=Ro ek;obtain ⟨⟨as,h1⟩,h2,h3⟩:=Bf I rs 60 dx x v a ea r1 rx;obtain ⟨⟨bs,g1⟩,g2,g3⟩:=Bf I rs 60 dy y u b eb r2 ry;exact SeqAt.compareEq_reads h1 g1 h2 g2 (Zo hu h3) ⟨.bl _,H,I,rfl,co H ρ _ Ev.refl rs (.bl _)⟩
 ·unfold eqE at q;split at q
  ·rename_i n e1 e2;cases q;obtain ⟨a,es,ep,rfl,la,da,za⟩:=Qd I rs r1 rx e1;obtain ⟨b,fs,eq,rfl,lb,db,zb⟩:=Qd I rs r2 ry e2;refine tH la lb da db zb (by omega) ?_;rw [za];exact ⟨.bl _,H,I,rfl,co H ρ _ Ev.refl rs (.bl _)⟩
  ·cases q
end
section
variable {prog:Program}{w:World}{A:Around}{E:Value->Shared->Prop}{s:Shared}{d it v:Addr}{es:Array DictEntry}{ep i:Nat}{ok ov:Value}
theorem Uo {Q:Value->Shared->Prop}(lo:(d==sysModules)=false) (hm:Dt s.heap d es ep) (hQ:Q (.ref s.heap.objs.size) { s with heap:=s.heap.push { cls:=.type "dict_items",data:=.fields #[.ref d] } }) :
  wpAny (model prog w) A (call (.builtin "dict.items") [.ref d]) Q E s:=by
 have hT:=hm.typeIs;refine wpAny_call_entry PySem.F.slot_dict_items hT PySem.F.entry_dict_items ?_ (PySem.F.args_dict_items_1 _);unfold Builtin.«dict.items» Builtin.Dict.noArgs;refine wpAny_bind (wpAny_bind (wpAny_notOrdered_dict hT ?_));show wpAny _ _ (pure d) _ _ s;refine wpAny_pure ?_;show wpAny _ _ (Builtin.Dict.showsAll d >>= _) _ _ s;unfold Builtin.Dict.showsAll;rw [if_neg (by rw [lo];exact Bool.false_ne_true)];exact wpAny_bind (wpAny_pure (wpAny_bind (wpAny_newObj_type (wpAny_pure ⟨_,rfl,hQ⟩))))
theorem Uq {Q:Value->Shared->Prop}(hv:s.heap.IsItemsView v d) (hm:Dt s.heap d es ep)
  (hQ:Q (.ref s.heap.objs.size) { s with heap:=s.heap.push { cls:=.type "dict_itemiterator",data:=.fields #[.none,.bool false,.ref d,.int 0 0,.int es.size 0,.int ep 0,.none,.none] } }):wpAny (model prog w) A (pyIter (.ref v)) Q E s:=by
 obtain ⟨vo,v1,v2,v3⟩:=id hv;obtain ⟨o,a1,a2,a3⟩:=id hm;refine wpAny_pyIter_slot hv.typeIs F.slot_dict_items_iter (wpAny_call_entry F.slot_dict_items_iter hv.typeIs F.entry_dict_items_iter ?_ (F.args_dict_items_iter_1 _));unfold Builtin.«dict_items.__iter__»;refine wpAny_bind (wpAny_pure (wpAny_bind ?_));unfold Builtin.Dict_items.dictOf;refine wpAny_bind (wpAny_field v1 v3 (x:=.ref d) rfl (wpAny_pure (wpAny_bind ?_)));unfold Builtin.Dict_items.newIterator;refine wpAny_bind (wpAny_dictEntries a1 a3 (wpAny_bind (wpAny_dictEpoch a1 a3 ?_)))
 simp only [show Builtin.Dict_items.ownsTuple "dict_itemiterator"=true by decide,if_true]
 refine wpAny_newObj_type (wpAny_pure ⟨_,rfl, "dict_itemiterator",_,⟨_,Heap.get?_push_size _ rfl,rfl⟩,F.slot_dict_itemiterator_next.lookup,?_⟩)
  (by simp only [sizeOk,Builtin.Dict_items.ownedTupleFields,List.size_toArray,List.length_append,List.length_cons,List.length_nil,sizeLine_eq];omega)
 simpa [rawInt,Builtin.Dict_items.ownedTupleFields] using hQ
theorem Ur {Q:Option Value->Shared->Prop}(hit:IsItemIter s.heap it d i es.size ep ok ov) (hm:Dt s.heap d es ep) (hx:i < es.size)
  (hQ:∀ h',IsItemIterOut h' it d (i+1) es.size ep es[i].key es[i].val s.heap.objs.size->h'.get? s.heap.objs.size=some { cls:=.type "tuple",data:=.seq #[es[i].key,es[i].val] }->h'.objs.size=s.heap.objs.size+1 ->
   (∀ b o,b≠it->s.heap.get? b=some o->h'.get? b=some o)->Q (some (.ref s.heap.objs.size)) { s with heap:=h' }):wpAny (model prog w) A (pyNext (.ref it)) Q E s:=by
 obtain ⟨hp,g,dr,tk,os⟩:=s;obtain ⟨od,a1,a2,a3⟩:=id hm
 have hT:Shared.TypeIs ⟨hp,g,dr,tk,os⟩ (.ref it) "dict_itemiterator":=⟨_,hit,rfl⟩
 unfold pyNext
 refine wpAny_bind (wpAny_attempt (wpAny_callSpecial?_slot (name:=Str.ofString "__next__") hT F.slot_dict_itemiterator_next (wpAny_call_entry F.slot_dict_itemiterator_next hT F.entry_dict_itemiterator_next ?_ (F.args_dict_itemiterator_next_1 _))));refine wpAny_bind (wpAny_pure (wpAny_bind (wpAny_bind (wpAny_bind (wpAny_typeNameOfWhole_itemiter hT (wpAny_pure (wpAny_bind (wpAny_fieldsOf hit rfl ?_))))))))
 simp only [show Builtin.Dict_items.ownsTuple "dict_itemiterator"=true by decide,if_true];show wpAny _ _ (if (Value.ref d==Value.none)=true then _ else _) _ _ _;rw [if_neg (show ¬ ((Value.ref d==Value.none)=true) from Bool.false_ne_true)];refine wpAny_bind (wpAny_pure (wpAny_bind (wpAny_dictEntries a1 a3 ?_)));rw [if_neg (by simp)];refine wpAny_bind (wpAny_pure (wpAny_bind (wpAny_dictEpoch a1 a3 ?_)));rw [if_neg (by simp)];refine wpAny_pure ?_;simp only [show ¬ ((i:Int) < 0) from by omega,if_false,Int.toNat_natCast,Array.getElem?_eq_getElem hx];refine wpAny_bind (wpAny_bind (wpAny_typeNameOfWhole_itemiter hT (wpAny_pure (wpAny_bind (wpAny_isOneOf_itemiter hT ?_)))));show wpAny _ _ (setField (.ref it) 3 (rawInt ((i:Int)+1)) >>= _) _ _ ⟨hp,g,dr,tk,os⟩;refine wpAny_bind (wpAny_setField_rec hit (by simp) fun h1 e1 s1=>?_)
 replace s1:Heap.SameBut it hp h1:=s1
 replace e1:IsItemIter h1 it d (i+1) es.size ep ok ov:=by
  have e:((i+1:Nat):Int)=(i:Int)+1:=by omega
  unfold IsItemIter;rw [e];simpa [rawInt] using e1
 have hT1:Shared.TypeIs ⟨h1,g,dr,tk,os⟩ (.ref it) "dict_itemiterator":=⟨_,e1,rfl⟩
 refine wpAny_bind (wpAny_holding (wpAny_bind (wpAny_isOneOf_itemiter hT1 (wpAny_bind (wpAny_isOneOf_itemiter hT1 ?_)))));show wpAny _ _ (Builtin.Dict_items.pairFromOwner (.ref it) 6 es[i].key es[i].val) _ _ ⟨h1,g,dr,tk,os⟩;unfold Builtin.Dict_items.pairFromOwner;refine wpAny_bind (wpAny_newTuple ?_)
 have e2:IsItemIter (h1.push { cls:=.type "tuple",data:=.seq #[es[i].key,es[i].val] }) it d (i+1) es.size ep ok ov:=Heap.get?_push_of_some _ e1
 generalize hh:h1.push { cls:=.type "tuple",data:=.seq #[es[i].key,es[i].val] }=h2 at e2;have z1:h1.objs.size=hp.objs.size:=s1.1;have il:it < hp.objs.size:=Heap.lt_size hit
 have t2:h2.get? hp.objs.size=some { cls:=.type "tuple",data:=.seq #[es[i].key,es[i].val] }:=by rw [← hh,← z1];exact Heap.get?_push_size _ rfl
 have z2:h2.objs.size=hp.objs.size+1:=by rw [← hh,Heap.size_push,z1]
 have k2:∀ b o,b≠it->hp.get? b=some o->h2.get? b=some o:=fun b o hb e=>by rw [← hh];exact Heap.get?_push_of_some _ (s1.extBut b o hb e)
 show wpAny _ _ (Builtin.Dict_items.ownedTupleIsFree (.ref it) >>= _) _ _ ⟨h2,g,dr,tk,os⟩;rw [z1]
 clear hh e1 s1 hT1 z1 h1
 refine wpAny_bind ?_;unfold Builtin.Dict_items.ownedTupleIsFree;refine wpAny_bind (wpAny_field e2 rfl (x:=.none) rfl (wpAny_pure ?_));simp only [if_true];refine wpAny_bind (wpAny_field e2 rfl (x:=ok) rfl (wpAny_bind (wpAny_field e2 rfl (x:=ov) rfl (wpAny_bind (wpAny_setField_rec e2 (by simp) fun h3 e3 s3=>?_)))))
 replace s3:Heap.SameBut it h2 h3:=s3
 replace e3:IsItemIter h3 it d (i+1) es.size ep es[i].key ov:=e3
 refine wpAny_bind (wpAny_setField_rec e3 (by simp) fun h4 e4 s4=>?_)
 replace s4:Heap.SameBut it h3 h4:=s4
 replace e4:IsItemIter h4 it d (i+1) es.size ep es[i].key es[i].val:=e4
 refine wpAny_bind (wpAny_setField_rec e4 (by simp) fun h5 e5 s5=>?_)
 replace s5:Heap.SameBut it h4 h5:=s5
 replace e5:IsItemIterOut h5 it d (i+1) es.size ep es[i].key es[i].val hp.objs.size:=e5
 refine wpAny_bind (wpAny_setField_rec e5 (by simp) fun h6 e6 s6=>?_)
 replace s6:Heap.SameBut it h5 h6:=s6
 have up:∀ b o,b≠it->h2.get? b=some o->h6.get? b=some o:=fun b o hb e=>s6.extBut b o hb (s5.extBut b o hb (s4.extBut b o hb (s3.extBut b o hb e)))
 refine wpAny_bind (wpAny_letGo (wpAny_pure (wpAny_pure ⟨_,rfl,wpAny_pure (hQ h6 e6 (up _ _ (Nat.ne_of_gt il) t2) ?_ fun b o hb e=>up b o hb (k2 b o hb e))⟩)));show h6.objs.size=hp.objs.size+1;rw [s6.1,s5.1,s4.1,s3.1,z2]
theorem X5 {Q:Option Value->Shared->Prop}(hh:A.handled=none) (hit:IsItemIter s.heap it d i es.size ep ok ov) (hm:Dt s.heap d es ep) (hx:es.size<=i)
  (hQ:∀ h',Heap.ExtBut it s.heap h'->Q none { s with heap:=h' }):wpAny (model prog w) A (pyNext (.ref it)) Q E s:=by
 obtain ⟨od,a1,a2,a3⟩:=id hm
 have hT:s.TypeIs (.ref it) "dict_itemiterator":=⟨_,hit,rfl⟩
 unfold pyNext
 refine wpAny_bind (wpAny_attempt (wpAny_callSpecial?_slot (name:=Str.ofString "__next__") hT F.slot_dict_itemiterator_next (wpAny_call_entry F.slot_dict_itemiterator_next hT F.entry_dict_itemiterator_next ?_ (F.args_dict_itemiterator_next_1 _))));refine wpAny_bind (wpAny_pure (wpAny_bind (wpAny_bind (wpAny_bind (wpAny_typeNameOfWhole_itemiter hT (wpAny_pure (wpAny_bind (wpAny_fieldsOf hit rfl ?_))))))))
 simp only [show Builtin.Dict_items.ownsTuple "dict_itemiterator"=true by decide,if_true];show wpAny _ _ (if (Value.ref d==Value.none)=true then _ else _) _ _ s;rw [if_neg (show ¬ ((Value.ref d==Value.none)=true) from Bool.false_ne_true)];refine wpAny_bind (wpAny_pure (wpAny_bind (wpAny_dictEntries a1 a3 ?_)));rw [if_neg (by simp)];refine wpAny_bind (wpAny_pure (wpAny_bind (wpAny_dictEpoch a1 a3 ?_)));rw [if_neg (by simp)];refine wpAny_pure ?_;simp only [show ¬ ((i:Int) < 0) from by omega,if_false,Int.toNat_natCast,Array.getElem?_eq_none hx];refine wpAny_bind (wpAny_bind (wpAny_typeNameOfWhole_itemiter hT (wpAny_pure ?_)));show wpAny _ _ (setField (.ref it) 2 .none >>= _) _ _ s;refine wpAny_bind (wpAny_setField hit rfl (by simp) ?_)
 show wpAny _ _ (newExc (.type "StopIteration") [] >>= _) _ _ _;simp only [newExc,newTuple];refine wpAny_bind (wpAny_bind (wpAny_newObj_type ?_ (by size_fits)));refine wpAny_bind (m:=firstArgMember _ _) (wpAny_of_eq (a:=Value.none) (by first | rfl | (simp only [firstArgMember];rfl)) ?_);refine wpAny_newObj_type ?_ (by size_fits);simp only [raiseNew];refine wpAny_bind (wpAny_handled ?_);rw [show A.in1.handled=none from hh];refine wpAny_bind (wpAny_pure (wpAny_throw ?_))
 refine wpAny_bind (wpAny_isInstance (T := "StopIteration") (b:=true) ⟨_,Heap.get?_push_size _ rfl,rfl⟩ isSubtype_stop ?_);exact wpAny_pure (hQ _ (((Heap.SameBut.update ..).extBut.push _).push _))
end
section
variable {K:PySem.W.Frag}{H H':Hp}{ρ ρ':List Addr}
theorem KN.get:∀ {kvs:List (PyData×D)}{xs:List (PyData×Addr×V)}{i:Nat}{k:PyData}{d:D},KN K H ρ kvs xs->kvs[i]?=some (k,d)->∃ b v,xs[i]?=some (k,b,v)/\RD K H ρ (toD k) (.ref b)/\RD K H ρ d v
 | _,_,_,_,_,.nil,e=>by simp at e
 | _,_,0,_,_,.cons _ rk rd _,e=>by
  cases e;exact ⟨_,_,rfl,rk,rd⟩
 | _,_,i+1,k,d,.cons _ _ _ t,e=>by
  obtain ⟨b,v,h1,h2⟩:=KN.get (i:=i) (k:=k) (d:=d) t (by simpa using e);exact ⟨b,v,by simpa using h1,h2⟩
theorem RS.setF {mh:MH}{n:Nat}{p:Addr}{o u:HO}{ob:Obj}(h:RS K H ρ mh) (hn:ρ[n]?=some p) (hp:H p=some o) (ho:(∃ ys,o=.dN ys)\/∃ ys,o=.dK ys):RS K (upd H p (.frz ob u)) ρ (mh.set n .fzd):=by
 have ev:Ev K H ρ (upd H p (.frz ob u)) ρ:=Ev.dn hp ho;refine ⟨by rw [List.length_set];exact h.len,h.nd,fun m a oo e1 e2=>?_⟩
 by_cases e:m=n
 ·subst e;rw [hn] at e1;cases e1;rw [List.getElem?_set_self (by rw [← h.len];exact (List.getElem?_eq_some_iff.mp hn).1)] at e2;cases e2;exact ⟨ob,u,Be⟩
 ·rw [List.getElem?_set_ne (Ne.symm e)] at e2;refine (h.obj m a oo e1 e2).mono ev (Ac fun z=>e ?_);subst z;exact (List.getElem?_inj (List.getElem?_eq_some_iff.mp e1).1 h.nd).mp (e1.trans hn.symm)
end
noncomputable def Iti (o:Obj) (d:Addr):It :=
  ⟨fun i H=>∃ xs:List (PyData×Addr×V),H d=some (.frz o (.dN xs))/\i < xs.length,
   fun i H v H'=>∃ T k b x,H T=none/\v=.ref T/\(∀ xs:List (PyData×Addr×V),H d=some (.frz o (.dN xs))->xs[i]?=some (k,b,x))/\H'=upd H T (.tup [.ref b,x]),
   fun i H=>∃ xs:List (PyData×Addr×V),H d=some (.frz o (.dN xs))/\xs.length<=i⟩
theorem JR.items {K:PySem.W.Frag}{H0:Hp}{ρ0:List Addr}{kvs:List (PyData×D)}{xs:List (PyData×Addr×V)}{o:Obj}{d:Addr}(h0:H0 d=some (.frz o (.dN xs))) (kn:KN K H0 ρ0 kvs xs):JR K H0 ρ0 (.seq (kvs.map fun p=>.tup [toD p.1,p.2])) (Iti o d) where
 go:=fun H ρ mh i dd e rs q=>by
  have q:(kvs.map fun p:PyData×D=>D.tup [toD p.1,p.2])[i]?=some dd:=q;rw [List.getElem?_map] at q;obtain ⟨⟨k,dv⟩,q1,rfl⟩:=Option.map_eq_some_iff.mp q;obtain ⟨b,v,e1,rb,rv⟩:=(kn.mono e).get q1;have hd:=e.frz _ _ _ h0;refine ⟨⟨xs,hd,(List.getElem?_eq_some_iff.mp e1).1⟩,?_⟩;rintro x H' ⟨T,k',b',x',hT,rfl,h2,rfl⟩;have:=h2 xs hd;rw [e1] at this;cases this;exact ⟨Ev.new hT,rs.new hT,.tup (.inl (.inl Be)) (.cons (rb.mono (Ev.new hT)) (.cons (rv.mono (Ev.new hT)) .nil))⟩
 stop:=fun H ρ mh i e rs q=>by
  have q:(true&&decide ((kvs.map fun p:PyData×D=>D.tup [toD p.1,p.2]).length<=i))=true:=q;rw [Bool.true_and,decide_eq_true_iff,List.length_map] at q;exact ⟨xs,e.frz _ _ _ h0,by rw [kn.length];exact q⟩
section
variable {X:Cx}{pins:List (Addr×Obj)}{σ:L2.St}{H:Hp}{s:Shared}
theorem V2 {o:Obj}{d:Addr}{xs:List (PyData×Addr×V)}{es:Array DictEntry}{ep:Nat}(I:Inv X pins σ H s) (hd:o.data=.dict es ep) (h:H d=some (.frz o (.dN xs))):∃ ys,PN xs ys/\Dt s.heap d es ep/\es.toList=ys.map (entryOfKey (Ci X.prog X.w)):=by
 obtain ⟨g,_,_,ys,pn,o',es',ep',g1,g2,g3,g4,_⟩:=I.hok d _ h;rw [g] at g1;cases g1;rw [hd] at g3;cases g3;exact ⟨ys,pn,⟨o,g,g2,hd⟩,g4⟩
theorem bK:∀ {xs:List (PyData×Addr×V)}{ys:List (PyData×Addr×Value)}{i:Nat}{k:PyData}{b:Addr}{x:V},PN xs ys->xs[i]?=some (k,b,x)->∃ u,ys[i]?=some (k,b,u)/\RelV x u
 | _::_,(k',b',u')::_,0,_,_,_,.cons ⟨e1,e2,e3⟩ _,e=>by
  cases e;cases e1;cases e2;exact ⟨_,rfl,e3⟩
 | _::_,_::_,i+1,k,b,x,.cons _ t,e=>by
  obtain ⟨u,h1,h2⟩:=bK (i:=i) (k:=k) (b:=b) (x:=x) t (by simpa using e);exact ⟨u,by simpa using h1,h2⟩
 | [],[],_,_,_,_,.nil,e=>by simp at e
end
theorem Us {P:Program}{w:World}{K:PySem.W.Frag}{elts:List Expr}{kk:Nat}{tp:Pos}{o:Obj}{es:Array DictEntry}{ep:Nat}(d it:Addr) (hne:d≠it) (hd:o.data=.dict es ep) :
  Turn P w K (.Tuple elts kk tp) (Iti o d) [it] it (fun i h=>∃ ok ov,IsItemIter h it d i es.size ep ok ov) where
 mem:=by simp
 obj:=fun i h st b hb=>by
  obtain ⟨ok,ov,st⟩:=st;have hb:b=it:=by simpa using hb
  subst hb;exact ⟨_,st,fun v q=>by have q':Data.fields _=Data.cell v:=q;cases q'⟩
 keep:=fun i h h' st kp=>let ⟨ok,ov,st⟩:=st;⟨ok,ov,kp it (by simp) _ st⟩
 item:=by
  intro X hP hw hK hc i pins s σ H E I hf st hg;subst hP hw hK;obtain ⟨ok,ov,st⟩:=st;obtain ⟨xs,hx,hi⟩:=hg;obtain ⟨ys,pn,raw,g4⟩:=V2 I hd hx;obtain ⟨⟨k,b,x⟩,ex⟩:∃ p,xs[i]?=some p:=⟨_,List.getElem?_eq_getElem hi⟩;obtain ⟨u,ey,ru⟩:=bK pn ex;have ee:es[i]?=some (entryOfKey (Ci X.prog X.w) (k,b,u)):=by rw [← Array.getElem?_toList,g4,List.getElem?_map,ey];rfl
  obtain ⟨hlt,eq⟩:=Array.getElem?_eq_some_iff.mp ee;have ek:es[i].key=Value.ref b:=by rw [eq];rfl
  have ev:es[i].val=u:=by rw [eq];rfl
  refine Ur st raw hlt fun h' a1 a2 a3 hk=>⟨_,rfl,wpAny_letOwnedTupleGo_items a1 fun h2 hz hs=>?_⟩
  have ilt:it < s.heap.objs.size:=Heap.lt_size st;have hT:Kf h2 s.heap.objs.size #[.ref b,u]:=⟨_,hs.extBut _ _ (Nat.ne_of_gt ilt) a2,rfl,rfl,_,by rw [ek,ev]⟩
  have I2:Inv X pins σ (upd H s.heap.objs.size (.tup [.ref b,x])) { s with heap:=h2 }:=Ht (t':=s.toks) (fp:=[it]) I (fun c o hb q=>by
   have hb:c≠it:=by simpa using hb
   exact hs.extBut c o hb (hk c o hb q)) hf (Nat.le_refl _) ⟨by simp [sizeLine_eq],[.ref b,u],.cons rfl (.cons ru .nil),hT⟩
  refine ⟨.ref s.heap.objs.size,_,I2,rfl,⟨s.heap.objs.size,k,b,x,I.hok.fresh (Nat.le_refl _),rfl,fun zs q=>?_,rfl⟩,⟨_,_,hz⟩,fun c hb=>?_⟩
  ·rw [hx] at q;cases q;exact ex
  ·have hb:c=it:=by simpa using hb
   subst hb;rw [Ac (Nat.ne_of_lt ilt)];exact (hf c (by simp)).1
 done:=by
  intro X hP hw hK hc i pins s σ H E I hf st hg;subst hP hw hK;obtain ⟨ok,ov,st⟩:=st;obtain ⟨xs,hx,hi⟩:=hg;obtain ⟨ys,pn,raw,g4⟩:=V2 I hd hx;have hz:es.size<=i:=by rw [← Array.length_toList,g4,List.length_map,← Paired.length pn];exact hi
  refine X5 (by simp [I.ok.hd hc]) st raw hz fun h' he=>⟨rfl,?_⟩
  exact Oe (t':=s.toks) (fp:=[it]) I (fun b o hb q=>he b o (by simpa using hb) q) hf
 self:=fun _ i s Q E st h=>by
  obtain ⟨ok,ov,st⟩:=st;exact kcp_self st h
noncomputable def Jw (mo:DM D):DM Src:=mo.bnd fun x=>fun _ mh=>match x with
 | .ref n=>(match mh[n]? with
  | some (.dtk kvs)=>some (.seq (kvs.map fun p=>.tup [toD p.1,p.2]),mh.set n .fzd)
  | _=>none)
 | _=>none
theorem R7 {mo:DM D}{loc:Loc}{mh mh':MH}{src:Src}(h:Jw mo loc mh=some (src,mh')):∃ n m1 kvs,mo loc mh=some (.ref n,m1)/\m1[n]?=some (.dtk kvs)/\src=.seq (kvs.map fun p=>.tup [toD p.1,p.2])/\mh'=m1.set n .fzd:=by
 obtain ⟨x,m1,eo,q⟩:=Aj h;split at q
 ·rename_i n;split at q
  ·rename_i kvs en;cases q;exact ⟨n,m1,kvs,eo,en,rfl,rfl⟩
  ·cases q
 ·cases q
section
variable {X:Cx}{pos apos:Pos}
theorem Mi {s:Shared}{a:Addr}{es:Array DictEntry}{ep:Nat}(x:Dt s.heap a es ep):∀ b,Value.ref a=.ref b->∃ ob,s.heap.get? b=some ob/\ob.dict=none:=fun b e=>by
 cases e;obtain ⟨o,e,c,_⟩:=x;exact ⟨o,e,c.2.1⟩
theorem bL {o:Expr}{mo:DM D}{elts:List Expr}{kk:Nat}{tp:Pos}(ho:DE X o mo) (hbase:attributeBase o "items" X.env (eval o X.env)=eval o X.env) (hline:(apos.endLine==pos.line)=true) :
  DI X (.Tuple elts kk tp) (.Call (.Attribute o "items" apos) [] [] pos) (Jw mo):=fun loc mh=>by
 rintro pins s σ H R I ⟨ρ,src,mh',q,rl,rs,co⟩;obtain ⟨n,m1,kvs,eo,en,rfl,rfl⟩:=R7 q;refine wpAny_Call_method0_late hbase hline (thn (ho loc mh pins s σ H (fun v H1=>∃ ρ1,Ev X.K H ρ H1 ρ1/\RS X.K H1 ρ1 m1/\RD X.K H1 ρ1 (.ref n) v) I ⟨ρ,_,m1,eo,rl,rs,fun H1 ρ1 v e1 rs1 r1=>⟨ρ1,e1,rs1,r1⟩⟩) ?_);rintro u s1 ⟨v,H1,I1,ru,ρ1,e1,rs1,r1⟩;obtain ⟨d,xs,ys,rfl,hn,hd,kn,z,lo,pn,ob,es,ep,g1,g2,g3,g4,g5,g6⟩:=Iv I1 rs1 en r1;cases (show u=Value.ref d from ru);have raw:Dt s1.heap d es ep:=⟨ob,g1,g2,g3⟩
 refine ⟨"dict", "dict.items",PySem.F.plainAttrs_dict,PySem.F.slot_dict_items,PySem.F.type_dict_items,raw.typeIs,Mi raw,Calls.callWith_builtin rfl (PySem.evalArgs_none (Uo lo raw ?_))⟩;refine Uq (d:=d) (es:=es) (ep:=ep) ⟨_,Heap.get?_push_size _ rfl,rfl,rfl⟩ (raw.keep fun o e=>Heap.get?_push_of_some _ e) ?_
 have kp:∀ b o,s1.heap.get? b=some o->((s1.heap.push { cls:=.type "dict_items",data:=.fields #[.ref d] }).push { cls:=.type "dict_itemiterator",data:=.fields #[.none,.bool false,.ref d,.int 0 0,.int es.size 0,.int ep 0,.none,.none] }).get? b=some o:=fun b o e=>Heap.get?_push_of_some _ (Heap.get?_push_of_some _ e)
 have I2:=I1.kept (t':=s1.toks) kp;have ho':(∃ zs,HO.dN xs=.dN zs)\/∃ zs,HO.dN xs=.dK zs:=.inl ⟨_,rfl⟩;have I3:=Fw (t':=s1.toks) (ob:=.frz ob (.dN xs)) I2 (a:=d) (by rw [hd];exact True.intro) (Heap.SameBut.refl _ _) ⟨_,kp _ _ g1⟩ ⟨kp _ _ g1,z,lo,ys,pn,ob,es,ep,kp _ _ g1,g2,g3,g4,g6⟩;have ltd:d < s1.heap.objs.size:=Heap.lt_size g1
 have sz:(s1.heap.push { cls:=.type "dict_items",data:=.fields #[.ref d] }).objs.size=s1.heap.objs.size+1:=Heap.size_push ..
 have ne:d≠(s1.heap.push { cls:=.type "dict_items",data:=.fields #[.ref d] }).objs.size:=by rw [sz];exact Nat.ne_of_lt (Nat.lt_succ_of_lt ltd)
 refine ⟨_,_,_,_,_,rfl,I3,Us d _ ne g3,⟨_,_,Heap.get?_push_size _ rfl⟩,fun b hb=>?_,co _ ρ1 _ (e1.trans (Ev.dn hd ho')) (rs1.setF hn hd ho') (JR.items Be (kn.mono (Ev.dn hd ho')))⟩
 have hb:b=(s1.heap.push { cls:=.type "dict_items",data:=.fields #[.ref d] }).objs.size:=by simpa using hb
 subst hb;refine I1.fpOk (by rw [sz];exact Nat.le_succ _) ?_;rw [Ac (Ne.symm ne)];exact I1.hok.fresh (by rw [sz];exact Nat.le_succ _)
noncomputable def getM (mo:DM D) (mr:DM (List D)):DM D:=mo.bnd fun x=>fun loc mh=>if (dSz x mh).isSome=true then (mr.bnd fun ds=>Zl (Mh x ds)) loc mh else none
theorem lN {o a:Expr}{es:List Expr}{mo:DM D}{mr:DM (List D)}(hu:X.A.units+64 < cLine) (ho:DE X o mo) (ha:DA X (a::es) mr) (hbase:attributeBase o "get" X.env (eval o X.env)=eval o X.env)
  (hfew:((backTo pos (starEach (a::es) X.env)).all (fun x=>!x.1)&&(backToKw pos (keywordEach [] X.env)).all (fun x=>x.1.isSome)
   && decide ((a::es).length+([]:List Keyword).length+(if ([]:List Keyword).isEmpty then 0 else 1) < 30))=true)
  (hline:(apos.endLine==pos.line)=true) (hs:starEach (a::es) X.env=(false,eval a X.env)::starEach es X.env) (hplain:(backTo pos (starEach es X.env)).any (·.1)=false) :
  DE X (.Call (.Attribute o "get" apos) (a::es) [] pos) (getM mo mr):=fun loc mh=>by
 rintro pins s σ H Q I ⟨ρ,d,mh',q,rl,rs,co⟩;obtain ⟨x,m1,eo,q⟩:=Aj q;split at q
 ·rename_i hx;obtain ⟨k,hk⟩:=Option.isSome_iff_exists.mp hx;obtain ⟨ds,m2,er,q⟩:=Aj q;refine wpAny_Call_method_late hbase hfew hline rfl (thn (ho loc mh pins s σ H (fun v H1=>∃ ρ1,Ev X.K H ρ H1 ρ1/\RS X.K H1 ρ1 m1/\RD X.K H1 ρ1 x v) I ⟨ρ,x,m1,eo,rl,rs,fun H1 ρ1 v e1 rs1 r1=>⟨ρ1,e1,rs1,r1⟩⟩) ?_);rintro u s1 ⟨v,H1,I1,ru,ρ1,e1,rs1,r1⟩;obtain ⟨a1,es1,ep1,rfl,lo,raw,_⟩:=Qd I1 rs1 r1 ru hk
  refine ⟨"dict", "dict.get",PySem.F.plainAttrs_dict,PySem.F.slot_dict_get,PySem.F.type_dict_get,raw.typeIs,Mi raw,?_⟩;have hA:=ha loc m1 pos pins s1 σ H1 (fun vs H2=>∃ ρ2,Ev X.K H1 ρ1 H2 ρ2/\RS X.K H2 ρ2 m2/\RDs X.K H2 ρ2 ds vs) I1 ⟨ρ1,ds,m2,er,rl.mono e1,rs1,fun H2 ρ2 vs e2 rs2 r2=>⟨ρ2,e2,rs2,r2⟩⟩;rw [hs] at hA ⊢;refine Calls.callWith_builtin (by show (false || (backTo pos (starEach es X.env)).any (·.1))=false;rw [hplain] <;> rfl) (Calls.evalArgs_plain (thn hA ?_));rintro us s2 ⟨vs,H2,I2,rvs,ρ2,e2,rs2,r2⟩;exact bI hu pins s2 σ H2 v vs _ us Q I2 ru rvs ⟨ρ2,m2,x,ds,d,mh',q,rs2,r1.mono e2,r2,co.ev (e1.trans e2)⟩
 ·cases q
noncomputable def Jx (mk mv:DM D):DM D:=fun loc mh=>match mk loc (mh++[.dct []]) with
 | none=>none
 | some (k,m1)=>match mv loc m1 with
  | none=>none
  | some (v,m2)=>match m2[mh.length]? with
   | some (.dct [])=>(match Hw (.ref mh.length) k v m2 with
    | some m3=>some (.ref mh.length,m3)
    | none=>none)
   | _=>none
theorem bM {k v:Expr}{mk mv:DM D}(hu:X.A.units+64 < cLine) (hk:DE X k mk) (hv:DE X v mv):DE X (.Dict [some k] [v] pos) (Jx mk mv):=fun loc mh=>by
 rintro pins s σ H Q I ⟨ρ,d,mh',q,rl,rs,co⟩;unfold Jx at q;split at q
 ·cases q
 rename_i kd m1 ek;split at q
 ·cases q
 rename_i vd m2 ev;split at q
 rotate_left
 ·cases q
 rename_i e0;split at q
 ·rename_i m3 ep;cases q;have hn:=I.hok.fresh (Nat.le_refl s.heap.objs.size)
  have I1:=I.laid (a:=s.heap.objs.size) (o:=.dK []) (h':=s.heap.push { cls:=.type "dict",data:=.dict #[] }) (t':=s.toks) (fun _ _ q=>Heap.get?_push_of_some _ q) (Nat.le_refl _) (Rg s.heap I.big);have rs1:=rs.newD (p:=s.heap.objs.size) hn (RK.nil (K:=X.K) (H:=H) (ρ:=ρ));refine wpAny_Dict_any rfl rfl (by simp) (by simp) (pairTrees_cons_walk (thn (hk loc _ pins _ σ _ (fun k1 H1=>∃ ρ1,Ev X.K (upd H s.heap.objs.size (.dK [])) (ρ++[s.heap.objs.size]) H1 ρ1/\RS X.K H1 ρ1 m1/\RD X.K H1 ρ1 kd k1) I1 ⟨_,kd,m1,ek,rl.mono (Ev.newL hn),rs1,fun H1 ρ1 v e1 rs1 r1=>⟨ρ1,e1,rs1,r1⟩⟩) ?_));rintro uk s2 ⟨k1,H1,I2,rk1,ρ1,e1,rs2,r1⟩;refine thn (hv loc m1 pins s2 σ H1 (fun v1 H2=>∃ ρ2,Ev X.K H1 ρ1 H2 ρ2/\RS X.K H2 ρ2 m2/\RD X.K H2 ρ2 vd v1) I2 ⟨ρ1,vd,m2,ev,(rl.mono (Ev.newL hn)).mono e1,rs2,fun H2 ρ2 v e2 rs2 r2=>⟨ρ2,e2,rs2,r2⟩⟩) ?_;rintro uv s3 ⟨v1,H2,I3,rv,ρ2,e2,rs3,r2⟩;refine pairTrees_nil_walk ?_;have e12:=(Ev.newL (K:=X.K) (ρ:=ρ) (o:=.dK []) hn).trans (e1.trans e2);have at':ρ2[mh.length]?=some s.heap.objs.size:=(e1.trans e2).at (rs.last _);have r1:=r1.mono e2;have rr:RD X.K H2 ρ2 (.ref mh.length) (.ref s.heap.objs.size):=.ref at';show wpAny _ _ (storeAll s.heap.objs.size [(uk,uv)]) _ _ _;unfold storeAll;rw [List.forIn_cons];refine wpAny_bind (wpAny_bind ?_);have fin:∀ {s4:Shared} {H4:Hp},Inv X pins σ H4 s4->Ev X.K H2 ρ2 H4 ρ2->RS X.K H4 ρ2 mh'->wpAny (model X.prog X.w) X.A (pure (ForInStep.yield PUnit.unit):Sem (ForInStep PUnit)) (fun r s5=>wpAny (model X.prog X.w) X.A (match r with | .done b=>pure b | .yield b=>forIn ([]:List (Value×Value)) b fun (x:Value×Value) (_:PUnit)=>(do dictSet s.heap.objs.size x.1 x.2;pure (ForInStep.yield PUnit.unit):Sem (ForInStep PUnit))) (fun _ s6=>EP X pins σ Q (.ref s.heap.objs.size) s6) X.xe s5) X.xe s4:=fun {s4 H4} I4 e4 rs4 =>
   wpAny_pure (wpAny_pure ⟨.ref s.heap.objs.size,H4,I4,rfl,co H4 ρ2 _ (e12.trans e4) rs4 (.ref at')⟩)
  obtain ⟨n,en,⟨kvs,k,em,ekk,hz,rfl⟩ | ⟨k,em,ekk,rfl⟩ | ⟨kvs,k,em,ekk,hz,rfl⟩⟩:=Ls ep
  ·cases en;obtain ⟨a,xs,ea,hd,rk⟩:=Bt rs3 rr em;cases ea;cases G6 r1 ekk;obtain ⟨z,lo,vs,rel,dd⟩:=Ho I3.hok hd;refine wpAny_dictSet_pairs (hsz:=by rw [← rel.length];exact z) (K8 rk1) dd fun h' dd' hs=>fin (Fw I3 (by rw [hd];exact True.intro) hs (let ⟨q,_,_,hq,_⟩:=dd';⟨q,hq⟩) (Zc ?_ lo (rel.put k rv) dd')) (Ev.dk hd) (rs3.setD at' hd (rk.put k r2))
   have:=Gn xs k v1;rw [rk.length] at this;rw [sizeLine_eq];omega
  ·cases en;obtain ⟨a,xs,ea,hd,rk⟩:=Bt rs3 rr em;cases ea;cases rk.inv0;obtain ⟨b,rfl,rfl,ok,rkk⟩:=Hv I3 rs3 ekk r1 rk1;obtain ⟨z,lo,vs,rel,dd⟩:=Ho I3.hok hd;cases rel;have pn:PN [(k,b,v1)] (storedH [] k b uv):=.cons ⟨rfl,rfl,rv⟩ .nil;refine wpAny_dictSet_heap (hsz:=by decide) (knd:=Ci X.prog X.w) (by show X.A.units+8 < cLine;omega) (Eg I3 rs3 ok rkk) (Lr dd) fun h' dd' hs'=>?_
   obtain ⟨q,es,ep',hq,g2,g3,g4,_,g5⟩:=dd';have ho:(∃ ys,HO.dK []=.dN ys)\/∃ ys,HO.dK []=.dK ys:=.inr ⟨_,rfl⟩;exact fin (Fw I3 (by rw [hd];exact True.intro) hs' ⟨q,hq⟩ (ob:=.dN [(k,b,v1)]) ⟨(by decide:1<=sizeLine),lo,_,pn,q,es,ep',hq,g2,g3,g4,g5⟩) (Ev.dn hd ho) (rs3.setN at' hd ho (.cons ok rkk r2 .nil))
  ·cases en;rw [e0] at em;cases em
 ·cases q
end
end DL
namespace DL
open PySem PySem.Spec PyProof.Rows L2
theorem bN {X:Cx}:OpR X (binaryOp .FloorDiv) (rI (fun _ j=>j≠0/\j.natAbs < 10889035741470030830827987437816582766592) fun i j=>.int (i.fdiv j)):=opI fun _ j _ _ _ _ _ hc q=>floordiv_int hc.1 q (.inl (PyProof.noPylong_of_log2 (by
 have h:j.natAbs < 2 ^ 133:=hc.2
 by_cases h0:j.natAbs=0
 ·rw [h0];decide +kernel
 ·have h60:j.natAbs.log2 < 133:=(Nat.log2_lt h0).mpr h
  omega)))
structure SC where
 N:List Str
 scope:Scope
 own:Str->Bool
structure Gb where
 cal:Str->Option (List Str×Fn)
 con:Str->Option D
 dic:Str->Option (List (Str×D))
 fld:Str->Str->Bool
 met:Str->Str->Option (List Str×Fn)
 mkr:Str->Option Str
 clo:yX:=fun _ _ _ _=>none
noncomputable def slot (N:List Str) (x:Str):Option Nat:=N.findIdx? (fun y=>y==x)
noncomputable def bO (sc:Scope) (x:Str):Bool:=match sc.names.lookup x with
 | some .local=>true
 | some .cell=>true
 | some .free=>true
 | _=>false
noncomputable def X6 (sc:Scope) (x:Str):Bool:=match sc.names.lookup x with
 | some .local=>true
 | some .cell=>true
 | _=>false
noncomputable def glB (sc:Scope) (x:Str):Bool:=match sc.names.lookup x with
 | some .globalImplicit=>true
 | _=>false
noncomputable def R8 (i j:Int):Bool:=decide (-(2 ^ 64) < i/\i < 2 ^ 64) || decide (-(2 ^ 64) < j/\j < 2 ^ 64)
noncomputable def yZ:Operator->Option (D->D->MH->Option (D×MH))
 | .Add=>some Aq
 | .Sub=>some (iop (fun _ _=>true) fun i j=>i - j)
 | .Mult=>some (Oi (Ol (iop R8 fun i j=>i * j)))
 | .FloorDiv=>some (iop (fun _ j=>decide (j≠0)&&decide (j.natAbs < 10889035741470030830827987437816582766592)) fun i j=>i.fdiv j)
 | .Mod=>some (iop (fun _ j=>decide (j≠0)) fun i j=>i.fmod j)
 | _=>none
noncomputable def Mj:CmpOp->(D->D->MH->Option (D×MH))
 | .Eq=>eqD
 | .NotEq=>neD
 | .Lt=>Rn fun i j=>decide (i < j)
 | .LtE=>Rn fun i j=>decide (i<=j)
 | .Gt=>Rn fun i j=>decide (j < i)
 | .GtE=>Rn fun i j=>decide (j<=i)
 | .Is=>isD false
 | .IsNot=>isD true
 | .In=>inD false
 | .NotIn=>inD true
theorem lO {X:Cx}{op:Operator}{f:D->D->MH->Option (D×MH)}(h:yZ op=some f):OpR X (binaryOp op) (rD X.K f):=by
 cases op <;> (try cases h)
 ·exact jP
 ·exact jN qK
 ·refine aV (bD (Pk qL fun i j h=>?_));unfold R8 at h;rw [Bool.or_eq_true,decide_eq_true_iff,decide_eq_true_iff] at h;exact h
 ·exact Pk gZ fun i j h=>of_decide_eq_true h
 ·refine Pk bN fun i j h=>?_
  rw [Bool.and_eq_true,decide_eq_true_iff,decide_eq_true_iff] at h;exact ⟨h.1,h.2⟩
theorem Fg {X:Cx}(hu:X.A.units+64 < cLine) (op:CmpOp):OpR X (compareOp op) (rD X.K (Mj op)):=by
 cases op
 ·exact tK hu
 ·exact rY hu
 ·exact Km xK
 ·exact Km xM
 ·exact Km xN
 ·exact Km xO
 ·exact rZ
 ·exact Xb
 ·exact tB hu
 ·exact Xy hu
noncomputable def isStar:Expr->Bool
 | .Starred ..=>true
 | _=>false
noncomputable def isSet:Expr->Bool
 | .Set ..=>true
 | _=>false
noncomputable def G7:Expr->Bool
 | .ListComp ..=>true
 | .SetComp ..=>true
 | .DictComp ..=>true
 | _=>false
noncomputable def isSlice:Expr->Bool
 | .Slice ..=>true
 | _=>false
noncomputable def baseOk:Expr->Bool
 | .Call (.Name ..) [] [] _=>false
 | _=>true
noncomputable def tyOf (_:Str):Option String:=none
noncomputable def X7:Fn:=fun _ _=>none
noncomputable def R9 (_:D) (_:List D) (_:MH):Option (D×MH):=none
theorem Ja {X:Cx}{f:Value}:Bs X f (rDs X.K X7):=by
 rintro _ _ _ _ _ _ _ _ _ ⟨_,_,_,_,_,e,_⟩;cases e
theorem Ml {X:Cx}{id:String}:MtR X id (rDM X.K R9):=by
 rintro _ _ _ _ _ _ _ _ _ _ _ _ ⟨_,_,_,_,_,_,e,_⟩;cases e
noncomputable def bQ (x:Str):Option Fn:=if x=="len" then some Es else if x=="list" then some Oa else if x=="tuple" then some Dm else if x=="all" then some X7 else if x=="any" then some X7 else if x=="max" then some X7 else if x=="min" then some X7 else if x=="int" then some intD else if x=="sorted" then some Dk else if x=="sum" then some X7 else none
noncomputable def Jy (m:Str) (n:Nat):Option (String×(D->List D->MH->Option (D×MH))) :=
 if m == "append"&&n==1 then some ("list",Ds) else if m == "bit_length"&&n==0 then some ("int",R9) else if m == "pop"&&n==1 then some ("list",R9) else if m == "pop"&&n==0 then some ("list",Xj) else if m == "extend"&&n==1 then some ("list",Gz) else if m == "index"&&n==1 then some ("tuple",R9) else none
noncomputable def Dd:Expr->Bool
 | .Tuple ..=>true
 | _=>false
noncomputable def setArg (_:Expr) (_:List Expr):Option Expr:=none
noncomputable def tL (_:Expr) (_:List Expr):Option Expr:=none
noncomputable def tM:List (Option Expr)->List Expr->Option (Expr×Expr)
 | [some k],[v]=>some (k,v)
 | _,_=>none
theorem X8 {ks:List (Option Expr)}{vs:List Expr}{k v:Expr}(h:tM ks vs=some (k,v)):ks=[some k]/\vs=[v]:=by
 unfold tM at h;split at h
 ·cases h;exact ⟨rfl,rfl⟩
 ·cases h
noncomputable def tO (_:Expr) (_:List Expr):Option (Expr×Expr):=none
noncomputable def V3 (_:SC) (_:Expr) (_:CmpOp) (_:Expr):Option (Nat×Nat):=none
noncomputable def Cp (scope:Scope):List Str:=(scope.names.filter fun p=>(match p.2 with | .local=>true | .cell=>true | .free=>true | _=>false)).map (·.1)
noncomputable def Mp (N:List Str) (scope:Scope):List (Option Nat):=(Cp scope).map fun x=>match scope.names.lookup x with
 | some .free=>slot N x
 | _=>none
noncomputable def Jb (scope outer:Scope):Scope:={ scope with names:=scope.names.map fun (n,k)=>if (k==.free&&outer.kind==.function&&outer.names.lookup n==some .cell) then (n,.cell) else (n,k) }
noncomputable def Qe (scope:Scope) (sc:SC):SC:={ N:=Cp scope,scope:=Jb scope sc.scope,own:=fun x=>X6 scope x }
noncomputable def Kr (scope:Scope) (sc:SC):Bool :=
 (match scope.kind with | .function=>true | _=>false)&&(decide ((scope.names.map (·.1)).Nodup) &&
  scope.names.all fun p=>(match p.2 with | .free=>(match sc.scope.names.lookup p.1 with | some .cell=>true | some .free=>true | _=>false) | _=>true))
noncomputable def Sd (G:Gb) (sc:SC):Expr->Option (List (Str×D))
 | _=>none
noncomputable def bR (G:Gb) (sc:SC) (op:CmpOp) (b:Expr):Option (Bool×List (Str×D)):=match op with
 | .In=>(match Sd G sc b with | some kvs=>some (false,kvs) | none=>none)
 | .NotIn=>(match Sd G sc b with | some kvs=>some (true,kvs) | none=>none)
 | _=>none
noncomputable def zA (G:Gb) (f:Str):List Expr->Option Str
 | []=>G.mkr f
 | _=>none
noncomputable def iGn (sc:SC) (x:Str):Option Nat:=if X6 sc.scope x&&sc.own x then slot sc.N x else none
noncomputable def iGs (sc:SC):List Expr->Option (List Nat)
 | []=>some []
 | .Name x _::r=>match iGn sc x with
  | some i=>match iGs sc r with
   | some is=>some (i::is)
   | none=>none
  | none=>none
 | _=>none
noncomputable def iG (sc:SC):Expr->Option (List Nat×GM)
 | .Name x _=>match iGn sc x with | some i=>some ([i],Ag i) | none=>none
 | .Tuple es _ _=>match iGs sc es with | some is=>some (is,Iu is) | none=>none
 | _=>none
noncomputable def tQ:Option Str->Bool
 | some n=>n == "default"
 | none=>false
noncomputable def lQ:Expr->Bool
 | .Constant .none _ _=>true
 | _=>false
noncomputable def Ut (k:Keyword):Bool:=tQ k.arg&&lQ k.value
theorem Sg {k:Keyword}(h:Ut k=true):∃ j cp kp,k=⟨some "default",.Constant .none j cp,kp⟩:=by
 obtain ⟨n,v,p⟩:=k;unfold Ut at h;rw [Bool.and_eq_true] at h;obtain ⟨h1,h2⟩:=h;cases n with
 | none=>cases h1
 | some n =>
  have e:n = "default":=eq_of_beq h1
  subst e;cases v with
  | Constant c j cp =>
   cases c with
   | none=>exact ⟨_,_,_,rfl⟩
   | _=>cases h2
  | _=>cases h2
noncomputable def iEb (E:SC->Expr->DM D) (T:SC->Expr->DM Bool) (A:SC->List Expr->DM (List D)) (F:SC->List Expr->DM Bool) (I:SC->Expr->Expr->DM Src) (G:Gb) (sc:SC) (e:Expr):DM D:=match e with
 | .Constant (.int i) _ _=>Zr (.int i)
 | .Constant (.bool b) _ _=>Zr (.bl b)
 | .Constant .none _ _=>Zr .non
 | .Constant (.str x) _ _=>Zr (.str x)
 | .Name x _=>if bO sc.scope x&&!(x == "__debug__")&&!(x == "__classdict__") then (match slot sc.N x with
   | some i=>fun loc mh=>match loc[i]? with | some (some d)=>some (d,mh) | _=>none
   | none=>Zb) else if glB sc.scope x&&!(x == "__debug__") then (match G.con x with | some d=>Zr d | none=>Zb) else Zb
 | .BinOp a op b _=>(match yZ op with | some f=>dop f (E sc a) (E sc b) | none=>Zb)
 | .UnaryOp .USub a _=>(E sc a).bnd fun x=>Zl (sS x)
 | .UnaryOp .Not a _=>(Ae (E sc a)).bnd fun c=>Zr (.bl (!c))
 | .BoolOp op [a] _=>E sc a
 | .BoolOp .And (a::b::r) p=>Rk (E sc a) (E sc (.BoolOp .And (b::r) p))
 | .BoolOp .Or (a::b::r) p=>Zk (E sc a) (E sc (.BoolOp .Or (b::r) p))
 | .Compare a [op] [b] _=>(match V3 sc a op b with
  | some (i,j)=>aA (fun loc mh=>match loc[i]? with | some (some d)=>some (d,mh) | _=>none) (fun loc mh=>match loc[j]? with | some (some d)=>some (d,mh) | _=>none)
  | none=>match bR G sc op b with
   | some (neg,kvs)=>Zb
   | none=>if isSet b then Zb else dop (Mj op) (E sc a) (E sc b))
 | .Compare a [op,op'] [b,c] _=>if isSet c then Zb else Lh (Mj op) (Mj op') (E sc a) (E sc b) (E sc c)
 | .IfExp c a b _=>dIf (T sc c) (E sc a) (E sc b)
 | .Tuple es _ _=>(A sc es).bnd fun ds=>Zl (N6 ds)
 | .List es _=>(A sc es).bnd fun ds=>Zl (N7 ds)
 | .Dict ks vs _=>if ks.isEmpty&&vs.isEmpty then newD else if oH ks vs&&!ks.isEmpty&&decide (ks.length<=15) then Zb else (match tM ks vs with | some (k,v)=>Jx (E sc k) (E sc v) | none=>Zb)
 | .Subscript a (.Slice lo hi none _) _=>dSl (E sc a) (match lo with | some e=>some (E sc e) | none=>none) (match hi with | some e=>some (E sc e) | none=>none)
 | .Subscript a b _=>if isSlice b then Zb else (match Sd G sc a with | some kvs=>Zb | none=>dop ixD (E sc a) (E sc b))
 | .Attribute o f _=>if baseOk o then Zb else Zb
 | .Call (.Name f _) [] [] _=>if glB sc.scope f&&!(f == "__debug__") then (match G.cal f with | some ([],g)=>Zl (g []) | _=>Zb) else Zb
 | .Call (.Name f _) (a::es) [] _=>if bO sc.scope f&&!(f == "__debug__")&&!(f == "__classdict__")&&!(isStar a)&&es.all (fun e=>!isStar e) then Zb else if glB sc.scope f&&!(f == "__debug__")&&!(f == "__name__")&&!(isStar a)&&es.all (fun e=>!isStar e) then
   (match G.cal f with
   | some (_,g)=>(A sc (a::es)).bnd fun ds=>Zl (g ds)
   | none=>match zA G f es with
    | some fl=>Zb
    | none=>match setArg a es with
    | some b=>if glB sc.scope "set" then (if f == "len" then (E sc b).bnd (fun x=>Zl (kZ x)) else if f == "sorted" then (E sc b).bnd (fun x=>Zl (Xo x)) else Zb) else Zb
    | none=>match tO a es with
    | some (b,c)=>if glB sc.scope "zip"&&f == "list" then (A sc [b,c]).bnd (fun ds=>Zl (aP ds)) else if glB sc.scope "zip"&&f == "sorted" then (A sc [b,c]).bnd (fun ds=>Zl (aQ ds)) else Zb
    | none=>match tL a es with
    | some b=>if glB sc.scope "range" then (if f == "list" then (E sc b).bnd (fun x=>Zl (aC x)) else if f == "tuple" then (E sc b).bnd (fun x=>Zl (lE x)) else Zb) else Zb
    | none=>if f == "isinstance" then (match es with
    | [.Name c _]=>if glB sc.scope c&&!(c == "__debug__")&&!(c == "__name__") then (match tyOf c with | some ty=>(E sc a).bnd fun x=>Zl (Abb ty x) | none=>Zb) else Zb
    | _=>Zb) else match bQ f with
     | some g=>(A sc (a::es)).bnd fun ds=>Zl (g ds)
     | none=>Zb) else Zb
 | .Call (.Name f _) [a] (kw::ks) _=>if glB sc.scope f&&!(isStar a)&&Ut kw&&ks.isEmpty then (if f == "max" then Zb else if f == "min" then Zb else Zb) else Zb
 | .Call (.Attribute o m ap) [] [] p=>if baseOk o&&(ap.endLine==p.line) then (match Jy m 0 with | some (ty,f)=>Cm ty f (E sc o) (Zr []) | none=>Zb) else Zb
 | .Call (.Attribute o m ap) (a::es) [] p=>if baseOk o&&(ap.endLine==p.line)&&!(isStar a)&&es.all (fun e=>!isStar e)&&decide ((a::es).length < 20) then (if m == "get" then (match Sd G sc o with | some kvs=>Zb | none=>getM (E sc o) (A sc (a::es))) else if m == "count"&&es.isEmpty then Vv "tuple" R9 "list" R9 (E sc o) (A sc (a::es)) else if m == "index"&&es.isEmpty then Vv "tuple" R9 "list" R9 (E sc o) (A sc (a::es)) else (match Jy m (a::es).length with | some (ty,f)=>Cm ty f (E sc o) (A sc (a::es)) | none=>Zb)) else Zb
 | .ListComp elt [⟨tg,iter,ifs,k⟩] scope _=>if k==0&&Kr scope sc&&!(isSet iter) then (match iG (Qe scope sc) tg with
   | some (ws,g)=>if ws.all (fun i=>match (Mp sc.N scope)[i]? with | some (some _)=>false | _=>true) then Dl (I sc tg iter) (Mp sc.N scope) g (F (Qe scope sc) ifs) (E (Qe scope sc) elt) else Zb
   | none=>Zb) else Zb
 | _=>Zb
noncomputable def iTb (E:SC->Expr->DM D) (T:SC->Expr->DM Bool) (A:SC->List Expr->DM (List D)) (F:SC->List Expr->DM Bool) (I:SC->Expr->Expr->DM Src) (G:Gb) (sc:SC) (e:Expr):DM Bool:=match e with
 | .UnaryOp .Not a _=>N5 (T sc a)
 | .BoolOp op [a] _=>T sc a
 | .BoolOp .And (a::b::r) p=>Gp (T sc a) (T sc (.BoolOp .And (b::r) p))
 | .BoolOp .Or (a::b::r) p=>Le (T sc a) (T sc (.BoolOp .Or (b::r) p))
 | .BoolOp _ [] _=>Zb
 | .IfExp ..=>Zb
 | .Compare a [op] [b] _=>(match bR G sc op b with
  | some (neg,kvs)=>Zb
  | none=>if isSet b then Zb else Ae (dop (Mj op) (E sc a) (E sc b)))
 | .Compare a [op,op'] [b,c] _=>if isSet c then Zb else Ae (Lh (Mj op) (Mj op') (E sc a) (E sc b) (E sc c))
 | .Compare ..=>Zb
 | e=>Nf (E sc e)
noncomputable def iIb (E:SC->Expr->DM D) (T:SC->Expr->DM Bool) (A:SC->List Expr->DM (List D)) (F:SC->List Expr->DM Bool) (I:SC->Expr->Expr->DM Src) (G:Gb) (sc:SC) (tg e:Expr):DM Src:=match e with
 | .Call (.Name f p) [a] [] p'=>if f == "range"&&glB sc.scope f then (if isStar a then Zb else Fy Gr (A sc [a])) else if f == "enumerate"&&glB sc.scope f then (if isStar a || !(Dd tg) then Zb else Hu (E sc a)) else Cy (E sc (.Call (.Name f p) [a] [] p'))
 | .Call (.Name f p) [a,b] [] p'=>if f == "range"&&glB sc.scope f then (if isStar a || isStar b then Zb else Fy Xd (A sc [a,b])) else if f == "zip"&&glB sc.scope f then (if isStar a || isStar b || !(Dd tg) then Zb else Zb) else Cy (E sc (.Call (.Name f p) [a,b] [] p'))
 | .Call (.Name f p) [a,b,c] [] p'=>if f == "range"&&glB sc.scope f then (if isStar a || isStar b || isStar c then Zb else Zb) else Cy (E sc (.Call (.Name f p) [a,b,c] [] p'))
 | .Call (.Attribute o m ap) [] [] p=>if m == "items"&&baseOk o&&(ap.endLine==p.line)&&Dd tg then Jw (E sc o) else Cy (E sc (.Call (.Attribute o m ap) [] [] p))
 | e=>Cy (E sc e)
mutual
noncomputable def iE (G:Gb):Nat->SC->Expr->DM D
 | 0,_,_=>Zb
 | n+1,sc,e=>iEb (iE G n) (iT G n) (iA G n) (iF G n) (iI G n) G sc e
termination_by structural n=>n
noncomputable def iT (G:Gb):Nat->SC->Expr->DM Bool
 | 0,_,_=>Zb
 | n+1,sc,e=>iTb (iE G n) (iT G n) (iA G n) (iF G n) (iI G n) G sc e
termination_by structural n=>n
noncomputable def iA (G:Gb):Nat->SC->List Expr->DM (List D)
 | 0,_,_=>Zb
 | n+1,sc,es=>match es with
  | []=>Zr []
  | a::r=>if isStar a then Zb else Aa (iE G n sc a) (iA G n sc r)
termination_by structural n=>n
noncomputable def iF (G:Gb):Nat->SC->List Expr->DM Bool
 | 0,_,_=>Zb
 | n+1,sc,es=>match es with
  | []=>Zr true
  | [c]=>iT G n sc c
  | _=>Zb
termination_by structural n=>n
noncomputable def iI (G:Gb):Nat->SC->Expr->Expr->DM Src
 | 0,_,_,_=>Zb
 | n+1,sc,tg,e=>iIb (iE G n) (iT G n) (iA G n) (iF G n) (iI G n) G sc tg e
termination_by structural n=>n
end
noncomputable def zB (sc:SC) (x:Str) (px:Pos) (y:Str) (py:Pos) (a b:Expr):Bool :=
 ((if sc.scope.kind.isAnnotationScope then ScopeKind.function else sc.scope.kind)==.function)&&(sc.scope.names.lookup x==some .local)&&(sc.scope.names.lookup y==some .local)&&(py.line==px.line)&&!(x==y)&&!isStar a&&!isStar b&&!([a,b].all (foldedForSure 8))&&!([a,b].all (constantsAlone 8))
noncomputable def tR (mr:DM (List D)) (i j:Nat):SM:=fun loc mh=>match mr loc mh with
 | some ([d,e],h)=>some (.nx,(loc.set i (some d)).set j (some e),h)
 | _=>none
noncomputable def iGt (G:Gb) (n:Nat) (sc:SC) (tg:Expr):Option GM:=match tg with
 | .Subscript o i _=>if isSlice i then none else some (Cj (iE G n sc o) (iE G n sc i))
 | tg=>match iG sc tg with | some (_,g)=>some g | none=>none
noncomputable def tU (n:Nat) (G:Gb) (sc:SC) (tg v:Expr):SM:=match tg,v with
 | .Name y py,.ListComp elt gens scope vp=>(match iG sc (.Name y py) with | some (_,g)=>Ah (iE G n sc (.ListComp elt gens scope vp)) g | none=>SM.bad)
 | .Tuple [.Name x px,.Name y py] _ _,.Tuple [a,b] _ _=>if zB sc x px y py a b then (match slot sc.N x,slot sc.N y with | some i,some j=>tR (iA G n sc [a,b]) i j | _,_=>SM.bad) else SM.bad
 | tg,v=>if G7 v || (Dd tg&&Dd v) then SM.bad else (match iGt G n sc tg with | some g=>Ah (iE G n sc v) g | none=>SM.bad)
noncomputable def iSb (n:Nat) (B:SC->List Stmt->SM) (G:Gb) (sc:SC) (s:Stmt):SM:=match s with
 | .Expr e _=>if G7 e then SM.bad else Hr (iE G n sc e)
 | .Pass _=>Zn
 | .Break _=>fun loc mh=>some (.bk,loc,mh)
 | .Continue _=>fun loc mh=>some (.ct,loc,mh)
 | .Return (some e) _=>retS (iE G n sc e)
 | .Return none _=>fun loc mh=>some (.rt .non,loc,mh)
 | .Assign [tg] v _=>tU n G sc tg v
 | .If c a b _=>ifS (iT G n sc c) (B sc a) (B sc b)
 | .While c body [] _=>Pq (iT G n sc c) (B sc body)
 | .For tg it body [] _=>if isSet it then SM.bad else (match iG sc tg with | some (_,g)=>Cv (iI G n sc tg it) g (B sc body) | none=>SM.bad)
 | _=>SM.bad
mutual
noncomputable def iS (G:Gb):Nat->SC->Stmt->SM
 | 0,_,_=>SM.bad
 | n+1,sc,s=>iSb n (iSs G n) G sc s
termination_by structural n=>n
noncomputable def iSs (G:Gb):Nat->SC->List Stmt->SM
 | 0,_,_=>SM.bad
 | n+1,sc,ss=>match ss with
  | []=>Zn
  | s::r=>Ab (iS G n sc s) (iSs G n sc r)
termination_by structural n=>n
end
structure FnI where
 ps:List Str
 N:List Str
 scope:Scope
 body:List Stmt
noncomputable def Af (G:Gb) (n:Nat) (f:FnI):Fn:=fun ds mh=>if ds.length=f.ps.length then (match iSs G n { N:=f.N,scope:=f.scope,own:=fun _=>true } f.body (ds.map some++List.replicate (f.N.length - ds.length) none) mh with
 | some (.rt d,_,mh')=>some (d,mh')
 | some (.nx,_,mh')=>some (.non,mh')
 | _=>none) else none
noncomputable def fuel:Nat:=60
structure Tb where
 tb:Str->Option FnI
 con:Str->Option D
 dic:Str->Option (List (Str×D))
 fld:Str->Str->Bool
 tbm:Str->Str->Option FnI
 mkr:Str->Option Str
noncomputable def GkN (T:Tb):Nat->Gb
 | 0=>{ cal:=fun _=>none,con:=T.con,dic:=T.dic,fld:=T.fld,met:=fun _ _=>none,mkr:=T.mkr }
 | k+1=>{ cal:=fun x=>(match T.tb x with | some I=>some (I.ps,Af (GkN T k) fuel I) | none=>none),con:=T.con,dic:=T.dic,fld:=T.fld,met:=fun c m=>(match T.tbm c m with | some I=>some (I.ps,Af (GkN T k) fuel I) | none=>none),mkr:=T.mkr }
noncomputable def Mq:List Str:=["len", "list", "tuple", "range", "isinstance", "int", "bool", "str", "dict", "set", "sorted", "all", "any", "max", "min", "enumerate", "zip", "sum"]
structure GOk (P:Program) (w:World) (K:PySem.W.Frag) (mg:Str->Option Value) (base:Heap) (k:Nat) (G:Gb):Prop where
 fn:∀ x ps f,G.cal x=some (ps,f)->∃ fa fd,mg x=some (.ref fa)/\PySem.W.keepIn K (.ref fa)=true/\Binds K fd ps []/\FnOk P w K mg base CX0 (k+2) fa fd ps (spD K ps.length f)/\∀ ds mh r,f ds mh=some r->ds.length=ps.length
 con:∀ x d,G.con x=some d->∃ u v,mg x=some u/\RelV v u/\∀ H ρ,RD K H ρ d v
 blt:∀ b∈Mq,mg b=none
 dic:∀ x kvs,G.dic x=some kvs->∃ a,mg x=some (.ref a)/\DicOk w K a kvs
 fld:∀ c f,G.fld c f=true->∃ C,PySem.W.nsIn K mainGlobals c=some (some (.ref C))/\Cls K C/\Yz K C f
 met:∀ c m ps g,G.met c m=some (ps,g)->∃ C fa fd,PySem.W.nsIn K mainGlobals c=some (some (.ref C))/\Cls K C/\Meth K C m fa/\Binds K fd ps []/\FnOk P w K mg base CX0 (k+2) fa fd ps (spD K ps.length g)/\∀ ds mh r,g ds mh=some r->ds.length=ps.length
 mkr:∀ c f,G.mkr c=some f->∃ C fa fd ps,PySem.W.nsIn K mainGlobals c=some (some (.ref C))/\Mk K C fa/\mg c=some (.ref C)/\Binds K fd ps []/\FnOk P w K mg base CX0 1 fa fd ps (spI C f)
 clo:oJ P w K mg base (k+2) G.clo
structure XOk (X:Cx) (k:Nat) (G:Gb) (sc:SC):Prop where
 N:X.N=sc.N
 nd:sc.N.Nodup
 sco:X.env.scope=sc.scope
 own:∀ x,sc.own x=true->L2.Loc sc.scope x->X.fn x=true\/sc.scope.names.lookup x=some .local
 calm:X.calm=true
 xe:X.xe=fun _ _=>False
 room:Room (k+2) X.A
 g:GOk X.prog X.w X.K X.mg X.base k G
theorem Dv {N:List Str}{x:Str}{i:Nat}(h:slot N x=some i):N[i]?=some x:=by
 unfold slot at h;obtain ⟨hl,hp,_⟩:=List.findIdx?_eq_some_iff_getElem.mp h;rw [List.getElem?_eq_getElem hl];exact congrArg some (eq_of_beq hp)
theorem lR {sc:Scope}{x:Str}(h:bO sc x=true):Vis sc x:=by
 unfold bO at h;split at h
 ·exact .inl (by assumption)
 ·exact .inr (.inl (by assumption))
 ·exact .inr (.inr (by assumption))
 ·cases h
theorem Qf {sc:Scope}{x:Str}(h:X6 sc x=true):L2.Loc sc x:=by
 unfold X6 at h;split at h
 ·exact .inl (by assumption)
 ·exact .inr (by assumption)
 ·cases h
theorem tV {sc:Scope}{x:Str}(h:glB sc x=true):sc.names.lookup x=some .globalImplicit:=by
 unfold glB at h;split at h
 ·assumption
 ·cases h
section
variable {X:Cx}{k:Nat}{G:Gb}{sc:SC}
theorem XOk.gl (O:XOk X k G sc) {x:Str}(h:glB sc.scope x=true):Gl X x:=by
 show X.env.scope.names.lookup x=_;rw [O.sco];exact tV h
theorem XOk.vis (O:XOk X k G sc) {x:Str}(h:bO sc.scope x=true):Vis X.env.scope x:=by rw [O.sco];exact lR h
theorem XOk.units (O:XOk X k G sc):X.A.units+64 < cLine:=O.room.units
theorem Bh {a:Expr}{es:List Expr}{env:Env}(h:isStar a=false):starEach (a::es) env=(false,eval a env)::starEach es env:=by
 cases a <;> first | rfl | cases h
theorem Aw {pos:Pos}{env:Env}:∀ {es:List Expr},(es.all fun e=>!isStar e)=true->(backTo pos (starEach es env)).any (·.1)=false
 | [],_=>rfl
 | a::r,h=>by
  rw [List.all_cons,Bool.and_eq_true] at h;have h1:isStar a=false:=by simpa using h.1
  rw [Bh h1];show (false || (backTo pos (starEach r env)).any (·.1))=false;rw [Aw h.2];rfl
theorem Qg {pos:Pos}{env:Env}:∀ {es:List Expr},(es.all fun e=>!isStar e)=true->(backTo pos (starEach es env)).all (fun x=>!x.1)=true
 | [],_=>rfl
 | a::r,h=>by
  rw [List.all_cons,Bool.and_eq_true] at h;have h1:isStar a=false:=by simpa using h.1
  rw [Bh h1];show (true&&(backTo pos (starEach r env)).all (fun x=>!x.1))=true;rw [Qg h.2];rfl
theorem Ck {o:Expr}{name:Str}{env:Env}{w:Sem Value}(h:baseOk o=true):attributeBase o name env w=w:=by
 cases o <;> try rfl
 rename_i f as kw p;cases f <;> try rfl
 cases as <;> try rfl
 cases kw <;> try rfl
 cases h
theorem Uu {e:Expr}{env:Env}(h:isSet e=false):∀ x,foldedSetIterable e env x=pure x:=by
 intro x;cases e <;> first | rfl | cases h
theorem Jc {op:CmpOp}{e:Expr}(h:isSet e=false):behindInMarks op e=false:=by
 cases e <;> first | rfl | cases h
theorem zE {b:Expr}(h:isSlice b=false):O5 b:=by
 intro o i;cases b <;> first | rfl | cases h
theorem Mr (O:XOk X k G sc) (scope:Scope):relabel scope X.env=Jb scope sc.scope:=by
 unfold relabel Jb Env.kindOf;rw [O.sco]
theorem Jz (O:XOk X k G sc) {scope:Scope}(h:Kr scope sc=true):CompOk X scope:=by
 unfold Kr at h;rw [Bool.and_eq_true,Bool.and_eq_true] at h;obtain ⟨h1,h2,h3⟩:=h;refine ⟨?_,of_decide_eq_true h2,fun p hp e=>?_⟩
 ·split at h1
  ·assumption
  ·cases h1
 ·have:=List.all_eq_true.mp h3 p hp;rw [e] at this;show X.env.scope.names.lookup p.1=_\/X.env.scope.names.lookup p.1=_;rw [O.sco];dsimp only at this;split at this
  ·exact .inl (by assumption)
  ·exact .inr (by assumption)
  ·cases this
theorem Qh {scope:Scope}(h:(scope.names.map (·.1)).Nodup):(Cp scope).Nodup:=by
 unfold Cp;exact h.sublist ((List.filter_sublist).map _)
theorem Sq (O:XOk X k G sc) (scope:Scope):CapOk X (Cp scope) scope (Mp sc.N scope):=by
 refine ⟨by unfold Mp;rw [List.length_map],fun i x j e1 e2=>?_⟩;unfold Mp at e2;rw [List.getElem?_map,e1] at e2;simp only [Option.map_some,Option.some.injEq] at e2;split at e2
 ·rename_i hl;exact ⟨hl,by rw [O.N];exact Dv e2⟩
 ·cases e2
theorem XOk.comp (O:XOk X k G sc) {scope:Scope}(h:Kr scope sc=true) (pins:List (Addr×Obj)) (C:Addr) (cells:List (Str×Addr)) (s₀:Shared) (H₀:Hp) (fp:List Addr) :
  XOk (Bj X pins (Cp scope) scope C cells s₀ H₀ fp) k G (Qe scope sc):=by
 have S:=Jz O h;refine ⟨rfl,Qh S.nd,Mr O scope,fun x hx hl=>?_,O.calm,rfl,O.room,O.g⟩;have hx:X6 scope x=true:=hx;rcases Qf hx with q|q
 ·right;show (Jb scope sc.scope).names.lookup x=_;rw [← Mr O scope,Dz,q];rfl
 ·left;exact decide_eq_true (PySem.mem_of_lookup q)
theorem Ss {x:Str}{i:Nat}(h:iGn sc x=some i):X6 sc.scope x=true/\sc.own x=true/\slot sc.N x=some i:=by
 unfold iGn at h;split at h
 ·rename_i hc;rw [Bool.and_eq_true] at hc;exact ⟨hc.1,hc.2,h⟩
 ·cases h
theorem XOk.name (O:XOk X k G sc) {x:Str}{i:Nat}{pos:Pos}(h:iGn sc x=some i):PG X (.Name x pos) (Yr i):=by
 obtain ⟨h1,h2,h3⟩:=Ss h;have hl:=Qf h1;refine Vg (by rw [O.N];exact O.nd) (by rw [O.N];exact Dv h3) (by rw [O.sco];exact hl) ?_;rw [O.sco];exact O.own x h2 hl
theorem XOk.names (O:XOk X k G sc) {es:List Expr}{is:List Nat}(h:iGs sc es=some is):PGs X es (gNs is)/\(assignEach es X.env).length=is.length/\(assignEach es X.env).findIdx? (·.1)=none:=by
 induction es generalizing is with
 | nil=>cases h;exact ⟨gW,rfl,rfl⟩
 | cons e r ih =>
  cases e with
  | Name x p =>
   simp only [iGs] at h;split at h
   ·rename_i i ei;split at h
    ·rename_i js ej;cases h;obtain ⟨h1,h2,h3⟩:=ih ej;refine ⟨Ys (O.name ei) h1 rfl,?_,?_⟩
     ·show (assignEach r X.env).length+1=js.length+1;rw [h2]
     ·show List.findIdx? (fun x=>x.1) ((false,assign (.Name x p) X.env)::assignEach r X.env)=none;rw [List.findIdx?_cons];simp only [Bool.false_eq_true,if_false,h3];rfl
    ·cases h
   ·cases h
  | _=>cases h
theorem XOk.target (O:XOk X k G sc) {tg:Expr}{ws:List Nat}{g:GM}(h:iG sc tg=some (ws,g)):DG X tg ws g:=by
 cases tg with
 | Name x p =>
  simp only [iG] at h;split at h
  ·rename_i i ei;cases h;obtain ⟨h1,h2,h3⟩:=Ss ei;have hl:=Qf h1;refine jY (by rw [O.N];exact O.nd) (by rw [O.N];exact Dv h3) (by rw [O.sco];exact hl) ?_;rw [O.sco];exact O.own x h2 hl
  ·cases h
 | Tuple es kk p =>
  simp only [iG] at h;split at h
  ·rename_i is ei;cases h;obtain ⟨h1,h2,h3⟩:=O.names ei;exact sH O.calm h1 h2 h3
  ·cases h
 | _=>cases h
end
structure SndE (G:Gb) (n:Nat):Prop where
 e:∀ {X:Cx} {k:Nat} {sc:SC},XOk X k G sc->∀ e,DE X e (iE G n sc e)
 t:∀ {X:Cx} {k:Nat} {sc:SC},XOk X k G sc->∀ e,DT X e (iT G n sc e)
 a:∀ {X:Cx} {k:Nat} {sc:SC},XOk X k G sc->∀ es,DA X es (iA G n sc es)
 f:∀ {X:Cx} {k:Nat} {sc:SC},XOk X k G sc->∀ es,DIf X es (iF G n sc es)
 i:∀ {X:Cx} {k:Nat} {sc:SC},XOk X k G sc->∀ tg e,DI X tg e (iI G n sc tg e)
theorem V4 {X:Cx}{es:List Expr}:DIf X es Zb:=fun pins s σ H Q I ⟨loc,mh,ρ,b,mh',q,_⟩=>by cases q
theorem Gs {X:Cx}{tg e:Expr}:DI X tg e Zb:=fun loc mh=>Cq
theorem Ms {X:Cx}{a:Expr}{es:List Expr}{p:Pos}(hs:isStar a=false) (hr:(es.all fun e=>!isStar e)=true) (hk:(a::es).length < 20):((backTo p (starEach (a::es) X.env)).all (fun x=>!x.1)&&(backToKw p (keywordEach [] X.env)).all (fun x=>x.1.isSome)&&decide ((a::es).length+([]:List Keyword).length+(if ([]:List Keyword).isEmpty then 0 else 1) < 30))=true:=by
 rw [Qg (by rw [List.all_cons,hs,hr];rfl)];have:decide ((a::es).length+([]:List Keyword).length+(if ([]:List Keyword).isEmpty then 0 else 1) < 30)=true:=decide_eq_true (by simp;simp at hk;omega);rw [this];rfl
theorem bT {X:Cx}{k:Nat}{G:Gb}{sc:SC}(O:XOk X k G sc) {f:Str}{g:Fn}{p pos:Pos}{a:Expr}{es:List Expr}{mr:DM (List D)}(h:bQ f=some g) (hg:glB sc.scope f=true) (ha:DA X (a::es) mr) (hn:f ≠ "__name__") (hd:(f==("__debug__":Str))=false) (hs:isStar a=false) (hr:(es.all fun e=>!isStar e)=true) :
  DE X (.Call (.Name f p) (a::es) [] pos) (mr.bnd fun ds=>Zl (g ds)):=by
 unfold bQ at h;split at h
 ·rename_i e;cases h;rw [eq_of_beq e] at hg hn hd ⊢;exact Eb X3 (O.gl hg) (O.g.blt _ (by decide +kernel)) PySem.boot_len ha hn hd (Bh hs) (Aw hr)
 ·split at h
  ·rename_i e;cases h;rw [eq_of_beq e] at hg hn hd ⊢;exact Jp T7 (O.gl hg) (O.g.blt _ (by decide +kernel)) (by decide +kernel) ha hn hd (Bh hs) (Aw hr)
  ·split at h
   ·rename_i e;cases h;rw [eq_of_beq e] at hg hn hd ⊢;exact Jp Rp (O.gl hg) (O.g.blt _ (by decide +kernel)) (by decide +kernel) ha hn hd (Bh hs) (Aw hr)
   ·split at h
    ·rename_i e;cases h;rw [eq_of_beq e] at hg hn hd ⊢;exact Eb (Ja (f:=.builtin "all")) (O.gl hg) (O.g.blt _ (by decide +kernel)) (by decide +kernel) ha hn hd (Bh hs) (Aw hr)
    ·split at h
     ·rename_i e;cases h;rw [eq_of_beq e] at hg hn hd ⊢;exact Eb (Ja (f:=.builtin "any")) (O.gl hg) (O.g.blt _ (by decide +kernel)) (by decide +kernel) ha hn hd (Bh hs) (Aw hr)
     ·split at h
      ·rename_i e;cases h;rw [eq_of_beq e] at hg hn hd ⊢;exact Eb (Ja (f:=.builtin "max")) (O.gl hg) (O.g.blt _ (by decide +kernel)) (by decide +kernel) ha hn hd (Bh hs) (Aw hr)
      ·split at h
       ·rename_i e;cases h;rw [eq_of_beq e] at hg hn hd ⊢;exact Eb (Ja (f:=.builtin "min")) (O.gl hg) (O.g.blt _ (by decide +kernel)) (by decide +kernel) ha hn hd (Bh hs) (Aw hr)
       ·split at h
        ·rename_i e;cases h;rw [eq_of_beq e] at hg hn hd ⊢;exact Jp Xv (O.gl hg) (O.g.blt _ (by decide +kernel)) (by decide +kernel) ha hn hd (Bh hs) (Aw hr)
        ·split at h
         ·rename_i e;cases h;rw [eq_of_beq e] at hg hn hd ⊢;exact Eb (Qc O.calm) (O.gl hg) (O.g.blt _ (by decide +kernel)) (by decide +kernel) ha hn hd (Bh hs) (Aw hr)
         ·split at h
          ·rename_i e;cases h;rw [eq_of_beq e] at hg hn hd ⊢;exact Eb (Ja (f:=.builtin "sum")) (O.gl hg) (O.g.blt _ (by decide +kernel)) (by decide +kernel) ha hn hd (Bh hs) (Aw hr)
          ·cases h
theorem Uv {X:Cx}{m:Str}{T:String}{f:D->List D->MH->Option (D×MH)}{o:Expr}{mo:DM D}{ap p:Pos}(h:Jy m 0=some (T,f)) (ho:DE X o mo) (hb:baseOk o=true) (hl:(ap.endLine==p.line)=true):DE X (.Call (.Attribute o m ap) [] [] p) (Cm T f mo (Zr [])):=by
 unfold Jy at h;split at h
 ·rename_i e;rw [Bool.and_eq_true] at e;exact absurd e.2 (by decide)
 ·split at h
  ·rename_i e;rw [Bool.and_eq_true] at e;cases h;rw [eq_of_beq e.1];exact Z5 PySem.F.plainAttrs_int PySem.F.slot_int_bit_length PySem.F.type_int_bit_length Ml ho (Ck hb) hl
  ·split at h
   ·rename_i e;rw [Bool.and_eq_true] at e;exact absurd e.2 (by decide)
   ·split at h
    ·rename_i e;rw [Bool.and_eq_true] at e;cases h;rw [eq_of_beq e.1];exact Z5 PySem.F.plainAttrs_list PySem.F.slot_list_pop PySem.F.type_list_pop lA ho (Ck hb) hl
    ·split at h
     ·rename_i e;rw [Bool.and_eq_true] at e;exact absurd e.2 (by decide)
     ·split at h
      ·rename_i e;rw [Bool.and_eq_true] at e;exact absurd e.2 (by decide)
      ·cases h
theorem Yb {X:Cx}{m:Str}{T:String}{f:D->List D->MH->Option (D×MH)}{o a:Expr}{es:List Expr}{mo:DM D}{mr:DM (List D)}{ap p:Pos}(h:Jy m (a::es).length=some (T,f)) (ho:DE X o mo) (ha:DA X (a::es) mr) (hb:baseOk o=true) (hl:(ap.endLine==p.line)=true) (hs:isStar a=false) (hr:(es.all fun e=>!isStar e)=true) (hk:(a::es).length < 20) :
  DE X (.Call (.Attribute o m ap) (a::es) [] p) (Cm T f mo mr):=by
 have few:((backTo p (starEach (a::es) X.env)).all (fun x=>!x.1)&&(backToKw p (keywordEach [] X.env)).all (fun x=>x.1.isSome)&&decide ((a::es).length+([]:List Keyword).length+(if ([]:List Keyword).isEmpty then 0 else 1) < 30))=true:=by
  rw [Qg (by rw [List.all_cons,hs,hr];rfl)];have:decide ((a::es).length+([]:List Keyword).length+(if ([]:List Keyword).isEmpty then 0 else 1) < 30)=true:=decide_eq_true (by simp;simp at hk;omega);rw [this];rfl
 unfold Jy at h;split at h
 ·rename_i e;rw [Bool.and_eq_true] at e;cases h;rw [eq_of_beq e.1];exact J7 PySem.F.plainAttrs_list PySem.F.slot_list_append PySem.F.type_list_append Uc ho ha (Ck hb) few hl (Bh hs) (Aw hr)
 ·split at h
  ·rename_i e;rw [Bool.and_eq_true] at e;exact absurd (eq_of_beq e.2) (by simp)
  ·split at h
   ·rename_i e;rw [Bool.and_eq_true] at e;cases h;rw [eq_of_beq e.1];exact J7 PySem.F.plainAttrs_list PySem.F.slot_list_pop PySem.F.type_list_pop Ml ho ha (Ck hb) few hl (Bh hs) (Aw hr)
   ·split at h
    ·rename_i e;rw [Bool.and_eq_true] at e;exact absurd (eq_of_beq e.2) (by simp)
    ·split at h
     ·rename_i e;rw [Bool.and_eq_true] at e;cases h;rw [eq_of_beq e.1];exact J7 PySem.F.plainAttrs_list PySem.F.slot_list_extend PySem.F.type_list_extend Ue ho ha (Ck hb) few hl (Bh hs) (Aw hr)
     ·split at h
      ·rename_i e;rw [Bool.and_eq_true] at e;cases h;rw [eq_of_beq e.1];exact J7 PySem.F.plainAttrs_tuple PySem.F.slot_tuple_index PySem.F.type_tuple_index Ml ho ha (Ck hb) few hl (Bh hs) (Aw hr)
      ·cases h
theorem Uw {X:Cx}{k:Nat}{G:Gb}{sc:SC}(O:XOk X k G sc) {a b:Expr}{op:CmpOp}{i j:Nat}{pos:Pos}(h:V3 sc a op b=some (i,j)) :
  DE X (.Compare a [op] [b] pos) (aA (fun loc mh=>match loc[i]? with | some (some d)=>some (d,mh) | _=>none) (fun loc mh=>match loc[j]? with | some (some d)=>some (d,mh) | _=>none)):=by cases h
theorem bU (G:Gb):SndE G 0:=⟨fun _ _=>Ad,fun _ _=>Cw,fun _ _=>Zi,fun _ _=>V4,fun _ _ _=>Gs⟩
theorem zF {G:Gb}{n:Nat}(S:SndE G n) {X:Cx}{k:Nat}{sc:SC}(O:XOk X k G sc) (es:List Expr):DA X es (iA G (n+1) sc es):=by
 cases es with
 | nil=>exact rR
 | cons a r =>
  show DA X (a::r) (if isStar a then Zb else Aa (iE G n sc a) (iA G n sc r));split
  ·exact Zi
  ·rename_i h;exact jM (S.e O a) (S.a O r) (Bh (by simpa using h))
theorem zG {G:Gb}{n:Nat}(S:SndE G n) {X:Cx}{k:Nat}{sc:SC}(O:XOk X k G sc) (es:List Expr):DIf X es (iF G (n+1) sc es):=by
 cases es with
 | nil=>exact kE
 | cons a r =>
  cases r with
  | nil=>exact kJ (S.t O a)
  | cons b r=>exact V4
theorem zH {G:Gb}{n:Nat}(S:SndE G n) {X:Cx}{k:Nat}{sc:SC}(O:XOk X k G sc) (tg e:Expr):DI X tg e (iIb (iE G n) (iT G n) (iA G n) (iF G n) (iI G n) G sc tg e):=by
 cases e with
 | Call ff args kws p' =>
  cases ff with
  | Name f p =>
   cases args with
   | nil=>exact Cz (S.e O _)
   | cons a r =>
    cases r with
    | nil =>
     cases kws with
     | nil =>
      delta iIb
      dsimp only;split
      ·rename_i h;rw [Bool.and_eq_true] at h;split
       ·exact Gs
       ·rename_i hs;have hs:isStar a=false:=by simpa using hs
        have e:=eq_of_beq h.1;subst e;exact Xg (O.gl h.2) (O.g.blt _ (by decide +kernel)) (S.a O [a]) (Bh hs)
      ·split
       ·rename_i h;rw [Bool.and_eq_true] at h;split
        ·exact Gs
        ·rename_i hs;have hs:isStar a=false/\Dd tg=true:=by simpa using hs
         have e:=eq_of_beq h.1;subst e;cases tg with
         | Tuple es kk tp=>exact lC O.calm (O.gl h.2) (O.g.blt _ (by decide +kernel)) (S.e O a) (Bh hs.1)
         | _=>cases hs.2
       ·exact Cz (S.e O _)
     | cons _ _=>exact Cz (S.e O _)
    | cons b r =>
     cases r with
     | nil =>
      cases kws with
      | nil =>
       delta iIb
       dsimp only;split
       ·rename_i h;rw [Bool.and_eq_true] at h;split
        ·exact Gs
        ·rename_i hs;have hs:isStar a=false/\isStar b=false:=by simpa using hs
         have e:=eq_of_beq h.1;subst e;exact Xh (O.gl h.2) (O.g.blt _ (by decide +kernel)) (S.a O [a,b]) (by rw [Bh hs.1,Bh hs.2];rfl) (Bh hs.2)
       ·split
        ·rename_i h;rw [Bool.and_eq_true] at h;split
         ·exact Gs
         ·rename_i hs;have hs:(isStar a=false/\isStar b=false)/\Dd tg=true:=by simpa using hs
          have e:=eq_of_beq h.1;subst e;cases tg with
          | Tuple elts kk tp=>exact Gs
          | _=>cases hs.2
        ·exact Cz (S.e O _)
      | cons _ _=>exact Cz (S.e O _)
     | cons c r =>
      cases r with
      | cons _ _=>exact Cz (S.e O _)
      | nil =>
       cases kws with
       | cons _ _=>exact Cz (S.e O _)
       | nil =>
        delta iIb
        dsimp only;split
        ·rename_i h;rw [Bool.and_eq_true] at h;split
         ·exact Gs
         ·rename_i hs;have hs:(isStar a=false/\isStar b=false)/\isStar c=false:=by simpa using hs
          have e:=eq_of_beq h.1;subst e;exact Gs
        ·exact Cz (S.e O _)
  | Attribute o m ap =>
   cases args with
   | cons _ _=>exact Cz (S.e O _)
   | nil =>
    cases kws with
    | cons _ _=>exact Cz (S.e O _)
    | nil =>
     delta iIb
     dsimp only;split
     ·rename_i h;simp only [Bool.and_eq_true] at h;obtain ⟨⟨⟨h1,h2⟩,h3⟩,h4⟩:=h;have e:=eq_of_beq h1;subst e;cases tg with
      | Tuple es kk tp=>exact bL (S.e O _) (Ck h2) h3
      | _=>cases h4
     ·exact Cz (S.e O _)
  | _=>exact Cz (S.e O _)
 | _=>exact Cz (S.e O _)
theorem oK {X:Cx}{op:BoolOp}{vs:List Expr}{p:Pos}{m:DM Bool}(h:DT X (.BoolOp op vs p) m):DW X (.BoolOp op vs p) m:=fun loc mh wh pins s σ H Q I q=>h loc mh pins s σ H Q I q
theorem zJ {G:Gb}{n:Nat}(S:SndE G n) {X:Cx}{k:Nat}{sc:SC}(O:XOk X k G sc) (e:Expr):DT X e (iTb (iE G n) (iT G n) (iA G n) (iF G n) (iI G n) G sc e):=by
 cases e with
 | UnaryOp op a p =>
  cases op with
  | Not=>exact rN (S.t O _)
  | _=>exact Rm (S.e O _) fun _=>rfl
 | BoolOp op vs p =>
  cases vs with
  | nil=>cases op <;> exact Cw
  | cons a r =>
   cases r with
   | nil =>
    cases op
    ·exact (jJ (S.t O a)).dt
    ·exact (rK (S.t O a)).dt
   | cons b r =>
    cases op
    ·exact (rM (S.t O _) (oK (S.t O _))).dt
    ·exact (yL (S.t O _) (oK (S.t O _))).dt
 | IfExp c a b p=>exact Cw
 | Compare a ops cs p =>
  cases ops with
  | nil=>exact Cw
  | cons op ops =>
   cases ops with
   | nil =>
    cases cs with
    | nil=>exact Cw
    | cons b cs =>
     cases cs with
     | cons _ _=>exact Cw
     | nil =>
      delta iTb
      dsimp only;split
      ·rename_i neg kvs hd;exact Cw
      ·split
       ·exact Cw
       ·rename_i h;exact rJ (Fg O.units _) (Jc (by simpa using h)) (S.e O _) (S.e O _)
   | cons op' ops =>
    cases ops with
    | cons _ _=>exact Cw
    | nil =>
     cases cs with
     | nil=>exact Cw
     | cons b cs =>
      cases cs with
      | nil=>exact Cw
      | cons c cs =>
       cases cs with
       | cons _ _=>exact Cw
       | nil =>
        delta iTb
        dsimp only;split
        ·exact Cw
        ·rename_i h;exact Z3 (Fg O.units _) (Fg O.units _) (by show behindInMarks _ _=false;exact Jc (by simpa using h)) (S.e O _) (S.e O _) (S.e O _)
 | _=>exact Rm (S.e O _) fun _=>rfl
theorem zK {G:Gb}{n:Nat}(S:SndE G n) {X:Cx}{k:Nat}{sc:SC}(O:XOk X k G sc) (e:Expr):DE X e (iEb (iE G n) (iT G n) (iA G n) (iF G n) (iI G n) G sc e):=by
 cases e with
 | Constant c _ _ =>
  cases c with
  | int i=>exact jG pH fun _ _ _=>.int _
  | bool b=>exact jG wI fun _ _ _=>.bl _
  | none=>exact jG pI fun _ _ _=>.non
  | str x=>exact jG pJ fun _ _ _=>.str _
  | _=>exact Ad
 | Name x p =>
  delta iEb
  dsimp only;split
  ·rename_i h;rw [Bool.and_eq_true,Bool.and_eq_true] at h;obtain ⟨⟨h1,h2⟩,h3⟩:=h;split
   ·rename_i i ei;exact rG (by rw [O.N];exact Dv ei) (O.vis h1) (by simpa using h2) (by simpa using h3)
   ·exact Ad
  ·split
   ·rename_i h;rw [Bool.and_eq_true] at h;split
    ·rename_i d ed;obtain ⟨u,v,h1,h2,h3⟩:=O.g.con _ _ ed;exact fun loc mh=>Bg (gM (O.gl h.1) h1 h2 (by simpa using h.2)) fun σ H Q ⟨ρ,d',mh',q,rl,rs,co⟩=>by
      cases q;exact co H ρ v Ev.refl rs (h3 H ρ)
    ·exact Ad
   ·exact Ad
 | BinOp a op b _ =>
  delta iEb
  dsimp only;split
  ·rename_i f ef;exact yI (lO ef) (S.e O _) (S.e O _)
  ·exact Ad
 | UnaryOp op a _ =>
  cases op with
  | USub=>exact yK kY (S.e O _)
  | Not=>exact rQ (S.e O _)
  | _=>exact Ad
 | BoolOp op vs _ =>
  cases vs with
  | nil=>cases op <;> exact Ad
  | cons a r =>
   cases r with
   | nil=>cases op <;> exact rO (S.e O _)
   | cons b r =>
    cases op
    ·exact rP (S.e O _) (S.e O _)
    ·exact yN (S.e O _) (S.e O _)
 | Compare a ops cs _ =>
  cases ops with
  | nil=>exact Ad
  | cons op ops =>
   cases ops with
   | nil =>
    cases cs with
    | nil=>exact Ad
    | cons b cs =>
     cases cs with
     | cons _ _=>exact Ad
     | nil =>
      delta iEb
      dsimp only;split
      ·rename_i i j hp;exact Uw O hp
      ·split
       ·rename_i neg kvs hd;exact Ad
       ·split
        ·exact Ad
        ·rename_i h;exact rH (Fg O.units _) (Jc (by simpa using h)) (S.e O _) (S.e O _)
   | cons op' ops =>
    cases ops with
    | cons _ _=>exact Ad
    | nil =>
     cases cs with
     | nil=>exact Ad
     | cons b cs =>
      cases cs with
      | nil=>exact Ad
      | cons c cs =>
       cases cs with
       | cons _ _=>exact Ad
       | nil =>
        delta iEb
        dsimp only;split
        ·exact Ad
        ·rename_i h;exact Z2 (Fg O.units _) (Fg O.units _) (by show behindInMarks _ _=false;exact Jc (by simpa using h)) (S.e O _) (S.e O _) (S.e O _)
 | IfExp c a b _=>exact yM (S.t O _) (S.e O _) (S.e O _)
 | Tuple es _ _=>exact rT (S.a O _)
 | List es _=>exact rW (S.a O _)
 | Dict ks vs p =>
  delta iEb
  dsimp only;split
  ·rename_i h;rw [Bool.and_eq_true,List.isEmpty_iff,List.isEmpty_iff] at h;obtain ⟨rfl,rfl⟩:=h;exact lH
  split
  ·rename_i h;rw [Bool.and_eq_true,Bool.and_eq_true] at h;exact Ad
  ·split
   ·rename_i kk vv hh;obtain ⟨rfl,rfl⟩:=X8 hh;exact bM O.units (S.e O _) (S.e O _)
   ·exact Ad
 | Subscript a b _ =>
  have gen:DE X (.Subscript a b ‹_›) (if isSlice b then Zb else (match Sd G sc a with | some kvs=>Zb | none=>dop ixD (iE G n sc a) (iE G n sc b))):=by
   split
   ·exact Ad
   ·rename_i h;split
    ·rename_i kvs hd;exact Ad
    ·exact yJ (Abd (by have:=O.room.un;omega)) (zE (by simpa using h)) (S.e O _) (S.e O _)
  cases b with
  | Slice lo hi st _ =>
   cases st with
   | none =>
    refine Zv (S.e O _) ?_ ?_
    ·cases lo with
     | none=>trivial
     | some e=>exact S.e O e
    ·cases hi with
     | none=>trivial
     | some e=>exact S.e O e
   | some s=>exact gen
  | _=>exact gen
 | Attribute o f _ =>
  delta iEb
  dsimp only;split
  ·rename_i h;exact Ad
  ·exact Ad
 | Call ff args kws p' =>
  cases ff with
  | Name f p =>
   cases kws with
   | cons kw ks =>
    cases args with
    | nil=>exact Ad
    | cons a es =>
     cases es with
     | cons _ _=>exact Ad
     | nil =>
      delta iEb
      dsimp only;split
      ·rename_i h;simp only [Bool.and_eq_true] at h;obtain ⟨⟨⟨h1,h4⟩,h5⟩,h6⟩:=h;have h4:isStar a=false:=by simpa using h4
       have h6:ks=[]:=by simpa using h6
       subst h6;obtain ⟨j,cp,kp,rfl⟩:=Sg h5;split
       ·rename_i hf;have e:=eq_of_beq hf;subst e;exact Ad
       ·split
        ·rename_i hf;have e:=eq_of_beq hf;subst e;exact Ad
        ·exact Ad
      ·exact Ad
   | nil =>
    cases args with
    | nil =>
     delta iEb
     dsimp only;split
     ·rename_i h;rw [Bool.and_eq_true] at h;split
      ·rename_i g eg;obtain ⟨fa,fd,h1,h2,h3,h4,h5⟩:=O.g.fn _ _ _ eg;exact Z1 (E:=E0) h4 O.room (O.gl h.1) h1 h2 h3 oA (by simpa using h.2)
      ·exact Ad
     ·exact Ad
    | cons a es =>
     delta iEb
     dsimp only;split
     ·rename_i h;simp only [Bool.and_eq_true] at h;obtain ⟨⟨⟨⟨h1,h2⟩,h3⟩,h4⟩,h5⟩:=h;have h4:isStar a=false:=by simpa using h4
      exact Ad
     split
     ·rename_i h;simp only [Bool.and_eq_true] at h;obtain ⟨⟨⟨⟨h1,h2⟩,h3⟩,h4⟩,h5⟩:=h
      have h2:(f==("__debug__":Str))=false:=by simpa using h2
      have h3:f ≠ "__name__":=by simpa using h3
      have h4:isStar a=false:=by simpa using h4
      split
      ·rename_i ps g eg;obtain ⟨fa,fd,g1,g2,g3,g4,g5⟩:=O.g.fn _ _ _ eg;exact kW (E:=E0) g4 O.room (O.gl h1) g1 g2 g3 oA (S.a O _) g5 h2 (Bh h4) (Aw h5)
      ·split
       ·rename_i fl hb;exact Ad
       split
       ·rename_i b hb;cases hb
       ·split
        ·rename_i b c hb;cases hb
        ·split
         ·rename_i b hb;cases hb
         ·split
          ·rename_i hf;split
           ·rename_i c pc;split
            ·rename_i hc;simp only [Bool.and_eq_true] at hc;obtain ⟨⟨c1,c2⟩,c3⟩:=hc;split
             ·rename_i T eT;cases eT
             ·exact Ad
            ·exact Ad
           ·exact Ad
          ·split
           ·rename_i g eg;exact bT O eg h1 (S.a O _) h3 h2 h4 h5
           ·exact Ad
     ·exact Ad
  | Attribute o m ap =>
   cases kws with
   | cons _ _=>cases args <;> exact Ad
   | nil =>
    cases args with
    | nil =>
     delta iEb
     dsimp only;split
     ·rename_i h;rw [Bool.and_eq_true] at h;split
      ·rename_i T f eT;exact Uv eT (S.e O _) h.1 h.2
      ·exact Ad
     ·exact Ad
    | cons a es =>
     delta iEb
     dsimp only;split
     ·rename_i h;simp only [Bool.and_eq_true] at h;obtain ⟨⟨⟨⟨h1,h2⟩,h3⟩,h4⟩,h5⟩:=h;split
      ·rename_i hm;have em:=eq_of_beq hm;subst em;rw [Bool.not_eq_true'] at h3;split
       ·rename_i kvs hd;exact Ad
       ·exact lN O.units (S.e O _) (S.a O _) (Ck h1) (Ms h3 h4 (of_decide_eq_true h5)) h2 (Bh h3) (Aw h4)
      split
      ·rename_i hm;rw [Bool.and_eq_true] at hm;have em:=eq_of_beq hm.1;subst em;rw [Bool.not_eq_true'] at h3;exact R3 (J7 PySem.F.plainAttrs_tuple PySem.F.slot_tuple_count PySem.F.type_tuple_count Ml (S.e O _) (S.a O _) (Ck h1) (Ms h3 h4 (of_decide_eq_true h5)) h2 (Bh h3) (Aw h4))
        (J7 PySem.F.plainAttrs_list PySem.F.slot_list_count PySem.F.type_list_count Ml (S.e O _) (S.a O _) (Ck h1) (Ms h3 h4 (of_decide_eq_true h5)) h2 (Bh h3) (Aw h4))
      split
      ·rename_i hm;rw [Bool.and_eq_true] at hm;have em:=eq_of_beq hm.1;subst em;rw [Bool.not_eq_true'] at h3;exact R3 (J7 PySem.F.plainAttrs_tuple PySem.F.slot_tuple_index PySem.F.type_tuple_index Ml (S.e O _) (S.a O _) (Ck h1) (Ms h3 h4 (of_decide_eq_true h5)) h2 (Bh h3) (Aw h4))
        (J7 PySem.F.plainAttrs_list PySem.F.slot_list_index PySem.F.type_list_index Ml (S.e O _) (S.a O _) (Ck h1) (Ms h3 h4 (of_decide_eq_true h5)) h2 (Bh h3) (Aw h4))
      split
      ·rename_i T f eT;exact Yb eT (S.e O _) (S.a O _) h1 h2 (by simpa using h3) h4 (of_decide_eq_true h5)
      ·rw [Bool.not_eq_true'] at h3;exact Ad
     ·exact Ad
  | _=>cases args <;> exact Ad
 | ListComp elt gens scope p =>
  cases gens with
  | nil=>exact Ad
  | cons g gens =>
   obtain ⟨tg,iter,ifs,kk⟩:=g;cases gens with
   | cons _ _=>exact Ad
   | nil =>
    delta iEb
    dsimp only;split
    ·rename_i h;simp only [Bool.and_eq_true] at h;obtain ⟨⟨h1,h2⟩,h3⟩:=h;have e:=eq_of_beq h1;subst e;split
     ·rename_i ws g eg;split
      ·rename_i hw;refine kO (N':=Cp scope) O.calm (Jz O h2) (Sq O scope) (fun i hi j q=>?_) (S.i O tg iter) (fun p C c s h f=>(O.comp h2 p C c s h f).target eg) (fun p C c s h f=>S.f (O.comp h2 p C c s h f) ifs) (fun p C c s h f=>S.e (O.comp h2 p C c s h f) elt) (Uu (by simpa using h3));have z:=List.all_eq_true.mp hw i hi;rw [q] at z;cases z
      ·exact Ad
     ·exact Ad
    ·exact Ad
 | _=>exact Ad
theorem snd (G:Gb):∀ n,SndE G n
 | 0=>bU G
 | n+1=>⟨fun O=>zK (snd G n) O,fun O=>zJ (snd G n) O,fun O=>zF (snd G n) O,fun O=>zG (snd G n) O,fun O=>zH (snd G n) O⟩
section
variable {K:PySem.W.Frag}{H:Hp}{ρ:List Addr}
end
section
variable {P:Program}{w:World}{H:Hp}{h h2:Heap}{pl c a:Addr}{tb more:Array Value}{oc ob:Obj}{fs:List Addr}
end
section
variable {X:Cx}
end
theorem Sv {K:PySem.W.Frag}{H:Hp}{ρ:List Addr}{N:List Str}{ds:List D}{vs:List V}(r:RDs K H ρ ds vs):RL K H ρ (ds.map some++List.replicate (N.length - ds.length) none) (L2.start N vs):=by
 have hl:=r.length;unfold L2.start;refine ⟨by simp [hl],fun i d e=>?_⟩
 by_cases hi:i < ds.length
 ·rw [List.getElem?_append_left (by simpa using hi),List.getElem?_map] at e;cases q:ds[i]? with
  | none=>rw [q] at e;cases e
  | some d' =>
   rw [q] at e;cases e;obtain ⟨v,e1,r1⟩:=r.get q;exact ⟨v,by rw [List.getElem?_append_left (by simp;omega),List.getElem?_map,e1];rfl,r1⟩
 ·rw [List.getElem?_append_right (by simpa using hi),List.getElem?_replicate] at e;split at e <;> cases e
theorem G8 {X:Cx}{st:Stmt}{g:GM}:DS X st (Ah Zb g):=fun _ _ _ _ _ _ h=>by obtain ⟨_,_,_,_,_,_,e,_⟩:=h;cases e
theorem Ux {G:Gb}{X:Cx}{k:Nat}{sc:SC}(O:XOk X k G sc) (n:Nat) {y:Str}{py vp spos:Pos}{elt:Expr}{gens:List Comprehension}{scope:Scope}{ws:List Nat}{gy:GM}(hgy:iG sc (.Name y py)=some (ws,gy)) :
  DS X (.Assign [.Name y py] (.ListComp elt gens scope vp) spos) (Ah (iE G n sc (.ListComp elt gens scope vp)) gy):=by
 have hg:=O.target hgy;have sw:swapsWith (.ListComp elt gens scope vp) (some (.Name y py)) spos.line X.env=pure (X.env.blockKind==.function&&X.env.kindOf y==some .local&&py.line==vp.line&&!(scope.names.any fun (n,k)=>n==y&&(k==.local || k==.cell))):=rfl;cases hb:(X.env.blockKind==.function&&X.env.kindOf y==some .local&&py.line==vp.line&&!(scope.names.any fun (n,k)=>n==y&&(k==.local || k==.cell))) with
 | false =>
  rw [hb] at sw;exact Ua ((snd G n).e O _) hg sw rfl rfl
 | true =>
  rw [hb] at sw;cases n with
  | zero=>exact G8
  | succ n =>
   show DS X _ (Ah (iEb (iE G n) (iT G n) (iA G n) (iF G n) (iI G n) G sc _) gy)
   match gens with
   | []=>exact G8
   | ⟨_,_,_,_⟩::_::_=>exact G8
   | [⟨tg,iter,ifs,kk⟩] =>
    delta iEb
    dsimp only;split
    ·rename_i h;simp only [Bool.and_eq_true] at h;obtain ⟨⟨h1,h2⟩,h3⟩:=h;have e:=eq_of_beq h1;subst e;split
     ·rename_i ws g eg;split
      ·rename_i hw;refine Ub (N':=Cp scope) O.calm (Jz O h2) (Sq O scope) (fun i hi j q=>?_) ((snd G n).i O tg iter) (fun p C c s h f=>(O.comp h2 p C c s h f).target eg) (fun p C c s h f=>(snd G n).f (O.comp h2 p C c s h f) ifs) (fun p C c s h f=>(snd G n).e (O.comp h2 p C c s h f) elt) hg sw (Uu (by simpa using h3));have z:=List.all_eq_true.mp hw i hi;rw [q] at z;cases z
      ·exact G8
     ·exact G8
    ·exact G8
theorem Mt {v tg:Expr}{line:Nat}{env:Env}(h:G7 v=false):swapsWithSole [tg] v line env=pure false:=by
 show swapsWith v (some tg) line env=pure false;cases v <;> first | rfl | cases h
theorem Yc {v:Expr}{line:Nat}{env:Env}(h:G7 v=false):swapsWith v none line env=pure false:=by
 cases v <;> first | rfl | cases h
theorem Kd {v tg:Expr}{env:Env}(h:(Dd tg&&Dd v)=false) (hl:∀ es p,tg≠.List es p):swappedStores [tg] v env=pure none:=by
 cases tg with
 | Tuple ts kk p =>
  cases v with
  | Tuple vs k2 p2=>cases h
  | _=>rfl
 | List es p=>exact (hl es p rfl).elim
 | _=>first | rfl | (cases v <;> rfl)
theorem tW {x y:Str}{a b:Expr}{px py pt pt2:Pos}{kt k2:Nat}{env:Env}(hb:(env.blockKind==.function)=true) (hx:(env.kindOf x==some .local)=true) (hy:(env.kindOf y==some .local)=true) (hl:(py.line==px.line)=true) (hne:(x==y)=false) (sa:isStar a=false) (sb:isStar b=false)
  (hf:[a,b].all (foldedForSure 8)=false) (hc:[a,b].all (constantsAlone 8)=false):swappedStores [.Tuple [.Name x px,.Name y py] kt pt] (.Tuple [a,b] k2 pt2) env=pure (some [x,y]):=by
 have he:([x,y].eraseDups.length != [x,y].length)=false:=by
  have:(y==x)=false:=by
   cases q:(y==x) with
   | false=>rfl
   | true=>rw [eq_of_beq q] at hne;simp at hne
  simp [List.eraseDups_cons,this,hne]
 have hbk:(env.blockKind != .function)=false:=by rw [bne,hb];rfl
 have e1:(Option.map (fun e:Expr=>e.pos.line) [Expr.Name x px,Expr.Name y py].head?).getD 0=px.line:=rfl;unfold swappedStores;dsimp only;refine (if_neg ?_).trans ?_
 ·simp [hbk]
 refine (if_neg ?_).trans ?_
 ·simp only [List.any_cons,List.any_nil,Bool.or_false];rw [Bool.not_eq_true,Bool.or_eq_false_iff];constructor
  ·cases a <;> first | rfl | cases sa
  ·cases b <;> first | rfl | cases sb
 simp only [e1,List.filterMap_cons,List.filterMap_nil,hx,hy,hl,beq_self_eq_true,Bool.and_self,if_true];refine (if_neg ?_).trans ?_
 ·rw [he];simp
 rw [if_neg (by rw [hf];simp),if_neg (by rw [hc];simp)]
theorem tX {X:Cx}{i j:Nat}{x y:Str}{a b:Expr}{mr:DM (List D)}{px py pt pt2 pos:Pos}{kt k2:Nat}(hc:X.calm=true) (hN:X.N.Nodup) (hi:X.N[i]?=some x) (hj:X.N[j]?=some y) (hij:i≠j) (hx:X.env.scope.names.lookup x=some .local) (hy:X.env.scope.names.lookup y=some .local) (ha:DA X [a,b] mr)
  (hw:swappedStores [.Tuple [.Name x px,.Name y py] kt pt] (.Tuple [a,b] k2 pt2) X.env=pure (some [x,y])):DS X (.Assign [.Tuple [.Name x px,.Name y py] kt pt] (.Tuple [a,b] k2 pt2) pos) (tR mr i j):=by
 rintro pins s σ H N I ⟨loc,mh,ρ,f,loc',mh',e,rl,rs,co⟩;refine qC hc hN hi hj hij hx hy (ha loc mh) hw rfl pins s σ H N I ?_;unfold tR at e;split at e
 ·rename_i d1 d2 h1 er;cases e;refine ⟨ρ,[d1,d2],mh',er,rl,rs,fun H' ρ' vs e' rs' r'=>?_⟩;cases r' with
  | cons r1 r' =>
   cases r' with
   | cons r2 r' =>
    cases r';exact ⟨_,_,rfl,co H' ρ' _ e' rs' (((rl.mono e').set r1).set r2)⟩
 ·cases e
theorem zL (G:Gb) (n:Nat) (ihss:∀ {X:Cx}{k:Nat}{sc:SC},XOk X k G sc->∀ ss,DSs X ss (iSs G n sc ss)) {X:Cx}{k:Nat}{sc:SC}(O:XOk X k G sc) (s:Stmt):DS X s (iSb n (iSs G n) G sc s):=by
 have S:=snd G n;cases s with
 | Expr e p =>
  delta iSb
  dsimp only;split
  ·exact Cr
  ·rename_i h;exact jX (S.e O _) (Yc (by simpa using h))
 | Pass _=>exact jV
 | Break _=>exact Zy
 | Continue _=>exact Rq
 | Return e _ =>
  cases e with
  | some e=>exact sG (S.e O _)
  | none=>exact jW
 | Assign ts v p =>
  cases ts with
  | nil=>exact Cr
  | cons tg r =>
   cases r with
   | cons _ _=>exact Cr
   | nil =>
    have gen:DS X (.Assign [tg] v p) (if G7 v || (Dd tg&&Dd v) then SM.bad else (match iGt G n sc tg with | some g=>Ah (iE G n sc v) g | none=>SM.bad)):=by
     split
     ·exact Cr
     ·rename_i h;have h:G7 v=false/\(Dd tg&&Dd v)=false:=by
       rw [Bool.not_eq_true,Bool.or_eq_false_iff] at h;exact h
      split
      ·rename_i g eg;have gen:(match iG sc tg with | some (_,g)=>some g | none=>none)=some g->DS X (.Assign [tg] v p) (Ah (iE G n sc v) g):=fun eg=>by
        split at eg
        ·rename_i ws g' eg';cases eg;refine Ua (S.e O _) (O.target eg') (Mt h.1) (Kd h.2 (fun es p z=>by subst z;simp [iG] at eg')) ?_;cases tg <;> first | rfl | (simp [iG] at eg')
        ·cases eg
       cases tg with
       | Subscript o i p' =>
        simp only [iGt] at eg;split at eg
        ·cases eg
        ·rename_i hs;cases eg;have hs:isSlice i=false:=by simpa using hs
         refine lJ (Ua (S.e O _) (sI (S.e O _) (S.e O _) ?_) (Mt h.1) (Kd h.2 (fun _ _ z=>by cases z)) rfl) (tE O.units (S.e O _) (S.e O _) (S.e O _) (Mt (tg:=.Subscript o i p') (line:=p.line) (env:=X.env) h.1));intro v';cases i <;> first | rfl | cases hs
       | _=>exact gen eg
      ·exact Cr
    cases tg with
    | Name y py =>
     cases v with
     | ListComp elt gens scope vp =>
      delta iSb
      dsimp only
      delta tU
      dsimp only;split
      ·rename_i ws g eg;exact Ux O n eg
      ·exact Cr
     | _=>exact gen
    | Tuple tl kt pt =>
     cases tl with
     | nil=>exact gen
     | cons t1 tl =>
      cases t1 with
      | Name x px =>
       cases tl with
       | nil=>exact gen
       | cons t2 tl =>
        cases t2 with
        | Name y py =>
         cases tl with
         | cons _ _=>exact gen
         | nil =>
          cases v with
          | Tuple vl k2 pt2 =>
           cases vl with
           | nil=>exact gen
           | cons a vl =>
            cases vl with
            | nil=>exact gen
            | cons b vl =>
             cases vl with
             | cons _ _=>exact gen
             | nil =>
              delta iSb
              dsimp only
              delta tU
              dsimp only;split
              ·rename_i h;unfold zB at h;simp only [Bool.and_eq_true,Bool.not_eq_true'] at h;obtain ⟨⟨⟨⟨⟨⟨⟨⟨h1,h2⟩,h3⟩,h4⟩,h5⟩,h6⟩,h7⟩,h8⟩,h9⟩:=h;split
               ·rename_i i j ei ej;have hi:=Dv ei;have hj:=Dv ej;refine tX O.calm (by rw [O.N];exact O.nd) (by rw [O.N];exact hi) (by rw [O.N];exact hj) (fun z=>?_) (by rw [O.sco];exact eq_of_beq h2) (by rw [O.sco];exact eq_of_beq h3) (S.a O _) (tW ?_ ?_ ?_ h4 h5 h6 h7 h8 h9)
                ·subst z;rw [hi] at hj;cases hj;simp at h5
                ·unfold Env.blockKind;rw [O.sco];exact h1
                ·unfold Env.kindOf;rw [O.sco];exact h2
                ·unfold Env.kindOf;rw [O.sco];exact h3
               ·exact Cr
              ·exact Cr
          | _=>exact gen
        | _=>exact gen
      | _=>exact gen
    | _=>exact gen
 | If c a b _=>exact yQ (S.t O _) (ihss O _) (ihss O _)
 | While c body els _ =>
  cases els with
  | cons _ _=>exact Cr
  | nil =>
   refine Z0 ?_ (S.t O _) (ihss O _);rw [O.xe];exact PassesOwn.never
 | For tg it body els _ =>
  cases els with
  | cons _ _=>exact Cr
  | nil =>
   delta iSb
   dsimp only;split
   ·exact Cr
   ·rename_i h;split
    ·rename_i ws g eg;refine sJ ?_ O.calm (S.i O _ _) (O.target eg) (ihss O _) (Uu (by simpa using h));rw [O.xe];exact PassesOwn.never
    ·exact Cr
 | _=>exact Cr
theorem Abi (G:Gb) (n:Nat):(∀ {X:Cx}{k:Nat}{sc:SC},XOk X k G sc->∀ s,DS X s (iS G n sc s))/\(∀ {X:Cx}{k:Nat}{sc:SC},XOk X k G sc->∀ ss,DSs X ss (iSs G n sc ss)):=by
 induction n with
 | zero=>exact ⟨fun _ _=>Cr,fun _ _ _ _ _ _ _ _ h=>by obtain ⟨_,_,_,_,_,_,e,_⟩:=h;cases e⟩
 | succ n ih =>
  refine ⟨fun {X k sc} O s=>zL G n (fun O ss=>ih.2 O ss) O s,fun {X k sc} O ss=>?_⟩;cases ss with
  | nil=>exact jU
  | cons s r=>exact Zx (ih.1 O s) (ih.2 O r)
theorem bV {P:Program}{w:World}{K:PySem.W.Frag}{mg:Str->Option Value}{base:Heap}{k:Nat}{G:Gb}{x qual:Str}{st:Stmt}{f:Addr}{fd:FuncData}{I:FnI}(g:GOk P w K mg base k G) (F:Fun K x qual st f fd) (S:FnScope I.N I.ps (Ar st))
  (hs:I.scope=Ar st) (hb:I.body=Bw st) (n:Nat):FnOk P w K mg base CX0 (k+3) f fd I.ps (spD K I.ps.length (Af G n I)):=by
 refine F.ok S (fun vs H Q E h=>h.1) fun cdv A outer s H vs Q E hr h=>?_
 obtain ⟨hl,ρ,mh,ds,d,mh',q,rs,r,co⟩:=h;refine ⟨_,(Abi G n).2 (sc:={ N:=I.N,scope:=I.scope,own:=fun _=>true }) ⟨rfl,S.nd,hs.symm,fun _ _ _=>.inl rfl,rfl,rfl,hr,g⟩ (Bw st),?_⟩;unfold Af at q;split at q
 ·split at q
  ·rename_i d' loc' m' e;cases q;exact ⟨_,mh,ρ,.rt d,loc',mh',by rw [← hb];exact e,Sv r,rs,co⟩
  ·rename_i loc' m' e;cases q;exact ⟨_,mh,ρ,.nx,loc',mh',by rw [← hb];exact e,Sv r,rs,fun H' ρ' σ' e' rs' _=>co H' ρ' _ e' rs' .non⟩
  ·cases q
 ·cases q
theorem Sw {G:Gb}{n:Nat}{I:FnI}{ds:List D}{mh:MH}{r:D×MH}(h:Af G n I ds mh=some r):ds.length=I.ps.length:=by
 unfold Af at h;split at h
 ·assumption
 ·cases h
section
variable {P:Program}{w:World}{K:PySem.W.Frag}{mg:Str->Option Value}{base:Heap}{k:Nat}{G:Gb}
end
section
variable {X:Cx}{pins:List (Addr×Obj)}{σ:L2.St}{H:Hp}{s:Shared}{fr:List Str}
end
section
variable {X:Cx}
end
section
variable {P:Program}{w:World}{K:PySem.W.Frag}{mg:Str->Option Value}{base:Heap}{k:Nat}{G:Gb}
end
noncomputable def zM (K:PySem.W.Frag) (mg:Str->Option Value) (x:Str) (I:FnI):Prop:=∃ (qual:Str) (st:Stmt) (f:Addr) (fd:FuncData),mg x=some (.ref f)/\Fun K x qual st f fd/\FnScope I.N I.ps (Ar st)/\I.scope=Ar st/\I.body=Bw st/\∀ us:List Value,us.length=I.ps.length->bindArgs fd ⟨us,[]⟩=pure (I.ps.zip us)
structure TbOk (w:World) (K:PySem.W.Frag) (mg:Str->Option Value) (T:Tb):Prop where
 fn:∀ x I,T.tb x=some I->∃ (qual:Str) (st:Stmt) (f:Addr) (fd:FuncData),mg x=some (.ref f)/\Fun K x qual st f fd/\FnScope I.N I.ps (Ar st)/\I.scope=Ar st/\I.body=Bw st/\∀ us:List Value,us.length=I.ps.length->bindArgs fd ⟨us,[]⟩=pure (I.ps.zip us)
 con:∀ x d,T.con x=some d->∃ u v,mg x=some u/\RelV v u/\∀ H ρ,RD K H ρ d v
 blt:∀ b∈Mq,mg b=none
 dic:∀ x kvs,T.dic x=some kvs->∃ a,mg x=some (.ref a)/\DicOk w K a kvs
 fld:∀ c f,T.fld c f=true->∃ C,PySem.W.nsIn K mainGlobals c=some (some (.ref C))/\Cls K C/\Yz K C f
 met:∀ c m I,T.tbm c m=some I->∃ (qual:Str) (st:Stmt) (C f:Addr) (fd:FuncData),PySem.W.nsIn K mainGlobals c=some (some (.ref C))/\Cls K C/\Meth K C m f/\Fun K m qual st f fd/\FnScope I.N I.ps (Ar st)/\I.scope=Ar st/\I.body=Bw st/\∀ us:List Value,us.length=I.ps.length->bindArgs fd ⟨us,[]⟩=pure (I.ps.zip us)
 mkr:∀ c f,T.mkr c=some f->∃ C fa fd ps,PySem.W.nsIn K mainGlobals c=some (some (.ref C))/\Mk K C fa/\mg c=some (.ref C)/\Binds K fd ps []/\∀ (P:Program) (w:World) (base:Heap),FnOk P w K mg base CX0 1 fa fd ps (spI C f)
theorem gok {P:Program}{w:World}{K:PySem.W.Frag}{mg:Str->Option Value}{base:Heap}{T:Tb}(O:TbOk w K mg T) (k:Nat):GOk P w K mg base k (GkN T k):=by
 induction k with
 | zero=>exact ⟨fun x ps f h=>(by cases h),O.con,O.blt,O.dic,O.fld,fun c m ps g h=>(by cases h),fun c f h=>by
   obtain ⟨C,fa,fd,ps,h1,h2,h3,h4,h5⟩:=O.mkr c f h
   exact ⟨C,fa,fd,ps,h1,h2,h3,h4,h5 _ _ _⟩,R5⟩
 | succ k ih =>
  refine ⟨fun x ps f h=>?_,O.con,O.blt,O.dic,O.fld,fun c m ps g h=>?_,fun c f h=>by
   obtain ⟨C,fa,fd,ps,h1,h2,h3,h4,h5⟩:=O.mkr c f h
   exact ⟨C,fa,fd,ps,h1,h2,h3,h4,h5 _ _ _⟩,R5⟩
  ·simp only [GkN] at h;split at h
   ·rename_i I eI;cases h;obtain ⟨qual,st,fa,fd,h1,h2,h3,h4,h5,h6⟩:=O.fn x I eI;exact ⟨fa,fd,h1,h2.kp,.all h6,bV ih h2 h3 h4 h5 fuel,fun ds mh r hr=>Sw hr⟩
   ·cases h
  ·simp only [GkN] at h;split at h
   ·rename_i I eI;cases h;obtain ⟨qual,st,C,fa,fd,g1,g2,g3,h2,h3,h4,h5,h6⟩:=O.met c m I eI;exact ⟨C,fa,fd,g1,g2,g3,.all h6,bV ih h2 h3 h4 h5 fuel,fun ds mh r hr=>Sw hr⟩
   ·cases h
noncomputable def Ce (st:Stmt):FnI :=
  { ps:=(Dq st).args.map (·.arg),
    N:=(Dq st).args.map (·.arg)++(((Ar st).names.filter fun p=>(match p.2 with | .local=>true | .cell=>true | _=>false)).map (·.1)).filter (fun x=>!((Dq st).args.map (·.arg)).contains x),
    scope:=Ar st,body:=Bw st }
theorem walk {l:PySem.W.OpenLaw}{q:Program}{loose:List Str}{XP:(Str->Option Value)->Heap->Prop}{YP:World->Heap->Prop}{d:DefRec}{K:Params->PySem.W.Frag}{Tt:Tb}{I:FnI}{x:Str}(k:Nat)
  (hn:l.most=some 63) (hdf:d.params.defaults=[]) (hY:∀ (w:World) (h:Heap),YP w h->(K w.params).In h) (hr:Room (k+3) callerA)
  (hI:Tt.tb d.name=some I) (hps:I.ps=[x])
  (T:∀ (w:World) (mg:Str->Option Value) (h:Heap),(K w.params).In h->h.Ns mainGlobals mg->TbOk w (K w.params) mg Tt)
  (main:∀ ns:List Int,ns.length<=63->∃ mh',Af (GkN Tt k) fuel I [.rol (ns.map D.int)] []=some (.bl true,mh')) :
  PySem.W.WalkO q loose XP YP l.row.toRowW d [] (fun f vs=>PySem.call f vs):=by
 refine L2.iY (n:=63) (k:=k+3) (x:=x) (CX:=fun _=>CX0) (sp:=fun w=>spD (K w.params) 1 (Af (GkN Tt k) fuel I)) hn (by decide) hdf hr hY (fun w mg fa h hK hN hm=>?_) (fun w H a ns hl hO hS=>?_) fun _ _ _ _ _ z=>z
 ·obtain ⟨qual,st,f,fd,h1,h2,h3,h4,h5,h6⟩:=(T w mg h hK hN).fn _ _ hI;rw [hm] at h1;cases h1;refine ⟨fd,fun s u=>.of_eq ?_,fun base hKb hNb=>?_⟩
  ·have:=h6 [u] (by rw [hps];rfl);rw [hps] at this;exact this
  ·have:=bV (P:=l.prog) (w:=w) (base:=base) (gok (T w mg h hK hN) k) h2 h3 h4 h5 fuel;rw [hps] at this;exact this
 ·obtain ⟨mh',e⟩:=main ns hl;have P:Gi (K w.params) H a (ns.map V.int):=by
   rcases hS with (h|h)|h
   ·rcases hO a with z|⟨o,xs,z⟩
    ·rw [z] at h;cases h
    ·rw [z] at h;cases h
   ·exact .inl h
   ·exact .inr h
  refine ⟨rfl,[],[],[.rol (ns.map D.int)],.bl true,mh',e,⟨rfl,List.nodup_nil,fun n a o e=>by simp at e⟩,.cons (.rol P (RDs.ints ns)) .nil,fun H' ρ' v _ _ r=>by cases r;rfl⟩
end DL
namespace DL
open PySem L2
noncomputable def vr (i:Nat):DM D:=fun loc mh=>match loc[i]? with | some (some d)=>some (d,mh) | _=>none
noncomputable abbrev tY:=iop (fun _ _=>true) fun i j=>i - j
noncomputable abbrev Fi:=Oi (Ol (iop R8 fun i j=>i * j))
noncomputable abbrev Jd:=iop (fun _ j=>decide (j≠0)&&decide (j.natAbs < 10889035741470030830827987437816582766592)) fun i j=>i.fdiv j
noncomputable abbrev Ej:=iop (fun _ j=>decide (j≠0)) fun i j=>i.fmod j
noncomputable abbrev ltD:=Rn fun i j=>decide (i < j)
noncomputable abbrev gtD:=Rn fun i j=>decide (j < i)
noncomputable def lU (m:DM D):DM D:=m.bnd fun x=>Zl (sS x)
noncomputable def Bk (mr:DM (List D)):DM D:=mr.bnd fun ds=>Zl (N6 ds)
noncomputable def lstM (mr:DM (List D)):DM D:=mr.bnd fun ds=>Zl (N7 ds)
noncomputable def Al (f:Fn) (mr:DM (List D)):DM D:=mr.bnd fun ds=>Zl (f ds)
theorem ln0 {f:List Value->Prop}(h:f []) (us:List Value) (e:us.length=0):f us:=by
 cases us with
 | nil=>exact h
 | cons _ _=>cases e
theorem ln1 {f:List Value->Prop}(h:∀ a,f [a]) (us:List Value) (e:us.length=1):f us:=by
 cases us with
 | nil=>cases e
 | cons a r=>exact ln0 (f:=fun r=>f (a::r)) (h a) r (Nat.succ.inj e)
theorem ln2 {f:List Value->Prop}(h:∀ a b,f [a,b]) (us:List Value) (e:us.length=2):f us:=by
 cases us with
 | nil=>cases e
 | cons a r=>exact ln1 (f:=fun r=>f (a::r)) (h a) r (Nat.succ.inj e)
theorem ln3 {f:List Value->Prop}(h:∀ a b c,f [a,b,c]) (us:List Value) (e:us.length=3):f us:=by
 cases us with
 | nil=>cases e
 | cons a r=>exact ln2 (f:=fun r=>f (a::r)) (h a) r (Nat.succ.inj e)
theorem ln4 {f:List Value->Prop}(h:∀ a b c d,f [a,b,c,d]) (us:List Value) (e:us.length=4):f us:=by
 cases us with
 | nil=>cases e
 | cons a r=>exact ln3 (f:=fun r=>f (a::r)) (h a) r (Nat.succ.inj e)
theorem ln5 {f:List Value->Prop}(h:∀ a b c d e,f [a,b,c,d,e]) (us:List Value) (e:us.length=5):f us:=by
 cases us with
 | nil=>cases e
 | cons a r=>exact ln4 (f:=fun r=>f (a::r)) (h a) r (Nat.succ.inj e)
theorem bW {q:Program}{loose:List Str}{XP:(Str->Option Value)->Heap->Prop}{K:Params->PySem.W.Frag}{as:List Addr}{n t:Nat}{r:PySem.W.RowW}{d:DefRec}{kwd:List (Str×Expr)}{run:Value->List Value->Sem Value}
  (e:∀ P,as=(K P).map (·.1)) (h:PySem.W.WalkO q loose XP (fun w h=>(K w.params).In h) r d kwd run):PySem.W.WalkX q loose XP (PySem.W.X.obsZ as) (PySem.W.X.valZ K n t) r d kwd run :=
 fun w s₀ s₁ mg mb G y a o pm cd doc dV kV h1 h2 h3 h4 h5 h6 args vals as' L hpre hlay hrd hwl hlo =>
  h w s₀ s₁ mg mb G (PySem.W.InK.keeps w s₀.heap s₁.heap (PySem.W.X.z_facts e y).2.1 L.keeps) a o pm cd doc dV kV h1 h2 h3 h4 h5 h6 args vals as' hpre hlay hrd hwl hlo
noncomputable def Sx (K:PySem.W.Frag):List (Str×Stmt)->Prop
 | []=>True
 | r::L=>(∃ (f:Addr) (fd:FuncData),PySem.W.nsIn K mainGlobals r.1=some (some (.ref f))/\Fun K r.1 r.1 r.2 f fd)/\Sx K L
theorem bY {K:PySem.W.Frag}{x:Str}{st:Stmt}{L:List (Str×Stmt)}{f:Addr}{oc:Value}{od an:Option Addr}{osl:Array (Option Value)}{kV doc pm cdv ct:Value}(a:PySem.W.nsIn K mainGlobals x=some (some (.ref f)))
  (l:K.lookup f=some ⟨oc,od,.func (PySem.W.fnOf x x (Dq st) (Bw st) (Ar st) .none kV doc pm an cdv ct),osl⟩)
  (c:PySem.W.codeIn K cdv x=true) (k:PySem.W.keepIn K (.ref f)=true) (q:Sx K L):Sx K ((x,st)::L):=⟨⟨f,_,a,rC l c k⟩,q⟩
noncomputable def zN (x:Str) (st:Stmt):Prop:=FnScope (Ce st).N (Ce st).ps (Ar st)/\∀ (kV doc pm:Value) (an:Option Addr) (cdv ct:Value) (us:List Value),us.length=(Ce st).ps.length->bindArgs (PySem.W.fnOf x x (Dq st) (Bw st) (Ar st) .none kV doc pm an cdv ct) ⟨us,[]⟩=pure ((Ce st).ps.zip us)
theorem Bu {x:Str}{st:Stmt}(s:FnScope (Ce st).N (Ce st).ps (Ar st)) (b:∀ (kV doc pm:Value) (an:Option Addr) (cdv ct:Value) (us:List Value),us.length=(Ce st).ps.length->bindArgs (PySem.W.fnOf x x (Dq st) (Bw st) (Ar st) .none kV doc pm an cdv ct) ⟨us,[]⟩=pure ((Ce st).ps.zip us)):zN x st:=⟨s,b⟩
noncomputable def bZ:List (Str×Stmt)->Prop
 | []=>True
 | r::L=>zN r.1 r.2/\bZ L
theorem V5 {K:PySem.W.Frag}{h:Heap}{mg:Str->Option Value}(X:K.In h) (G:h.Ns mainGlobals mg) {x:Str}{I:FnI}:∀ {L:List (Str×Stmt)},Sx K L->bZ L->(L.lookup x).map Ce=some I->zM K mg x I
 | [],_,_,e=>by cases e
 | (y,st)::L,⟨⟨f,fd,a,F⟩,q⟩,⟨s,t⟩,e=>by
  simp only [List.lookup] at e;split at e
  ·rename_i hy;rw [eq_of_beq hy];cases e;refine ⟨y,st,f,fd,PySem.W.mg_of X G a,F,s.1,rfl,rfl,fun us hu=>?_⟩;obtain ⟨oc,od,kV,doc,pm,an,cdv,ct,osl,rfl,_⟩:=F.ex;exact s.2 kV doc pm an cdv ct us hu
  ·exact V5 X G q t e
noncomputable def Sy (K:PySem.W.Frag):List Str->Prop
 | []=>True
 | b::L=>PySem.W.nsIn K mainGlobals b=some none/\Sy K L
theorem cA {K:PySem.W.Frag}{b:Str}{L:List Str}(a:PySem.W.nsIn K mainGlobals b=some none) (q:Sy K L):Sy K (b::L):=⟨a,q⟩
theorem S5 {K:PySem.W.Frag}{h:Heap}{mg:Str->Option Value}(X:K.In h) (G:h.Ns mainGlobals mg):∀ {L:List Str},Sy K L->∀ b∈L,mg b=none
 | _::_,⟨a,_⟩,_,.head _=>PySem.W.mg_none_of X G a
 | _::_,⟨_,q⟩,b,.tail _ m=>S5 X G q b m
section
variable {loc:DL.Loc}{mh:MH}{ma mb:DM D}{mr:DM (List D)}{t u:DM Bool}{m1 m2:SM}
theorem zO (i:Nat):vr i loc mh=(match loc[i]? with | some (some d)=>some (d,mh) | _=>none):=by kernel_rfl
theorem lV:Nf ma loc mh=(match ma loc mh with | none=>none | some (x,h)=>(match Zm x h with | some k=>some (k,h) | none=>none)):=by kernel_rfl
theorem cB (T:String) (f:D->List D->MH->Option (D×MH)):Cm T f ma mr loc mh=(match ma loc mh with | none=>none | some (x,h)=>if Xi T x h=true then (match mr loc h with | none=>none | some (ds,h2)=>f x ds h2) else none):=by kernel_rfl
theorem lW (g:GM):Ah ma g loc mh=(match ma loc mh with | some (d,h)=>(match g d loc h with | some (l,h')=>some (.nx,l,h') | none=>none) | none=>none):=by kernel_rfl
theorem cC:ifS t m1 m2 loc mh=(match t loc mh with | some (k,h)=>if k=true then m1 loc h else m2 loc h | none=>none):=by kernel_rfl
theorem lX:retS ma loc mh=(match ma loc mh with | some (d,h)=>some (.rt d,loc,h) | none=>none):=by kernel_rfl
theorem cD:Hr ma loc mh=(match ma loc mh with | some (_,h)=>some (.nx,loc,h) | none=>none):=by kernel_rfl
theorem V6:Ab m1 m2 loc mh=(match m1 loc mh with | some (.nx,l,h)=>m2 l h | r=>r):=by kernel_rfl
theorem lY:Cy ma loc mh=(match ma loc mh with | none=>none | some (x,h)=>(match srcOf x h with | some s=>some (s,h) | none=>none)):=by kernel_rfl
theorem lZ (f:List D->Option Src):Fy f mr loc mh=(match mr loc mh with | none=>none | some (ds,h)=>(match f ds with | some s=>some (s,h) | none=>none)):=by
 unfold Fy DM.bnd;cases mr loc mh with
 | none=>rfl
 | some p =>
  obtain ⟨ds,h⟩:=p;dsimp only;cases f ds <;> rfl
theorem cF:Ip (some ma) loc mh=(match ma loc mh with | some (.int i,h)=>some (some i,h) | _=>none):=by
 show (ma.bnd _) loc mh=_;unfold DM.bnd;cases ma loc mh with
 | none=>rfl
 | some p =>
  obtain ⟨x,h⟩:=p;cases x <;> rfl
theorem cG:Hu ma loc mh=(match ma loc mh with | none=>none | some (x,h)=>(match srcOf x h with | some s=>some (.enum s,h) | none=>none)):=by kernel_rfl
end
theorem tZ (C:Int->Int->Bool) (g:Int->Int->Int) (i j:Int) (mh:MH):iop C g (.int i) (.int j) mh=if C i j=true then some (.int (g i j),mh) else none:=by kernel_rfl
theorem cH {j:Int}(h0:0<=j) (h:j<=1000000):Gr [.int j]=some (.seq (Cd 0 j.toNat)):=by
 have e2:-(2 ^ 62)<=j/\j < 2 ^ 62:=by omega
 unfold Gr;dsimp only;rw [if_pos e2]
theorem cI {B:Nat}(h:B<=1000000):Gr [.int B]=some (.seq (Cd 0 B)):=by rw [cH (by omega) (by omega),Int.toNat_natCast]
theorem le_size {n:Nat}(h:n<=1000000):n<=sizeLine:=by rw [sizeLine_eq];omega
theorem lt_size {n:Nat}(h:n<=1000000):n < sizeLine:=by rw [sizeLine_eq];omega
theorem cJ {ds:List D}{mh:MH}(h:ds.length<=1000000):N6 ds mh=some (.tup ds,mh):=by unfold N6;rw [if_pos (le_size h)]
theorem cL {ds:List D}{mh:MH}(h:ds.length<=1000000):N7 ds mh=some (.ref mh.length,mh++[.lst ds]):=by unfold N7;rw [if_pos (le_size h)]
theorem Uy {n:Nat}{ds:List D}{y:D}{mh:MH}(e:mh[n]?=some (.lst ds)) (h:ds.length<=1000000):Ds (.ref n) [y] mh=some (.non,mh.set n (.lst (ds++[y]))):=by
 simp only [Ds,e,if_pos (lt_size h)]
theorem cM {n m:Nat}{xs ys:List D}{mh:MH}(e1:mh[n]?=some (.lst xs)) (e2:mh[m]?=some (.lst ys)) (h:xs.length+ys.length<=1000000):Aq (.ref n) (.ref m) mh=some (.ref mh.length,mh++[.lst (xs++ys)]):=by
 simp only [Aq,e1,e2,if_pos (le_size h)]
theorem Fj (mh:MH) (n:Nat):∀ ns:List Int,Bm (py mh n) (ns.map D.int)=some (ns.map PyData.int)
 | []=>rfl
 | a::r=>by
  have e:py mh n (.int a)=some (.int a):=by cases n <;> rfl
  simp only [List.map_cons,Bm,e,Fj mh n r]
theorem Ke:∀ xs ys:List Int,PyData.eqvAll (xs.map PyData.int) (ys.map PyData.int)=(xs==ys)
 | [],[]=>by simp [PyData.eqvAll]
 | [],_::_=>by simp [PyData.eqvAll]
 | _::_,[]=>by simp [PyData.eqvAll]
 | a::r,b::t=>by simp only [List.map_cons,PyData.eqvAll,PyData.eqv,Ke r t];rfl
end DL
namespace DL
open PySem L2 PyProof.Rows
noncomputable abbrev Ao (n:Nat):D:=.int (n:Int)
end DL
namespace DL
open PySem L2
noncomputable def wD {α:Type}(m:DM α) (loc:DL.Loc) (mh:MH) (P:α->MH->Prop):Prop:=∃ a h,m loc mh=some (a,h)/\P a h
noncomputable def wV (r:Option (D×MH)) (P:D->MH->Prop):Prop:=∃ d h,r=some (d,h)/\P d h
noncomputable def wG (r:Option (DL.Loc×MH)) (P:DL.Loc->MH->Prop):Prop:=∃ l h,r=some (l,h)/\P l h
noncomputable def wS (m:SM) (loc:DL.Loc) (mh:MH) (P:Fl->DL.Loc->MH->Prop):Prop:=∃ f l h,m loc mh=some (f,l,h)/\P f l h
section
variable {loc:DL.Loc}{mh:MH}{ma mb mc:DM D}{mr:DM (List D)}{t u:DM Bool}{P:D->MH->Prop}{B:Bool->MH->Prop}
theorem Ba {α:Type}{m:DM α}{P Q:α->MH->Prop}(h:wD m loc mh P) (i:∀ a h,P a h->Q a h):wD m loc mh Q:=let ⟨a,h',e,p⟩:=h;⟨a,h',e,i a h' p⟩
theorem cN {i:Nat}{d:D}(e:loc[i]?=some (some d)) (h:P d mh):wD (vr i) loc mh P:=⟨d,mh,by rw [zO,e],h⟩
theorem Gu {α:Type}{a:α}{P:α->MH->Prop}(h:P a mh):wD (Zr a) loc mh P:=⟨a,mh,rfl,h⟩
theorem Cg {α β:Type}{m:DM α}{f:α->DM β}{P:β->MH->Prop}(h:wD m loc mh fun a h1=>wD (f a) loc h1 P):wD (m.bnd f) loc mh P:=by
 obtain ⟨a,h1,e1,b,h2,e2,p⟩:=h;exact ⟨b,h2,by unfold DM.bnd;rw [e1];exact e2,p⟩
theorem cO {f:D->D->MH->Option (D×MH)}(h:wD ma loc mh fun x h1=>wD mb loc h1 fun y h2=>wV (f x y h2) P):wD (dop f ma mb) loc mh P:=Cg (Ba h fun _ _ q=>Cg (Ba q fun _ _ z=>z))
theorem mC {P:List D->MH->Prop}(h:wD ma loc mh fun x h1=>wD mr loc h1 fun xs h2=>P (x::xs) h2):wD (Aa ma mr) loc mh P:=Cg (Ba h fun _ _ q=>Cg (Ba q fun _ _ z=>Gu z))
theorem uD {f:Fn}(h:wD mr loc mh fun ds h1=>wV (f ds h1) P):wD (Al f mr) loc mh P:=Cg (Ba h fun _ _ q=>q)
theorem cP (h:wD mr loc mh fun ds h1=>ds.length<=1000000/\P (.tup ds) h1):wD (Bk mr) loc mh P:=Cg (Ba h fun _ _ q=>⟨_,_,cJ q.1,q.2⟩)
theorem uE (h:wD mr loc mh fun ds h1=>ds.length<=1000000/\P (.ref h1.length) (h1++[.lst ds])):wD (lstM mr) loc mh P:=Cg (Ba h fun _ _ q=>⟨_,_,cL q.1,q.2⟩)
theorem uF (h:wD ma loc mh fun x h1=>∃ i,x=.int i/\P (.int (-i)) h1):wD (lU ma) loc mh P:=Cg (Ba h fun _ _ ⟨i,e,q⟩=>by subst e;exact ⟨_,_,rfl,q⟩)
theorem V7 (h:wD ma loc mh fun x h1=>∃ k,x=.bl k/\B k h1):wD (Ae ma) loc mh B:=Cg (Ba h fun _ _ ⟨k,e,q⟩=>by subst e;exact Gu q)
theorem uG (h:wD ma loc mh fun x h1=>∃ k,Zm x h1=some k/\B k h1):wD (Nf ma) loc mh B:=by
 obtain ⟨x,h1,e,k,ek,q⟩:=h;exact ⟨k,h1,by rw [lV,e];dsimp only;rw [ek],q⟩
theorem mD (h:wD t loc mh fun k h1=>B (!k) h1):wD (N5 t) loc mh B:=Cg (Ba h fun _ _ q=>Gu q)
theorem mF (h:wD t loc mh fun k h1=>(k=true->wD u loc h1 B)/\(k=false->B false h1)):wD (Gp t u) loc mh B:=Cg (Ba h fun k _ q=>by
 cases k with
 | true=>exact q.1 rfl
 | false=>exact Gu (q.2 rfl))
theorem uH (h:wD t loc mh fun k h1=>(k=true->B true h1)/\(k=false->wD u loc h1 B)):wD (Le t u) loc mh B:=Cg (Ba h fun k _ q=>by
 cases k with
 | true=>exact Gu (q.1 rfl)
 | false=>exact q.2 rfl)
theorem zP (h:wD t loc mh fun k h1=>(k=true->wD ma loc h1 P)/\(k=false->wD mb loc h1 P)):wD (dIf t ma mb) loc mh P:=Cg (Ba h fun k _ q=>by
 cases k with
 | true=>exact q.1 rfl
 | false=>exact q.2 rfl)
theorem mG {T:String}{f:D->List D->MH->Option (D×MH)}(h:wD ma loc mh fun x h1=>Xi T x h1=true/\wD mr loc h1 fun ds h2=>wV (f x ds h2) P):wD (Cm T f ma mr) loc mh P:=by
 obtain ⟨x,h1,e1,ht,ds,h2,e2,d,h3,e3,p⟩:=h;exact ⟨d,h3,by rw [cB,e1];dsimp only;rw [if_pos ht,e2];exact e3,p⟩
theorem cQ {O:Option Int->MH->Prop}(h:O none mh):wD (Ip none) loc mh O:=⟨none,mh,rfl,h⟩
theorem cR {O:Option Int->MH->Prop}(h:wD ma loc mh fun x h1=>∃ i,x=.int i/\O (some i) h1):wD (Ip (some ma)) loc mh O:=by
 obtain ⟨x,h1,e,i,rfl,q⟩:=h;exact ⟨some i,h1,by rw [cF,e],q⟩
theorem oM {ml mu:Option (DM D)}(h:wD ma loc mh fun x h1=>wD (Ip ml) loc h1 fun l h2=>wD (Ip mu) loc h2 fun r h3=>wV (slD x l r h3) P):wD (dSl ma ml mu) loc mh P :=
 Cg (Ba h fun _ _ q=>Cg (Ba q fun _ _ z=>Cg (Ba z fun _ _ w=>w)))
theorem cT {R:Src->MH->Prop}(h:wD ma loc mh fun x h1=>∃ s,srcOf x h1=some s/\R s h1):wD (Cy ma) loc mh R:=by
 obtain ⟨x,h1,e,s,es,q⟩:=h;exact ⟨s,h1,by rw [lY,e];dsimp only;rw [es],q⟩
theorem mH {R:Src->MH->Prop}(h:wD ma loc mh fun x h1=>∃ s,srcOf x h1=some s/\R (.enum s) h1):wD (Hu ma) loc mh R:=by
 obtain ⟨x,h1,e,s,es,q⟩:=h;exact ⟨.enum s,h1,by rw [cG,e];dsimp only;rw [es],q⟩
theorem uI {R:Src->MH->Prop}{f:List D->Option Src}(h:wD mr loc mh fun ds h1=>∃ s,f ds=some s/\R s h1):wD (Fy f mr) loc mh R:=by
 obtain ⟨x,h1,e,s,es,q⟩:=h;exact ⟨s,h1,by rw [lZ,e];dsimp only;rw [es],q⟩
end
noncomputable def Px (m2:SM) (P:Fl->DL.Loc->MH->Prop) (f:Fl) (l:DL.Loc) (h:MH):Prop:=match f with
 | .nx=>wS m2 l h P
 | f=>P f l h
section
variable {loc l:DL.Loc}{mh h1:MH}{me:DM D}{m1 m2:SM}{g:GM}{t:DM Bool}{P:Fl->DL.Loc->MH->Prop}
theorem V8 {m:SM}{P Q:Fl->DL.Loc->MH->Prop}(h:wS m loc mh P) (i:∀ f l h,P f l h->Q f l h):wS m loc mh Q:=let ⟨f,l,h',e,p⟩:=h;⟨f,l,h',e,i f l h' p⟩
theorem Gv (h:wS m1 loc mh (Px m2 P)):wS (Ab m1 m2) loc mh P:=by
 obtain ⟨f,l,h1,e,q⟩:=h;cases f with
 | nx =>
  obtain ⟨f',l',h',e',p⟩:=q;exact ⟨f',l',h',by rw [V6,e];exact e',p⟩
 | _=>exact ⟨_,l,h1,by rw [V6,e],q⟩
theorem Bp (h:wS m2 l h1 P):Px m2 P .nx l h1:=h
theorem mJ {d:D}(h:P (.rt d) l h1):Px m2 P (.rt d) l h1:=h
theorem Ie (h:P .nx loc mh):wS Zn loc mh P:=⟨_,_,_,rfl,h⟩
theorem Mu (h:wD me loc mh fun d h1=>wG (g d loc h1) fun l h2=>P .nx l h2):wS (Ah me g) loc mh P:=by
 obtain ⟨d,h1,e1,l,h2,e2,p⟩:=h;exact ⟨.nx,l,h2,by rw [lW,e1];dsimp only;rw [e2],p⟩
theorem uJ (h:wD me loc mh fun d h1=>P (.rt d) loc h1):wS (retS me) loc mh P:=by
 obtain ⟨d,h1,e1,p⟩:=h;exact ⟨.rt d,loc,h1,by rw [lX,e1],p⟩
theorem mK (h:wD me loc mh fun _ h1=>P .nx loc h1):wS (Hr me) loc mh P:=by
 obtain ⟨d,h1,e1,p⟩:=h;exact ⟨.nx,loc,h1,by rw [cD,e1],p⟩
theorem oN (h:wD t loc mh fun k h1=>(k=true->wS m1 loc h1 P)/\(k=false->wS m2 loc h1 P)):wS (ifS t m1 m2) loc mh P:=by
 obtain ⟨k,h1,e1,a,b⟩:=h;cases k with
 | true =>
  obtain ⟨f,l,h',e,p⟩:=a rfl;exact ⟨f,l,h',by rw [cC,e1];exact e,p⟩
 | false =>
  obtain ⟨f,l,h',e,p⟩:=b rfl;exact ⟨f,l,h',by rw [cC,e1];exact e,p⟩
theorem Ay {i:Nat}{d:D}{R:DL.Loc->MH->Prop}(h:R (loc.set i (some d)) mh):wG (Ag i d loc mh) R:=⟨_,_,rfl,h⟩
theorem J0 {is:List Nat}{ds:List D}{R:DL.Loc->MH->Prop}(hl:ds.length=is.length) (h:R (Fz is ds loc) mh):wG (Iu is (.tup ds) loc mh) R:=⟨_,_,if_pos hl,h⟩
theorem uK {mo mi:DM D}{v:D}{R:DL.Loc->MH->Prop}(h:wD mo loc mh fun o h1=>wD mi loc h1 fun i h2=>∃ h3,Fb o i v h2=some h3/\R loc h3):wG (Cj mo mi v loc mh) R:=by
 obtain ⟨o,h1,e1,i,h2,e2,h3,e3,p⟩:=h;refine ⟨loc,h3,?_,p⟩;unfold Cj Ju;rw [e1];dsimp only;rw [e2];dsimp only;rw [e3]
theorem uL {mo mi:DM D}{v:D}{R:DL.Loc->MH->Prop}(h:wD mo loc mh fun o h1=>wD mi loc h1 fun i h2=>∃ n kvs k,o=.ref n/\h2[n]?=some (.dct kvs)/\Nh i=some k/\kvs.length < 1000000/\R loc (h2.set n (.dct (putD kvs k v)))):wG (Cj mo mi v loc mh) R:=by
 obtain ⟨o,h1,e1,i,h2,e2,n,kvs,k,rfl,e3,e4,e5,p⟩:=h;refine ⟨loc,_,?_,p⟩;have e6:Fb (.ref n) i v h2=none:=by
  unfold Fb;cases i <;> simp only [e3]
 unfold Cj Ju;rw [e1];dsimp only;rw [e2];dsimp only;rw [e6];dsimp only;simp only [Hw,e3,e4,if_pos e5]
theorem Je {P:D->MH->Prop}(h:P (.ref mh.length) (mh++[.dct []])):wD newD loc mh P:=⟨_,_,rfl,h⟩
theorem Jf {n:Nat}{ds:List D}{k:Nat}{v:D}{h:MH}(e:h[n]?=some (.lst ds)) (hk:k < ds.length):Fb (.ref n) (.int k) v h=some (h.set n (.lst (ds.set k v))):=by
 have e2:ixN ds.length (k:Int)=some k:=by unfold ixN;rw [if_pos (by omega),if_pos (by omega)];simp
 simp only [Fb,e,e2]
noncomputable def mL (J:DL.Loc->MH->Prop) (P:Fl->DL.Loc->MH->Prop) (f:Fl) (l:DL.Loc) (h:MH):Prop:=match f with
 | .nx=>J l h
 | .ct=>J l h
 | .bk=>P .nx l h
 | .rt d=>P (.rt d) l h
theorem Uz {src:Src}{ds:List D}{body:SM}(J:Nat->DL.Loc->MH->Prop) (keep:∀ i l h,J i l h->src.ok h=true/\src.items h=ds)
  (step:∀ i d l h,ds[i]?=some d->J i l h->wG (g d l h) fun l1 h1=>wS body l1 h1 (mL (J (i+1)) P)) (fin:∀ l h,J ds.length l h->P .nx l h) :
  ∀ (k i:Nat) (l:DL.Loc) (h:MH),i+k=ds.length->J i l h->wS (Kh src g body k i) l h P
 | 0,i,l,h,e,j=>by
  have e:i=ds.length:=by omega
  subst e;have s:src.stop h ds.length=true:=by
   unfold Src.stop;rw [(keep _ _ _ j).1,(keep _ _ _ j).2,Bool.true_and];exact decide_eq_true (Nat.le_refl _)
  exact ⟨.nx,l,h,by simp only [Kh,s,if_true],fin _ _ j⟩
 | k+1,i,l,h,e,j=>by
  have hi:i < ds.length:=by omega
  have eg:src.get h i=some ds[i]:=by
   unfold Src.get;rw [(keep _ _ _ j).2,List.getElem?_eq_getElem hi]
  obtain ⟨l1,h1,e1,f,l2,h2,e2,q⟩:=step i ds[i] l h (List.getElem?_eq_getElem hi) j;cases f with
  | nx =>
   obtain ⟨f',l',h',e',p⟩:=Uz J keep step fin k (i+1) l2 h2 (by omega) q;exact ⟨f',l',h',by simp only [Kh,eg,e1,e2];exact e',p⟩
  | ct =>
   obtain ⟨f',l',h',e',p⟩:=Uz J keep step fin k (i+1) l2 h2 (by omega) q;exact ⟨f',l',h',by simp only [Kh,eg,e1,e2];exact e',p⟩
  | bk=>exact ⟨.nx,l2,h2,by simp only [Kh,eg,e1,e2],q⟩
  | rt d=>exact ⟨.rt d,l2,h2,by simp only [Kh,eg,e1,e2],q⟩
theorem Ig {mi:DM Src}{body:SM}(h:wD mi loc mh fun src h0=>∃ ds,∃ J:Nat->DL.Loc->MH->Prop,J 0 loc h0/\(∀ i l h,J i l h->src.ok h=true/\src.items h=ds) /\
  (∀ i d l h,ds[i]?=some d->J i l h->wG (g d l h) fun l1 h1=>wS body l1 h1 (mL (J (i+1)) P))/\∀ l h,J ds.length l h->P .nx l h):wS (Cv mi g body) loc mh P:=by
 obtain ⟨src,h0,e,ds,J,j0,keep,step,fin⟩:=h;have el:(src.items h0).length=ds.length:=by rw [(keep _ _ _ j0).2]
 obtain ⟨f,l,h',e',p⟩:=Uz J keep step fin ds.length 0 loc h0 (by omega) j0;refine ⟨f,l,h',?_,p⟩;unfold Cv;rw [e];dsimp only;rw [el];exact e'
theorem Qi {src:Src}{ds:List D}{tc:DM Bool}{e:DM D}{R:List D->MH->Prop}(J:Nat->List D->MH->Prop) (keep:∀ i acc h,J i acc h->src.ok h=true/\src.items h=ds) (hz:ds.length<=1000000) (small:∀ i acc h,J i acc h->acc.length<=i)
  (step:∀ i d acc h,ds[i]?=some d->J i acc h->wG (g d loc h) fun l1 h1=>wD tc l1 h1 fun c h2=>(c=true->wD e l1 h2 fun y h3=>J (i+1) (acc++[y]) h3)/\(c=false->J (i+1) acc h2)) (fin:∀ acc h,J ds.length acc h->R acc h) :
  ∀ (k i:Nat) (acc:List D) (h:MH),i+k=ds.length->J i acc h->∃ acc' h',Hs src g tc e loc k i acc h=some (acc',h')/\R acc' h'
 | 0,i,acc,h,q,j=>by
  have q:i=ds.length:=by omega
  subst q;have s:src.stop h ds.length=true:=by
   unfold Src.stop;rw [(keep _ _ _ j).1,(keep _ _ _ j).2,Bool.true_and];exact decide_eq_true (Nat.le_refl _)
  exact ⟨acc,h,by simp only [Hs,s,if_true],fin _ _ j⟩
 | k+1,i,acc,h,q,j=>by
  have hi:i < ds.length:=by omega
  have eg:src.get h i=some ds[i]:=by
   unfold Src.get;rw [(keep _ _ _ j).2,List.getElem?_eq_getElem hi]
  obtain ⟨l1,h1,e1,c,h2,e2,a,b⟩:=step i ds[i] acc h (List.getElem?_eq_getElem hi) j;cases c with
  | true =>
   obtain ⟨y,h3,e3,j3⟩:=a rfl;obtain ⟨acc',h',e',p⟩:=Qi J keep hz small step fin k (i+1) _ h3 (by omega) j3;have hl:acc.length < sizeLine:=lt_size (by have:=small _ _ _ j;omega);exact ⟨acc',h',by simp only [Hs,eg,e1,e2,if_true,e3,if_pos hl];exact e',p⟩
  | false =>
   obtain ⟨acc',h',e',p⟩:=Qi J keep hz small step fin k (i+1) _ h2 (by omega) (b rfl);exact ⟨acc',h',by simp only [Hs,eg,e1,e2,Bool.false_eq_true,if_false];exact e',p⟩
theorem mO {mi:DM Src}{cs:List (Option Nat)}{tc:DM Bool}{e:DM D}{Q:D->MH->Prop}(h:wD mi loc mh fun src h0=>∃ ds,∃ J:Nat->List D->MH->Prop,ds.length<=1000000/\J 0 [] h0/\(∀ i acc h,J i acc h->src.ok h=true/\src.items h=ds)/\(∀ i acc h,J i acc h->acc.length<=i) /\
  (∀ i d acc h,ds[i]?=some d->J i acc h->wG (g d (Hl cs loc) h) fun l1 h1=>wD tc l1 h1 fun c h2=>(c=true->wD e l1 h2 fun y h3=>J (i+1) (acc++[y]) h3)/\(c=false->J (i+1) acc h2)) /\
  ∀ acc h,J ds.length acc h->Q (.ref h.length) (h++[.lst acc])):wD (Dl mi cs g tc e) loc mh Q:=by
 obtain ⟨src,h0,e0,ds,J,hz,j0,keep,small,step,fin⟩:=h;have el:(src.items h0).length=ds.length:=by rw [(keep _ _ _ j0).2]
 obtain ⟨acc,h',e',p⟩:=Qi J keep hz small step fin ds.length 0 [] h0 (by omega) j0;refine ⟨.ref h'.length,h'++[.lst acc],?_,p⟩;unfold Dl;rw [e0];dsimp only;rw [el,e']
end
noncomputable def whK (J:Nat->DL.Loc->MH->Prop) (n:Nat) (P:Fl->DL.Loc->MH->Prop) (f:Fl) (l:DL.Loc) (h:MH):Prop:=match f with
 | .nx=>∃ m,m < n/\J m l h
 | .ct=>∃ m,m < n/\J m l h
 | .bk=>P .nx l h
 | .rt d=>P (.rt d) l h
theorem Mv {t:DM Bool}{body:SM}{P:Fl->DL.Loc->MH->Prop}{J:Nat->DL.Loc->MH->Prop}(step:∀ n l h,J n l h->wD t l h fun b h1=>(b=true->wS body l h1 (whK J n P))/\(b=false->P .nx l h1)):∀ (K n:Nat) (loc:DL.Loc) (mh:MH),n < K->J n loc mh->wS (Dp t body K) loc mh P
 | 0,_,_,_,h,_=>absurd h (Nat.not_lt_zero _)
 | K+1,n,loc,mh,hn,j=>by
  obtain ⟨b,h1,et,q⟩:=step n loc mh j;cases b with
  | false=>exact ⟨.nx,loc,h1,by simp only [Dp,et],q.2 rfl⟩
  | true =>
   obtain ⟨f,l,h2,eb,p⟩:=q.1 rfl;cases f with
   | nx =>
    obtain ⟨m,hm,jm⟩:=p;obtain ⟨f3,l3,h3,e3,p3⟩:=Mv step K m l h2 (by omega) jm;exact ⟨f3,l3,h3,by simp only [Dp,et,eb];exact e3,p3⟩
   | ct =>
    obtain ⟨m,hm,jm⟩:=p;obtain ⟨f3,l3,h3,e3,p3⟩:=Mv step K m l h2 (by omega) jm;exact ⟨f3,l3,h3,by simp only [Dp,et,eb];exact e3,p3⟩
   | bk=>exact ⟨.nx,l,h2,by simp only [Dp,et,eb],p⟩
   | rt d=>exact ⟨.rt d,l,h2,by simp only [Dp,et,eb],p⟩
theorem cU {t:DM Bool}{body:SM}{loc:DL.Loc}{mh:MH}{P:Fl->DL.Loc->MH->Prop}(J:Nat->DL.Loc->MH->Prop) (n:Nat) (hn:n < 1000000) (j0:J n loc mh) (step:∀ n l h,J n l h->wD t l h fun b h1=>(b=true->wS body l h1 (whK J n P))/\(b=false->P .nx l h1)):wS (Pq t body) loc mh P :=
 Mv step _ n loc mh hn j0
noncomputable def cV (P:D->MH->Prop) (f:Fl) (_:DL.Loc) (h:MH):Prop:=match f with
 | .rt d=>P d h
 | .nx=>P .non h
 | _=>False
theorem Bd {G:Gb}{n:Nat}{I:FnI}{b:SM}{ds:List D}{mh:MH}{np m:Nat}{P:D->MH->Prop}(hb:iSs G n { N:=I.N,scope:=I.scope,own:=fun _=>true } I.body=b) (hp:I.ps.length=np) (hN:I.N.length=m) (hl:ds.length=np)
  (h:wS b (ds.map some++List.replicate (m - np) none) mh (cV P)):wV (Af G n I ds mh) P:=by
 obtain ⟨f,l,h',e,p⟩:=h;cases f with
 | rt d=>exact ⟨d,h',by unfold Af;rw [if_pos (by rw [hp];exact hl),hb,hN,hl,e],p⟩
 | nx=>exact ⟨.non,h',by unfold Af;rw [if_pos (by rw [hp];exact hl),hb,hN,hl,e],p⟩
 | bk=>exact p.elim
 | ct=>exact p.elim
section
variable {mh:MH}{P:D->MH->Prop}
theorem Qj {C:Int->Int->Bool}{g:Int->Int->Int}{i j:Int}(hC:C i j=true) (h:P (.int (g i j)) mh):wV (iop C g (.int i) (.int j) mh) P:=⟨_,_,by rw [tZ,if_pos hC],h⟩
theorem uM {i j:Int}(h:P (.int (i - j)) mh):wV (tY (.int i) (.int j) mh) P:=Qj rfl h
theorem J1 {i j:Int}(hj:j≠0) (h:P (.int (i.fmod j)) mh):wV (Ej (.int i) (.int j) mh) P:=Qj (decide_eq_true hj) h
theorem Jg {i j:Int}(hj:j≠0) (hb:j.natAbs < 10889035741470030830827987437816582766592) (h:P (.int (i.fdiv j)) mh):wV (Jd (.int i) (.int j) mh) P:=Qj (by rw [decide_eq_true hj,decide_eq_true hb];rfl) h
theorem Et {i j:Int}(hb:(-(2 ^ 64) < i/\i < 2 ^ 64)\/(-(2 ^ 64) < j/\j < 2 ^ 64)) (h:P (.int (i * j)) mh):wV (Fi (.int i) (.int j) mh) P:=show wV (iop R8 (fun i j=>i * j) (.int i) (.int j) mh) P from Qj (by unfold R8;rw [Bool.or_eq_true,decide_eq_true_iff,decide_eq_true_iff];exact hb) h
theorem mQ {g:Int->Int->Bool}{i j:Int}(h:P (.bl (g i j)) mh):wV (Rn g (.int i) (.int j) mh) P:=⟨_,_,rfl,h⟩
theorem uN {i j:Int}(h:P (.int (i+j)) mh):wV (Aq (.int i) (.int j) mh) P:=⟨_,_,rfl,h⟩
theorem uO {i j:Int}(h:P (.bl (i==j)) mh):wV (eqD (.int i) (.int j) mh) P:=⟨_,_,rfl,h⟩
theorem uP {i j:Int}(h:P (.bl (!(i==j))) mh):wV (neD (.int i) (.int j) mh) P:=⟨_,_,rfl,h⟩
theorem V9 {x y:D}{k:Bool}(e:eqB mh x y=some k) (h:P (.bl k) mh):wV (eqD x y mh) P:=⟨_,_,by unfold eqD;rw [e],h⟩
theorem Wa {x y:D}{k:Bool}(e:eqB mh x y=some k) (h:P (.bl (!k)) mh):wV (neD x y mh) P:=⟨_,_,by unfold neD;rw [e],h⟩
theorem mR {x y:D}{k:Bool}(e:inB mh x y=some k):Eo y mh=none:=by
 cases q:Eo y mh with
 | none=>rfl
 | some kvs =>
  obtain ⟨n,rfl,en⟩:=Eh q;have p:py mh 60 (.ref n)=none:=by
   show (match mh[n]? with | some (.lst o)=>(match Bm (py mh 59) o with | some xs=>some (PyData.list xs) | none=>none) | _=>none)=_;rcases en with ⟨kvs,en,_⟩ | ⟨kvs,en,_⟩ <;> rw [en]
  unfold inB at e;rw [p] at e;split at e
  ·rename_i z;cases z
  ·rename_i z;cases z
  ·cases e
theorem cW {neg:Bool}{x y:D}{k:Bool}(e:inB mh x y=some k) (h:P (.bl (if neg then !k else k)) mh):wV (inD neg x y mh) P:=⟨_,_,by unfold inD;rw [mR e];dsimp only;unfold Xa;rw [e],h⟩
theorem Ks {n m:Nat}{xs ys:List D}(e1:mh[n]?=some (.lst xs)) (e2:mh[m]?=some (.lst ys)) (hz:xs.length+ys.length<=1000000) (h:P (.ref mh.length) (mh++[.lst (xs++ys)])):wV (Aq (.ref n) (.ref m) mh) P:=⟨_,_,cM e1 e2 hz,h⟩
theorem Bb {xs ys:List D}(hz:xs.length+ys.length<=1000000) (h:P (.tup (xs++ys)) mh):wV (Aq (.tup xs) (.tup ys) mh) P:=⟨_,_,by simp only [Aq,if_pos (le_size hz)],h⟩
theorem Ek {ds:List D}{j:Nat}{d:D}(e:ds[j]?=some d) (h:P d mh):wV (ixD (.tup ds) (.int j) mh) P:=⟨d,mh,by simp only [ixD,Eo,Zt,Er,O4 e],h⟩
theorem uQ {ds:List D}{j:Nat}{d:D}(e:ds[j]?=some d) (h:P d mh):wV (ixD (.rol ds) (.int j) mh) P:=⟨d,mh,by simp only [ixD,Eo,Zt,Er,O4 e],h⟩
theorem Bl {n:Nat}{ds:List D}{j:Nat}{d:D}(e1:mh[n]?=some (.lst ds)) (e:ds[j]?=some d) (h:P d mh):wV (ixD (.ref n) (.int j) mh) P:=⟨d,mh,by simp only [ixD,Xx e1,Zt,Er,e1,O4 e],h⟩
theorem G9 {n:Nat}{ds:List D}{y:D}(e:mh[n]?=some (.lst ds)) (hz:ds.length<=1000000) (h:P .non (mh.set n (.lst (ds++[y])))):wV (Ds (.ref n) [y] mh) P:=⟨_,_,Uy e hz,h⟩
theorem Ge {x:D}{ds:List D}(hx:∀ z,x≠.str z) (e:Er x mh=some ds) (h:P (.int ds.length) mh):wV (Es [x] mh) P:=by
 refine ⟨_,_,?_,h⟩;cases x with
 | str z=>exact (hx z rfl).elim
 | ref n =>
  have e':(match mh[n]? with | some (.lst o)=>some o | _=>none)=some ds:=e;cases q:mh[n]? with
  | none=>rw [q] at e';cases e'
  | some o=>cases o <;> first | (rw [q] at e';cases e';done) | simp only [Es,q,N8,e]
 | _=>simp only [Es,N8,e]
theorem J2 {x:D}{ds:List D}(e:Er x mh=some ds) (h:P (.ref mh.length) (mh++[.lst ds])):wV (Oa [x] mh) P:=⟨_,_,by simp only [Oa,e],h⟩
theorem Cu {x:D}{ds:List D}(e:Er x mh=some ds) (h:P (.tup ds) mh):wV (Dm [x] mh) P:=⟨_,_,by simp only [Dm,e],h⟩
end
structure Ext (W:List Nat) (a b:MH):Prop where
 len:a.length<=b.length
 old:∀ i o,i ∉ W->a[i]?=some o->b[i]?=some o
theorem Ext.refl {W:List Nat}{a:MH}:Ext W a a:=⟨Nat.le_refl _,fun _ _ _ e=>e⟩
theorem Ext.trans {W:List Nat}{a b c:MH}(x:Ext W a b) (y:Ext W b c):Ext W a c:=⟨Nat.le_trans x.len y.len,fun i o h e=>y.old i o h (x.old i o h e)⟩
theorem Ext.weak {W:List Nat}{a b:MH}(x:Ext [] a b):Ext W a b:=⟨x.len,fun i o _ e=>x.old i o (by simp) e⟩
theorem Ext.more {W:List Nat}{a g:MH}:Ext W a (a++g):=⟨by rw [List.length_append];omega,fun i o _ e=>by rw [List.getElem?_append_left (List.getElem?_eq_some_iff.mp e).1];exact e⟩
theorem Ext.set {n:Nat}{a:MH}{o:MO}:Ext [n] a (a.set n o):=⟨by rw [List.length_set];exact Nat.le_refl _,fun i o' h e=>by rw [List.getElem?_set_ne (fun z=>h (by simp [z]))];exact e⟩
theorem Ext.setNew {W:List Nat}{n:Nat}{a b:MH}{o:MO}(x:Ext W a b) (h:a.length<=n):Ext W a (b.set n o):=⟨by rw [List.length_set];exact x.len,fun i o' hi e=>by
 have:i < a.length:=(List.getElem?_eq_some_iff.mp e).1
 rw [List.getElem?_set_ne (by omega)];exact x.old i o' hi e⟩
theorem Ak {a:MH}{o:MO}:(a++[o])[a.length]?=some o:=by rw [List.getElem?_append_right (Nat.le_refl _),Nat.sub_self];rfl
theorem Qk {a:MH}{n:Nat}{o o':MO}(h:a[n]?=some o'):(a.set n o)[n]?=some o:=by
 rw [List.getElem?_set];simp [(List.getElem?_eq_some_iff.mp h).1]
theorem Jh {a b:Str}{k:Bool}(ha:PyData.strOk a=true) (hb:PyData.strOk b=true) (e:(a==b)=k) (mh:MH):eqB mh (.str a) (.str b)=some k:=by
 unfold eqB;simp only [py,if_pos ha,if_pos hb,PyData.eqv,e]
section
variable {loc:DL.Loc}{mh:MH}{ma:DM D}{mr:DM (List D)}{P:D->MH->Prop}
theorem Abj {a b:Str}(ha:PyData.strOk a=true) (hb:PyData.strOk b=true) (e:(a==b)=true) (h:P (.bl true) mh):wV (eqD (.str a) (.str b) mh) P:=V9 (Jh ha hb e mh) h
theorem Abk {a b:Str}(ha:PyData.strOk a=true) (hb:PyData.strOk b=true) (e:(a==b)=false) (h:P (.bl false) mh):wV (eqD (.str a) (.str b) mh) P:=V9 (Jh ha hb e mh) h
end
section
variable {loc:DL.Loc}{mh:MH}{ma:DM D}{mr:DM (List D)}{P:D->MH->Prop}
theorem mU {y:D}{k:PyData}{n:Nat}{kvs:List (PyData×D)}{d:D}(e:mh[n]?=some (.dtk kvs)) (ek:kD y=some k) (ed:Gj kvs k=some d) (h:P d mh):wV (ixD (.ref n) y mh) P :=
 ⟨_,_,by simp only [ixD,Jt e,ek,Option.map_some,ed],h⟩
end
theorem zQ {k:Bool}{B:Bool->Prop}(h:B k):∃ j,D.bl k=.bl j/\B j:=⟨k,rfl,h⟩
theorem uR {i:Int}{B:Int->Prop}(h:B i):∃ j,D.int i=.int j/\B j:=⟨i,rfl,h⟩
theorem U0 {p q:Prop}(h:p):((true=true)->p)/\((true=false)->q):=⟨fun _=>h,fun z=>by cases z⟩
theorem Ql {p q:Prop}(h:q):((false=true)->p)/\((false=false)->q):=⟨fun z=>(by cases z),fun _=>h⟩
theorem Wb {k:Bool}{p q:Prop}(e:k=true) (h:p):(k=true->p)/\(k=false->q):=⟨fun _=>h,fun z=>by rw [e] at z;cases z⟩
theorem mV {k:Bool}{p q:Prop}(e:k=false) (h:q):(k=true->p)/\(k=false->q):=⟨fun z=>(by rw [e] at z;cases z),fun _=>h⟩
theorem Ax {k:Bool}{p q:Prop}(h1:k=true->p) (h2:k=false->q):(k=true->p)/\(k=false->q):=⟨h1,h2⟩
theorem uT {k:Bool}{h:MH}{B:Bool->Prop}(q:B k):∃ j,Zm (.bl k) h=some j/\B j:=⟨k,rfl,q⟩
noncomputable def Mw (l:List Nat):D:=.tup (l.map Ao)
theorem Mx (l:List Nat):l.map Ao=(l.map fun n:Nat=>(n:Int)).map D.int:=by rw [List.map_map];rfl
theorem mW (l:List Nat) (mh:MH):py mh 60 (Mw l)=some (.tuple ((l.map fun n:Nat=>(n:Int)).map PyData.int)):=by
 show (match Bm (py mh 59) (l.map Ao) with | some xs=>some (PyData.tuple xs) | none=>none)=_;rw [Mx,Fj]
theorem Oq {α β:Type}{f:α->β}{l:List α}(nd:l.Nodup) (inj:∀ a∈l,∀ b∈l,f a=f b->a=b):(l.map f).Nodup:=by
 induction l with
 | nil=>exact List.nodup_nil
 | cons a r ih =>
  obtain ⟨na,nr⟩:=List.nodup_cons.mp nd;rw [List.map_cons,List.nodup_cons];refine ⟨fun hm=>?_,ih nr fun x hx y hy=>inj x (.tail _ hx) y (.tail _ hy)⟩;obtain ⟨b,hb,e⟩:=List.mem_map.mp hm;have:=inj b (.tail _ hb) a (.head _) e;exact na (this ▸ hb)
mutual
noncomputable def dat:Nat->D->Bool
 | _,.int _=>true
 | _,.bl _=>true
 | _,.non=>true
 | _,.str x=>PyData.strOk x
 | n+1,.tup ds=>Qm n ds
 | _,_=>false
noncomputable def Qm:Nat->List D->Bool
 | _,[]=>true
 | n,d::r=>dat n d&&Qm n r
end
mutual
theorem cX (mh:MH):∀ (n:Nat) (d:D),dat n d=true->∃ a,py mh n d=some a/\a.canLay0=true
 | n,.int i,_=>⟨.int i,by cases n <;> rfl,rfl⟩
 | n,.bl i,_=>⟨.bool i,by cases n <;> rfl,rfl⟩
 | n,.non,_=>⟨.none,by cases n <;> rfl,rfl⟩
 | n,.str x,h=>by
  have h2:PyData.strOk x=true:=by cases n <;> exact h
  exact ⟨.str x,by cases n <;> (show (if PyData.strOk x=true then some (PyData.str x) else none)=_;rw [if_pos h2]),h2⟩
 | 0,.tup ds,h=>by simp [dat] at h
 | n+1,.tup ds,h=>by
  have h:Qm n ds=true:=h;obtain ⟨as,e,l⟩:=Wc mh n ds h;exact ⟨.tuple as,by simp only [py,e],by simpa [PyData.canLay0] using l⟩
 | 0,.ref _,h=>by simp [dat] at h
 | _+1,.ref _,h=>by simp [dat] at h
 | 0,.rol _,h=>by simp [dat] at h
 | _+1,.rol _,h=>by simp [dat] at h
 | 0,.obj ..,h=>by simp [dat] at h
 | _+1,.obj ..,h=>by simp [dat] at h
 | 0,.fn _,h=>by simp [dat] at h
 | _+1,.fn _,h=>by simp [dat] at h
theorem Wc (mh:MH):∀ (n:Nat) (ds:List D),Qm n ds=true->∃ as,Bm (py mh n) ds=some as/\PyData.canLayAll0 as=true
 | n,[],_=>⟨[],rfl,rfl⟩
 | n,d::r,h=>by
  have h:(dat n d&&Qm n r)=true:=by simpa [Qm] using h
  rw [Bool.and_eq_true] at h;obtain ⟨a,e1,l1⟩:=cX mh n d h.1;obtain ⟨as,e2,l2⟩:=Wc mh n r h.2;exact ⟨a::as,by simp only [Bm,e1,e2],by simp only [PyData.canLayAll0,l1,l2,Bool.and_self]⟩
end
theorem S6 {x:D}(h:dat 60 x=true) (mh:MH):eqB mh x x=some true:=by
 obtain ⟨a,e,l⟩:=cX mh 60 x h;unfold eqB;rw [e];dsimp only;rw [SeqAt.eqv_refl a l]
theorem Ji {x y:D}{mh:MH}{P:D->MH->Prop}(e:x=y) (hx:dat 60 x=true) (h:P (.bl false) mh):wV (neD x y mh) P:=by
 subst e;exact Wa (S6 hx mh) h
theorem eq_refl {x y:D}{mh:MH}{P:D->MH->Prop}(e:x=y) (hx:dat 60 x=true) (h:P (.bl true) mh):wV (eqD x y mh) P:=by
 subst e;exact V9 (S6 hx mh) h
theorem any_ints (x:Nat):∀ (p:List Nat),(((p.map fun n:Nat=>(n:Int)).map PyData.int).any fun y=>PyData.eqv y (.int x))=p.contains x
 | []=>rfl
 | a::r=>by
  rw [List.map_cons,List.map_cons,List.any_cons,any_ints x r,List.contains_cons];congr 1;show (((a:Nat):Int)==((x:Nat):Int))=(x==a);rw [Bool.eq_iff_iff,beq_iff_eq,beq_iff_eq];omega
theorem cY (x:Nat) (p:List Nat) (mh:MH):inB mh (.int x) (Mw p)=some (p.contains x):=by
 unfold inB;rw [mW];show some (((p.map fun n:Nat=>(n:Int)).map PyData.int).any fun y=>PyData.eqv y (.int x))=_;rw [any_ints]
theorem ty_list {a:Nat}{ds:List D}{mh:MH}(e:mh[a]?=some (.lst ds)):Xi "list" (.ref a) mh=true:=by
 show (true&&(match mh[a]? with | some (.lst _)=>true | _=>false))=true;rw [e];rfl
theorem src_list {a:Nat}{ds:List D}{mh:MH}(e:mh[a]?=some (.lst ds)):srcOf (.ref a) mh=some (.lref a):=by
 show (match mh[a]? with | some (.lst _)=>some (Src.lref a) | _=>none)=_;rw [e]
theorem Fo {a:Nat}{ds:List D}{mh:MH}(e:mh[a]?=some (.lst ds)):(Src.lref a).ok mh=true/\(Src.lref a).items mh=ds:=by
 refine ⟨?_,?_⟩
 ·show (match mh[a]? with | some (.lst _)=>true | _=>false)=true;rw [e]
 ·show (match mh[a]? with | some (.lst o)=>o | _=>[])=_;rw [e]
end DL
namespace Lw
open PySem L2 DL
noncomputable def top (i:Nat):Stmt:=PySem.Challenge.pw_letterall_k85_what_is_left_of_a_talk.main.body.getD i (.Pass ⟨0,0,0,0⟩)
noncomputable def f1:FnI:=Ce (top 1)
noncomputable def f2:FnI:=Ce (top 2)
noncomputable def f3:FnI:=Ce (top 3)
noncomputable def f5:FnI:=Ce (top 5)
noncomputable def f6:FnI:=Ce (top 6)
noncomputable def f7:FnI:=Ce (top 7)
noncomputable def f9:FnI:=Ce (top 9)
noncomputable def f10:FnI:=Ce (top 10)
noncomputable def f11:FnI:=Ce (top 11)
noncomputable def f12:FnI:=Ce (top 12)
noncomputable def f13:FnI:=Ce (top 13)
noncomputable def f14:FnI:=Ce (top 14)
noncomputable def f15:FnI:=Ce (top 15)
noncomputable def f16:FnI:=Ce (top 16)
noncomputable def f17:FnI:=Ce (top 17)
noncomputable def f18:FnI:=Ce (top 18)
noncomputable def f19:FnI:=Ce (top 19)
noncomputable def f20:FnI:=Ce (top 20)
noncomputable def f21:FnI:=Ce (top 21)
noncomputable def f22:FnI:=Ce (top 22)
noncomputable def f23:FnI:=Ce (top 23)
noncomputable def f24:FnI:=Ce (top 24)
noncomputable def f25:FnI:=Ce (top 25)
noncomputable def cZ:List (Str×Stmt):=("inner_talks",top 1)::("named_in",top 2)::("addressed_by",top 3)::("follow",top 5)::("left",top 6)::("left_of_line",top 7)::("_law_cell_at",top 9)::("_law_next",top 10)::("_law_tos",top 11)::("_law_inner",top 12)::("_law_line",top 13)::("_law_fork",top 14)::("_law_talk",top 15)::("_law_inners",top 16)::("_law_names",top 17)::("_law_others",top 18)::("_law_ways",top 19)::("_law_touching",top 20)::("_law_due",top 21)::("_law_right",top 22)::("_law_all_right",top 23)::("_law_long",top 24)::("law",top 25)::[]
noncomputable def tb (x:Str):Option FnI:=(cZ.lookup x).map Ce
theorem dB:bZ cZ:=⟨Bu ⟨rfl,rfl,rfl,by decide +kernel,by decide +kernel,by decide +kernel,by decide +kernel⟩ fun _ _ _ _ _ _=>ln1 fun _=>rfl,Bu ⟨rfl,rfl,rfl,by decide +kernel,by decide +kernel,by decide +kernel,by decide +kernel⟩ fun _ _ _ _ _ _=>ln1 fun _=>rfl,Bu ⟨rfl,rfl,rfl,by decide +kernel,by decide +kernel,by decide +kernel,by decide +kernel⟩ fun _ _ _ _ _ _=>ln1 fun _=>rfl,Bu ⟨rfl,rfl,rfl,by decide +kernel,by decide +kernel,by decide +kernel,by decide +kernel⟩ fun _ _ _ _ _ _=>ln2 fun _ _=>rfl,Bu ⟨rfl,rfl,rfl,by decide +kernel,by decide +kernel,by decide +kernel,by decide +kernel⟩ fun _ _ _ _ _ _=>ln2 fun _ _=>rfl,Bu ⟨rfl,rfl,rfl,by decide +kernel,by decide +kernel,by decide +kernel,by decide +kernel⟩ fun _ _ _ _ _ _=>ln2 fun _ _=>rfl,Bu ⟨rfl,rfl,rfl,by decide +kernel,by decide +kernel,by decide +kernel,by decide +kernel⟩ fun _ _ _ _ _ _=>ln2 fun _ _=>rfl,Bu ⟨rfl,rfl,rfl,by decide +kernel,by decide +kernel,by decide +kernel,by decide +kernel⟩ fun _ _ _ _ _ _=>ln2 fun _ _=>rfl,Bu ⟨rfl,rfl,rfl,by decide +kernel,by decide +kernel,by decide +kernel,by decide +kernel⟩ fun _ _ _ _ _ _=>ln2 fun _ _=>rfl,Bu ⟨rfl,rfl,rfl,by decide +kernel,by decide +kernel,by decide +kernel,by decide +kernel⟩ fun _ _ _ _ _ _=>ln2 fun _ _=>rfl,Bu ⟨rfl,rfl,rfl,by decide +kernel,by decide +kernel,by decide +kernel,by decide +kernel⟩ fun _ _ _ _ _ _=>ln2 fun _ _=>rfl,Bu ⟨rfl,rfl,rfl,by decide +kernel,by decide +kernel,by decide +kernel,by decide +kernel⟩ fun _ _ _ _ _ _=>ln5 fun _ _ _ _ _=>rfl,Bu ⟨rfl,rfl,rfl,by decide +kernel,by decide +kernel,by decide +kernel,by decide +kernel⟩ fun _ _ _ _ _ _=>ln2 fun _ _=>rfl,Bu ⟨rfl,rfl,rfl,by decide +kernel,by decide +kernel,by decide +kernel,by decide +kernel⟩ fun _ _ _ _ _ _=>ln1 fun _=>rfl,Bu ⟨rfl,rfl,rfl,by decide +kernel,by decide +kernel,by decide +kernel,by decide +kernel⟩ fun _ _ _ _ _ _=>ln2 fun _ _=>rfl,Bu ⟨rfl,rfl,rfl,by decide +kernel,by decide +kernel,by decide +kernel,by decide +kernel⟩ fun _ _ _ _ _ _=>ln2 fun _ _=>rfl,Bu ⟨rfl,rfl,rfl,by decide +kernel,by decide +kernel,by decide +kernel,by decide +kernel⟩ fun _ _ _ _ _ _=>ln1 fun _=>rfl,Bu ⟨rfl,rfl,rfl,by decide +kernel,by decide +kernel,by decide +kernel,by decide +kernel⟩ fun _ _ _ _ _ _=>ln2 fun _ _=>rfl,Bu ⟨rfl,rfl,rfl,by decide +kernel,by decide +kernel,by decide +kernel,by decide +kernel⟩ fun _ _ _ _ _ _=>ln1 fun _=>rfl,Bu ⟨rfl,rfl,rfl,by decide +kernel,by decide +kernel,by decide +kernel,by decide +kernel⟩ fun _ _ _ _ _ _=>ln4 fun _ _ _ _=>rfl,Bu ⟨rfl,rfl,rfl,by decide +kernel,by decide +kernel,by decide +kernel,by decide +kernel⟩ fun _ _ _ _ _ _=>ln2 fun _ _=>rfl,Bu ⟨rfl,rfl,rfl,by decide +kernel,by decide +kernel,by decide +kernel,by decide +kernel⟩ fun _ _ _ _ _ _=>ln1 fun _=>rfl,Bu ⟨rfl,rfl,rfl,by decide +kernel,by decide +kernel,by decide +kernel,by decide +kernel⟩ fun _ _ _ _ _ _=>ln1 fun _=>rfl,trivial⟩
noncomputable def con (_:Str):Option D:=none
noncomputable def dic (_:Str):Option (List (Str×D)):=none
noncomputable def fld (_ _:Str):Bool:=false
noncomputable def tbm (_ _:Str):Option FnI:=none
noncomputable def mkr (_:Str):Option Str:=none
noncomputable def Tt:Tb:={ tb:=tb,con:=con,dic:=dic,fld:=fld,tbm:=tbm,mkr:=mkr }
theorem oO:f1.ps.length=1/\f1.N.length=1:=by decide +kernel
theorem oR:f2.ps.length=1/\f2.N.length=6:=by decide +kernel
theorem oU:f3.ps.length=1/\f3.N.length=1:=by decide +kernel
theorem oV:f5.ps.length=2/\f5.N.length=5:=by decide +kernel
theorem oW:f6.ps.length=2/\f6.N.length=3:=by decide +kernel
theorem oX:f7.ps.length=2/\f7.N.length=4:=by decide +kernel
theorem oY:f9.ps.length=2/\f9.N.length=2:=by decide +kernel
theorem dD:f10.ps.length=2/\f10.N.length=4:=by decide +kernel
theorem dF:f11.ps.length=2/\f11.N.length=4:=by decide +kernel
theorem dG:f12.ps.length=2/\f12.N.length=4:=by decide +kernel
theorem dH:f13.ps.length=2/\f13.N.length=8:=by decide +kernel
theorem dI:f14.ps.length=5/\f14.N.length=13:=by decide +kernel
theorem dJ:f15.ps.length=2/\f15.N.length=6:=by decide +kernel
theorem dM:f16.ps.length=1/\f16.N.length=1:=by decide +kernel
theorem dO:f17.ps.length=2/\f17.N.length=5:=by decide +kernel
theorem dR:f18.ps.length=2/\f18.N.length=4:=by decide +kernel
theorem dU:f19.ps.length=1/\f19.N.length=5:=by decide +kernel
theorem dW:f20.ps.length=2/\f20.N.length=3:=by decide +kernel
theorem dX:f21.ps.length=1/\f21.N.length=8:=by decide +kernel
theorem dY:f22.ps.length=4/\f22.N.length=7:=by decide +kernel
theorem dZ:f23.ps.length=2/\f23.N.length=4:=by decide +kernel
theorem eE:f24.ps.length=1/\f24.N.length=7:=by decide +kernel
theorem eF:f25.ps.length=1/\f25.N.length=12:=by decide +kernel
theorem Abl {w:World}{K:W.Frag}{h:Heap}{mg:Str->Option Value}(X:K.In h) (G:h.Ns mainGlobals mg)(rf:Sx K cZ)(rb:Sy K Mq):TbOk w K mg Tt:=by
 refine ⟨fun x I hx=>?_,fun x d hx=>?_,fun b hb=>?_,fun x kvs hx=>?_,fun c f hx=>?_,fun c m I hx=>?_,fun c f hx=>?_⟩
 ·exact V5 X G rf dB hx
 ·cases hx
 ·exact S5 X G rb b hb
 ·cases hx
 ·cases hx
 ·cases hx
 ·cases hx
noncomputable def Gk (k:Nat):Gb:=GkN Tt k
noncomputable abbrev Bq (I:FnI) (k:Nat):SM:=iSs (Gk (k+1)) fuel {N:=I.N,scope:=I.scope,own:=fun _=>true} I.body
noncomputable def b1 (k:Nat):SM :=
 (Ab (ifS (Ae (dop eqD (dop ixD (vr 0) (Zr (.int 0))) (Zr (.str "fork"))))
 (Ab (retS (Dl (Cy (dop ixD (vr 0) (Zr (.int 3)))) [none,none,none] (Iu [1,2]) (Zr true) (vr 2)))
  Zn)
 Zn)
 (Ab (retS (dIf (Ae (dop eqD (dop ixD (vr 0) (Zr (.int 0))) (Zr (.str "again")))) (lstM (Aa (dop ixD (vr 0) (Zr (.int 4))) (Zr []))) (lstM (Zr []))))
 Zn))
theorem zR (k:Nat):Bq f1 k=b1 k:=by kernel_rfl
noncomputable def b2 (k:Nat):SM :=
 (Ab (Ah newD (Ag 1))
 (Ab (Ah (Al Oa (Aa (vr 0) (Zr []))) (Ag 2))
 (Ab (Pq (Ae (dop gtD (Al Es (Aa (vr 2) (Zr []))) (Zr (.int 0))))
 (Ab (Ah (Cm "list" Xj (vr 2) (Zr [])) (Ag 3))
  (Ab (Cv (Cy (dop Aq (Bk (Aa (dop ixD (vr 3) (Zr (.int 1))) (Zr []))) (Al (Af (Gk k) fuel f3) (Aa (vr 3) (Zr []))))) (Ag 4)
  (Ab (Ah (Zr (.bl true)) (Cj (vr 1) (vr 4)))
   Zn))
  (Ab (Cv (Cy (Al (Af (Gk k) fuel f1) (Aa (vr 3) (Zr [])))) (Ag 5)
  (Ab (Hr (Cm "list" Gz (vr 2) (Aa (vr 5) (Zr []))))
   Zn))
  Zn))))
 (Ab (retS (Al Dk (Aa (vr 1) (Zr []))))
 Zn))))
theorem zT (k:Nat):Bq f2 k=b2 k:=by kernel_rfl
noncomputable def b3 (k:Nat):SM :=
 (Ab (retS (dIf (Ae (dop eqD (dop ixD (vr 0) (Zr (.int 0))) (Zr (.str "say")))) (Bk (Aa (dop ixD (vr 0) (Zr (.int 2))) (Zr []))) (dop ixD (vr 0) (Zr (.int 2)))))
 Zn)
theorem zU (k:Nat):Bq f3 k=b3 k:=by kernel_rfl
noncomputable def b5 (k:Nat):SM :=
 (Ab (Cv (Hu (vr 0)) (Iu [2,3])
 (Ab (ifS (Ae (dop (inD false) (dop ixD (vr 1) (Zr (.int 0))) (Al (Af (Gk k) fuel f2) (Aa (Bk (Aa (vr 3) (Zr []))) (Zr [])))))
  (Ab (Ah (Al (Af (Gk k) fuel f7) (Aa (vr 3) (Aa (vr 1) (Zr [])))) (Ag 4))
   (Ab (retS (dIf (Ae (dop (isD false) (vr 4) (Zr .non))) (Zr .non) (dop Aq (dop Aq (dSl (vr 0) none (some (vr 2))) (vr 4)) (dSl (vr 0) (some (dop Aq (vr 2) (Zr (.int 1)))) none))))
   Zn))
  Zn)
  Zn))
 (Ab (retS (Zr .non))
 Zn))
theorem zV (k:Nat):Bq f5 k=b5 k:=by kernel_rfl
noncomputable def b6 (k:Nat):SM :=
 (Ab (Cv (Cy (vr 1)) (Ag 2)
 (Ab (ifS (Ae (dop (isD true) (vr 0) (Zr .non)))
  (Ab (Ah (Al (Af (Gk k) fuel f5) (Aa (vr 0) (Aa (vr 2) (Zr [])))) (Ag 0))
   Zn)
  Zn)
  Zn))
 (Ab (retS (vr 0))
 Zn))
theorem zW (k:Nat):Bq f6 k=b6 k:=by kernel_rfl
noncomputable def b7 (k:Nat):SM :=
 (Ab (ifS (Ae (dop eqD (dop ixD (vr 0) (Zr (.int 0))) (Zr (.str "say"))))
 (Ab (retS (dIf (Ae (dop eqD (dSl (vr 0) (some (Zr (.int 1))) none) (vr 1))) (Bk (Zr [])) (Zr .non)))
  Zn)
 Zn)
 (Ab (ifS (Ae (dop neD (Bk (Aa (dop ixD (vr 0) (Zr (.int 1))) (Aa (dop ixD (dop ixD (vr 0) (Zr (.int 2))) (Zr (.int 0))) (Zr [])))) (dSl (vr 1) none (some (Zr (.int 2))))))
 (Ab (retS (Zr .non))
  Zn)
 Zn)
 (Ab (Ah (Al Dm (Aa (Dl (Cy (dSl (dop ixD (vr 0) (Zr (.int 2))) (some (Zr (.int 1))) none)) [none,none,some 1,some 0] (Ag 1) (Zr true) (Bk (Aa (Zr (.str "say")) (Aa (dop ixD (vr 3) (Zr (.int 1))) (Aa (vr 1) (Aa (dop ixD (vr 2) (Zr (.int 2))) (Zr []))))))) (Zr []))) (Ag 2))
 (Ab (ifS (Ae (dop eqD (dop ixD (vr 0) (Zr (.int 0))) (Zr (.str "fork"))))
 (Ab (Ah (Dl (Cy (dop ixD (vr 0) (Zr (.int 3)))) [none,none,none,some 1] (Iu [1,2]) (Ae (dop eqD (vr 1) (dop ixD (vr 3) (Zr (.int 2))))) (vr 2)) (Ag 3))
  (Ab (retS (dIf (Ae (dop gtD (Al Es (Aa (vr 3) (Zr []))) (Zr (.int 0)))) (dop Aq (vr 2) (dop ixD (vr 3) (Zr (.int 0)))) (Zr .non)))
  Zn))
 Zn)
 (Ab (ifS (Ae (dop eqD (dop ixD (vr 1) (Zr (.int 2))) (dop ixD (vr 0) (Zr (.int 3)))))
 (Ab (retS (dop Aq (dop Aq (vr 2) (dop ixD (vr 0) (Zr (.int 4)))) (Bk (Aa (vr 0) (Zr [])))))
  Zn)
 Zn)
 (Ab (retS (dIf (Ae (dop eqD (dop ixD (vr 1) (Zr (.int 2))) (dop ixD (vr 0) (Zr (.int 5))))) (vr 2) (Zr .non)))
 Zn))))))
theorem zX (k:Nat):Bq f7 k=b7 k:=by kernel_rfl
noncomputable def b9 (k:Nat):SM :=
 (Ab (ifS (Ae (dop ltD (vr 1) (Al Es (Aa (vr 0) (Zr [])))))
 (Ab (retS (dop ixD (vr 0) (vr 1)))
  Zn)
 Zn)
 (Ab (retS (Zr (.int 0)))
 Zn))
theorem zY (k:Nat):Bq f9 k=b9 k:=by kernel_rfl
noncomputable def b10 (k:Nat):SM :=
 (Ab (ifS (Gp (Ae (dop eqD (dop Ej (dop ixD (vr 0) (Zr (.int 1))) (Zr (.int 2))) (Zr (.int 0)))) (Gp (Ae (dop neD (dop ixD (vr 0) (Zr (.int 0))) (Zr (.int 0)))) (Ae (dop neD (dop ixD (vr 0) (Zr (.int 0))) (lU (Zr (.int 1)))))))
 (Ab (Ah (dop Ej (dop ixD (vr 0) (Zr (.int 0))) (vr 1)) (Ag 2))
  (Ab (Ah (dop Jd (dop ixD (vr 0) (Zr (.int 0))) (vr 1)) (Cj (vr 0) (Zr (.int 0))))
  (Ab (retS (vr 2))
  Zn)))
 Zn)
 (Ab (Ah (dop Aq (dop ixD (vr 0) (Zr (.int 2))) (Zr (.int 1))) (Cj (vr 0) (Zr (.int 2))))
 (Ab (Ah (dop Ej (dop Fi (dop Aq (dop Aq (dop ixD (vr 0) (Zr (.int 5))) (dop Fi (Zr (.int 7919)) (dop ixD (vr 0) (Zr (.int 2))))) (Zr (.int 1))) (Zr (.int 48271))) (Zr (.int 2147483647))) (Ag 3))
 (Ab (Ah (dop Ej (dop Fi (vr 3) (dop Aq (dop Jd (vr 3) (Zr (.int 1009))) (Zr (.int 69621)))) (Zr (.int 2147483647))) (Ag 3))
 (Ab (retS (dop Ej (dop Ej (dop Fi (vr 3) (dop Aq (dop Jd (vr 3) (Zr (.int 1013))) (Zr (.int 16807)))) (Zr (.int 2147483647))) (vr 1)))
 Zn)))))
theorem uU (k:Nat):Bq f10 k=b10 k:=by kernel_rfl
noncomputable def b11 (k:Nat):SM :=
 (Ab (Ah (Al (Af (Gk k) fuel f10) (Aa (vr 0) (Aa (Al Es (Aa (vr 1) (Zr []))) (Zr [])))) (Ag 2))
 (Ab (Ah (dop Aq (dSl (vr 1) (some (vr 2)) none) (dSl (vr 1) none (some (vr 2)))) (Ag 3))
 (Ab (ifS (Ae (dop gtD (Al (Af (Gk k) fuel f10) (Aa (vr 0) (Aa (Zr (.int 3)) (Zr [])))) (Zr (.int 0))))
 (Ab (retS (Al Dm (Aa (vr 3) (Zr []))))
  Zn)
 Zn)
 (Ab (retS (Al Dm (Aa (dSl (vr 3) none (some (dop Aq (Zr (.int 1)) (Al (Af (Gk k) fuel f10) (Aa (vr 0) (Aa (Al Es (Aa (vr 1) (Zr []))) (Zr []))))))) (Zr []))))
 Zn))))
theorem uV (k:Nat):Bq f11 k=b11 k:=by kernel_rfl
noncomputable def b12 (k:Nat):SM :=
 (Ab (Ah (lstM (Zr [])) (Ag 2))
 (Ab (Cv (Fy Gr (Aa (Al (Af (Gk k) fuel f10) (Aa (vr 0) (Aa (Zr (.int 3)) (Zr [])))) (Zr []))) (Ag 3)
 (Ab (ifS (Ae (dop gtD (dop ixD (vr 0) (Zr (.int 3))) (Zr (.int 0))))
  (Ab (Ah (dop tY (dop ixD (vr 0) (Zr (.int 3))) (Zr (.int 1))) (Cj (vr 0) (Zr (.int 3))))
   (Ab (Hr (Cm "list" Ds (vr 2) (Aa (Al (Af (Gk k) fuel f13) (Aa (vr 0) (Aa (vr 1) (Zr [])))) (Zr []))))
   Zn))
  Zn)
  Zn))
 (Ab (retS (Al Dm (Aa (vr 2) (Zr []))))
 Zn)))
theorem uW (k:Nat):Bq f12 k=b12 k:=by kernel_rfl
noncomputable def b13 (k:Nat):SM :=
 (Ab (Ah (Al (Af (Gk k) fuel f10) (Aa (vr 0) (Aa (dop ixD (vr 0) (Zr (.int 4))) (Zr [])))) (Ag 2))
 (Ab (Ah (Dl (Fy Gr (Aa (dop ixD (vr 0) (Zr (.int 4))) (Zr []))) [none,none,some 2] (Ag 1) (Ae (dop neD (vr 1) (vr 2))) (vr 1)) (Ag 3))
 (Ab (Ah (Al (Af (Gk k) fuel f10) (Aa (vr 0) (Aa (Zr (.int 4)) (Zr [])))) (Ag 4))
 (Ab (Ah (Al (Af (Gk k) fuel f10) (Aa (vr 0) (Aa (Zr (.int 12)) (Zr [])))) (Ag 5))
 (Ab (ifS (Le (Ae (dop ltD (vr 4) (Zr (.int 2)))) (Ae (dop gtD (vr 1) (Zr (.int 4)))))
 (Ab (retS (Bk (Aa (Zr (.str "say")) (Aa (vr 2) (Aa (dop ixD (vr 3) (Al (Af (Gk k) fuel f10) (Aa (vr 0) (Aa (Al Es (Aa (vr 3) (Zr []))) (Zr []))))) (Aa (dop Aq (Zr (.int 1)) (vr 5)) (Zr [])))))))
  Zn)
 Zn)
 (Ab (Ah (Al (Af (Gk k) fuel f11) (Aa (vr 0) (Aa (vr 3) (Zr [])))) (Ag 6))
 (Ab (ifS (Ae (dop eqD (vr 4) (Zr (.int 3))))
 (Ab (Ah (dop Aq (Zr (.int 1)) (dop Ej (dop Aq (dop Aq (vr 5) (Zr (.int 1))) (Al (Af (Gk k) fuel f10) (Aa (vr 0) (Aa (Zr (.int 11)) (Zr []))))) (Zr (.int 12)))) (Ag 7))
  (Ab (retS (Bk (Aa (Zr (.str "again")) (Aa (vr 2) (Aa (vr 6) (Aa (dop Aq (Zr (.int 1)) (vr 5)) (Aa (Al (Af (Gk k) fuel f12) (Aa (vr 0) (Aa (dop Aq (vr 1) (Zr (.int 1))) (Zr [])))) (Aa (vr 7) (Zr [])))))))))
  Zn))
 Zn)
 (Ab (retS (Al (Af (Gk k) fuel f14) (Aa (vr 0) (Aa (vr 1) (Aa (vr 2) (Aa (vr 6) (Aa (vr 5) (Zr []))))))))
 Zn))))))))
theorem uX (k:Nat):Bq f13 k=b13 k:=by kernel_rfl
noncomputable def b14 (k:Nat):SM :=
 (Ab (Ah (dop Aq (Zr (.int 2)) (Al (Af (Gk k) fuel f10) (Aa (vr 0) (Aa (Zr (.int 4)) (Zr []))))) (Ag 5))
 (Ab (Ah (dop ixD (lstM (Aa (Zr (.int 1)) (Aa (Zr (.int 5)) (Aa (Zr (.int 7)) (Zr []))))) (Al (Af (Gk k) fuel f10) (Aa (vr 0) (Aa (Zr (.int 3)) (Zr []))))) (Ag 6))
 (Ab (Ah (Dl (Fy Gr (Aa (dop ixD (vr 0) (Zr (.int 4))) (Zr []))) [none,none,some 2,some 3] (Ag 1) (Gp (Ae (dop neD (vr 1) (vr 2))) (Ae (dop (inD true) (vr 1) (vr 3)))) (vr 1)) (Ag 7))
 (Ab (Ah (Al (Af (Gk k) fuel f10) (Aa (vr 0) (Aa (Zr (.int 4)) (Zr [])))) (Ag 8))
 (Ab (ifS (Le (Ae (dop eqD (vr 8) (Zr (.int 0)))) (Ae (dop ltD (dop ixD (vr 0) (Zr (.int 3))) (dop Fi (vr 5) (Al Es (Aa (vr 7) (Zr [])))))))
 (Ab (Ah (lstM (Zr [])) (Ag 7))
  Zn)
 Zn)
 (Ab (Ah (dop tY (dop ixD (vr 0) (Zr (.int 3))) (dop Fi (vr 5) (Al Es (Aa (vr 7) (Zr []))))) (Cj (vr 0) (Zr (.int 3))))
 (Ab (Ah (lstM (Zr [])) (Ag 9))
 (Ab (Cv (Fy Gr (Aa (vr 5) (Zr []))) (Ag 10)
 (Ab (Ah (dop Aq (Zr (.int 1)) (dop Ej (dop Aq (dop Aq (vr 4) (Zr (.int 3))) (dop Fi (dop Fi (vr 10) (vr 6)) (Al intD (Aa (dop gtD (vr 8) (Zr (.int 1))) (Zr []))))) (Zr (.int 12)))) (Ag 11))
  (Ab (Ah (Al Dm (Aa (Dl (Cy (vr 7)) [none,none,some 11,some 3] (Ag 1) (Zr true) (Bk (Aa (Zr (.str "say")) (Aa (dop ixD (vr 3) (Zr (.int 0))) (Aa (vr 1) (Aa (vr 2) (Zr []))))))) (Zr []))) (Ag 12))
  (Ab (Hr (Cm "list" Ds (vr 9) (Aa (Bk (Aa (dop Aq (Zr (.int 1)) (dop Ej (dop Aq (vr 4) (dop Fi (vr 10) (vr 6))) (Zr (.int 12)))) (Aa (dop Aq (vr 12) (Al (Af (Gk k) fuel f12) (Aa (vr 0) (Aa (dop Aq (vr 1) (Zr (.int 1))) (Zr []))))) (Zr [])))) (Zr []))))
  Zn))))
 (Ab (retS (Bk (Aa (Zr (.str "fork")) (Aa (vr 2) (Aa (vr 3) (Aa (Al Dm (Aa (vr 9) (Zr []))) (Zr [])))))))
 Zn)))))))))
theorem uY (k:Nat):Bq f14 k=b14 k:=by kernel_rfl
noncomputable def b15 (k:Nat):SM :=
 (Ab (Ah (lstM (Zr [])) (Ag 2))
 (Ab (Ah (dop Aq (Zr (.int 2)) (dop Ej (Al (Af (Gk k) fuel f9) (Aa (vr 0) (Aa (Zr (.int 0)) (Zr [])))) (Zr (.int 3)))) (Ag 3))
 (Ab (Cv (Hu (dSl (vr 0) (some (Zr (.int 2))) (some (dop Aq (Zr (.int 2)) (vr 1))))) (Iu [4,5])
 (Ab (Hr (Cm "list" Ds (vr 2) (Aa (Al (Af (Gk k) fuel f13) (Aa (lstM (Aa (vr 5) (Aa (Al (Af (Gk k) fuel f9) (Aa (vr 0) (Aa (Zr (.int 1)) (Zr [])))) (Aa (dop Fi (Zr (.int 61)) (vr 4)) (Aa (Zr (.int 5)) (Aa (vr 3) (Aa (vr 5) (Zr [])))))))) (Aa (Zr (.int 1)) (Zr [])))) (Zr []))))
  Zn))
 (Ab (retS (Al Dm (Aa (vr 2) (Zr []))))
 Zn))))
theorem uZ (k:Nat):Bq f15 k=b15 k:=by kernel_rfl
noncomputable def b16 (k:Nat):SM :=
 (Ab (ifS (Ae (dop eqD (dop ixD (vr 0) (Zr (.int 0))) (Zr (.str "fork"))))
 (Ab (retS (Dl (Cy (dop ixD (vr 0) (Zr (.int 3)))) [none,none] (Ag 1) (Zr true) (dop ixD (vr 1) (Zr (.int 1)))))
  Zn)
 Zn)
 (Ab (ifS (Ae (dop eqD (dop ixD (vr 0) (Zr (.int 0))) (Zr (.str "again"))))
 (Ab (retS (lstM (Aa (dop ixD (vr 0) (Zr (.int 4))) (Zr []))))
  Zn)
 Zn)
 (Ab (retS (lstM (Zr [])))
 Zn)))
theorem vA (k:Nat):Bq f16 k=b16 k:=by kernel_rfl
noncomputable def b17 (k:Nat):SM :=
 (Ab (Ah (lstM (Aa (dop ixD (vr 0) (Zr (.int 1))) (Aa (dop ixD (vr 0) (Zr (.int 2))) (Zr [])))) (Ag 2))
 (Ab (ifS (Ae (dop neD (dop ixD (vr 0) (Zr (.int 0))) (Zr (.str "say"))))
 (Ab (Ah (dop Aq (lstM (Aa (dop ixD (vr 0) (Zr (.int 1))) (Zr []))) (Al Oa (Aa (dop ixD (vr 0) (Zr (.int 2))) (Zr [])))) (Ag 2))
  Zn)
 Zn)
 (Ab (ifS (Ae (dop (inD false) (vr 1) (vr 2)))
 (Ab (retS (Zr (.bl true)))
  Zn)
 Zn)
 (Ab (Cv (Cy (Al (Af (Gk k) fuel f16) (Aa (vr 0) (Zr [])))) (Ag 3)
 (Ab (Cv (Cy (vr 3)) (Ag 4)
  (Ab (ifS (Nf (Al (Af (Gk k) fuel f17) (Aa (vr 4) (Aa (vr 1) (Zr [])))))
   (Ab (retS (Zr (.bl true)))
    Zn)
   Zn)
   Zn))
  Zn))
 (Ab (retS (Zr (.bl false)))
 Zn)))))
theorem vB (k:Nat):Bq f17 k=b17 k:=by kernel_rfl
noncomputable def b18 (k:Nat):SM :=
 (Ab (Ah (Bk (Zr [])) (Ag 2))
 (Ab (Cv (Cy (dSl (dop ixD (vr 0) (Zr (.int 2))) (some (Zr (.int 1))) none)) (Ag 3)
 (Ab (Ah (dop Aq (vr 2) (Bk (Aa (Bk (Aa (Zr (.str "say")) (Aa (dop ixD (vr 0) (Zr (.int 1))) (Aa (vr 3) (Aa (vr 1) (Zr [])))))) (Zr [])))) (Ag 2))
  Zn))
 (Ab (retS (vr 2))
 Zn)))
theorem vC (k:Nat):Bq f18 k=b18 k:=by kernel_rfl
noncomputable def b19 (k:Nat):SM :=
 (Ab (ifS (Ae (dop eqD (dop ixD (vr 0) (Zr (.int 0))) (Zr (.str "say"))))
 (Ab (retS (Jx (Bk (Aa (dop ixD (vr 0) (Zr (.int 2))) (Aa (dop ixD (vr 0) (Zr (.int 3))) (Zr [])))) (Bk (Zr []))))
  Zn)
 Zn)
 (Ab (Ah newD (Ag 1))
 (Ab (Ah (dop ixD (dop ixD (vr 0) (Zr (.int 2))) (Zr (.int 0))) (Ag 2))
 (Ab (ifS (Ae (dop eqD (dop ixD (vr 0) (Zr (.int 0))) (Zr (.str "fork"))))
 (Ab (Cv (Cy (dop ixD (vr 0) (Zr (.int 3)))) (Iu [3,4])
  (Ab (Ah (dop Aq (Al (Af (Gk k) fuel f18) (Aa (vr 0) (Aa (vr 3) (Zr [])))) (vr 4)) (Cj (vr 1) (Bk (Aa (vr 2) (Aa (vr 3) (Zr []))))))
   Zn))
  Zn)
 (Ab (Ah (dop Aq (dop Aq (Al (Af (Gk k) fuel f18) (Aa (vr 0) (Aa (dop ixD (vr 0) (Zr (.int 3))) (Zr [])))) (dop ixD (vr 0) (Zr (.int 4)))) (Bk (Aa (vr 0) (Zr [])))) (Cj (vr 1) (Bk (Aa (vr 2) (Aa (dop ixD (vr 0) (Zr (.int 3))) (Zr []))))))
  (Ab (Ah (Al (Af (Gk k) fuel f18) (Aa (vr 0) (Aa (dop ixD (vr 0) (Zr (.int 5))) (Zr [])))) (Cj (vr 1) (Bk (Aa (vr 2) (Aa (dop ixD (vr 0) (Zr (.int 5))) (Zr []))))))
  Zn)))
 (Ab (retS (vr 1))
 Zn)))))
theorem vD (k:Nat):Bq f19 k=b19 k:=by kernel_rfl
noncomputable def b20 (k:Nat):SM :=
 (Ab (Cv (Fy Gr (Aa (Al Es (Aa (vr 0) (Zr []))) (Zr []))) (Ag 2)
 (Ab (ifS (Nf (Al (Af (Gk k) fuel f17) (Aa (dop ixD (vr 0) (vr 2)) (Aa (vr 1) (Zr [])))))
  (Ab (retS (vr 2))
   Zn)
  Zn)
  Zn))
 (Ab (retS (Zr .non))
 Zn))
theorem vG (k:Nat):Bq f20 k=b20 k:=by kernel_rfl
noncomputable def b21 (k:Nat):SM :=
 (Ab (Ah newD (Ag 1))
 (Ab (Cv (Fy Gr (Aa (Zr (.int 4)) (Zr []))) (Ag 2)
 (Ab (Ah (Al (Af (Gk k) fuel f20) (Aa (vr 0) (Aa (vr 2) (Zr [])))) (Ag 3))
  (Ab (ifS (Gp (Ae (dop (isD true) (vr 3) (Zr .non))) (Ae (dop eqD (dop ixD (dop ixD (vr 0) (vr 3)) (Zr (.int 1))) (vr 2))))
  (Ab (Cv (Jw (Al (Af (Gk k) fuel f19) (Aa (dop ixD (vr 0) (vr 3)) (Zr [])))) (Iu [4,5])
   (Ab (Ah (dop Aq (Bk (Aa (vr 2) (Zr []))) (vr 4)) (Ag 6))
    (Ab (Ah (dop Aq (vr 5) (dSl (vr 0) (some (dop Aq (vr 3) (Zr (.int 1)))) none)) (Ag 7))
    (Ab (Ah (dop Aq (dSl (vr 0) none (some (vr 3))) (vr 7)) (Cj (vr 1) (vr 6)))
    Zn))))
   Zn)
  Zn)
  Zn)))
 (Ab (retS (vr 1))
 Zn)))
theorem vH (k:Nat):Bq f21 k=b21 k:=by kernel_rfl
noncomputable def b22 (k:Nat):SM :=
 (Ab (Cv (Fy Xd (Aa (Zr (.int 1)) (Aa (Zr (.int 13)) (Zr [])))) (Ag 4)
 (Ab (Ah (Bk (Aa (vr 2) (Aa (vr 3) (Aa (vr 4) (Zr []))))) (Ag 5))
  (Ab (Ah (Al (Af (Gk k) fuel f5) (Aa (vr 0) (Aa (vr 5) (Zr [])))) (Ag 6))
  (Ab (ifS (Ae (dop neD (vr 6) (getM (vr 1) (Aa (vr 5) (Aa (Zr .non) (Zr []))))))
  (Ab (retS (Zr (.bl false)))
   Zn)
  Zn)
  Zn))))
 (Ab (retS (Zr (.bl true)))
 Zn))
theorem vI (k:Nat):Bq f22 k=b22 k:=by kernel_rfl
noncomputable def b23 (k:Nat):SM :=
 (Ab (Cv (Fy Gr (Aa (Zr (.int 4)) (Zr []))) (Ag 2)
 (Ab (Cv (Fy Gr (Aa (Zr (.int 4)) (Zr []))) (Ag 3)
  (Ab (ifS (N5 (Nf (Al (Af (Gk k) fuel f22) (Aa (vr 0) (Aa (vr 1) (Aa (vr 2) (Aa (vr 3) (Zr []))))))))
   (Ab (retS (Zr (.bl false)))
    Zn)
   Zn)
   Zn))
  Zn))
 (Ab (retS (Zr (.bl true)))
 Zn))
theorem vJ (k:Nat):Bq f23 k=b23 k:=by kernel_rfl
noncomputable def b24 (k:Nat):SM :=
 (Ab (Ah (dop Fi (Bk (Aa (Bk (Aa (Zr (.str "say")) (Aa (Zr (.int 2)) (Aa (Zr (.int 3)) (Aa (dop Aq (Zr (.int 1)) (dop Ej (vr 0) (Zr (.int 12)))) (Zr [])))))) (Zr []))) (dop Aq (Zr (.int 15)) (dop Ej (dop Jd (vr 0) (Zr (.int 12))) (Zr (.int 20))))) (Ag 1))
 (Ab (Ah (Bk (Aa (Bk (Aa (Zr (.str "say")) (Aa (Zr (.int 3)) (Aa (Zr (.int 2)) (Aa (dop Aq (Zr (.int 1)) (dop Ej (vr 0) (Zr (.int 7)))) (Zr [])))))) (Aa (Bk (Aa (Zr (.str "again")) (Aa (Zr (.int 0)) (Aa (Bk (Aa (Zr (.int 1)) (Zr []))) (Aa (Zr (.int 4)) (Aa (vr 1) (Aa (Zr (.int 5)) (Zr [])))))))) (Aa (Bk (Aa (Zr (.str "say")) (Aa (Zr (.int 1)) (Aa (Zr (.int 0)) (Aa (Zr (.int 6)) (Zr [])))))) (Zr []))))) (Ag 2))
 (Ab (Ah (dop Aq (dSl (vr 2) none (some (Zr (.int 1)))) (vr 1)) (Ag 3))
 (Ab (Cv (Fy Xd (Aa (Zr (.int 1)) (Aa (Zr (.int 4)) (Zr [])))) (Ag 4)
 (Ab (Ah (dop Fi (lstM (Aa (Bk (Aa (Zr (.int 0)) (Aa (Zr (.int 1)) (Aa (Zr (.int 4)) (Zr []))))) (Zr []))) (vr 4)) (Ag 5))
  (Ab (Ah (dop Aq (dop Aq (dSl (vr 2) none (some (Zr (.int 1)))) (dop Fi (vr 1) (vr 4))) (dSl (vr 2) (some (Zr (.int 1))) none)) (Ag 6))
  (Ab (ifS (Le (Ae (dop neD (Al (Af (Gk k) fuel f6) (Aa (vr 2) (Aa (vr 5) (Zr [])))) (vr 6))) (Ae (dop neD (Al (Af (Gk k) fuel f5) (Aa (vr 6) (Aa (Bk (Aa (Zr (.int 3)) (Aa (Zr (.int 2)) (Aa (dop Aq (Zr (.int 1)) (dop Ej (vr 0) (Zr (.int 7)))) (Zr []))))) (Zr [])))) (dSl (vr 6) (some (Zr (.int 1))) none))))
  (Ab (retS (Zr (.bl false)))
   Zn)
  Zn)
  (Ab (ifS (Le (Ae (dop neD (Al (Af (Gk k) fuel f5) (Aa (vr 6) (Aa (Bk (Aa (Zr (.int 0)) (Aa (Zr (.int 1)) (Aa (Zr (.int 5)) (Zr []))))) (Zr [])))) (dop Aq (dSl (vr 6) none (some (lU (Zr (.int 2))))) (dSl (vr 6) (some (lU (Zr (.int 1)))) none)))) (Ae (dop (isD true) (Al (Af (Gk k) fuel f5) (Aa (vr 6) (Aa (Bk (Aa (Zr (.int 1)) (Aa (Zr (.int 0)) (Aa (Zr (.int 6)) (Zr []))))) (Zr [])))) (Zr .non))))
  (Ab (retS (Zr (.bl false)))
   Zn)
  Zn)
  Zn)))))
 (Ab (retS (dop eqD (Al (Af (Gk k) fuel f5) (Aa (vr 2) (Aa (Bk (Aa (Zr (.int 0)) (Aa (Zr (.int 1)) (Aa (Zr (.int 4)) (Zr []))))) (Zr [])))) (dop Aq (vr 3) (dSl (vr 2) (some (Zr (.int 1))) none))))
 Zn)))))
theorem vK (k:Nat):Bq f24 k=b24 k:=by kernel_rfl
noncomputable def b25 (k:Nat):SM :=
 (Ab (ifS (N5 (Nf (Al (Af (Gk k) fuel f24) (Aa (Al (Af (Gk k) fuel f9) (Aa (vr 0) (Aa (Zr (.int 8)) (Zr [])))) (Zr [])))))
 (Ab (retS (Zr (.bl false)))
  Zn)
 Zn)
 (Ab (Ah (Al (Af (Gk k) fuel f15) (Aa (vr 0) (Aa (Zr (.int 6)) (Zr [])))) (Ag 1))
 (Ab (Ah (vr 1) (Ag 2))
 (Ab (Ah (lstM (Zr [])) (Ag 3))
 (Ab (Ah (Al (Af (Gk k) fuel f9) (Aa (vr 0) (Aa (Zr (.int 9)) (Zr [])))) (Ag 4))
 (Ab (Cv (Fy Gr (Aa (Zr (.int 9)) (Zr []))) (Ag 5)
 (Ab (Ah (Al (Af (Gk k) fuel f21) (Aa (vr 2) (Zr []))) (Ag 6))
  (Ab (Ah (Al (Af (Gk k) fuel f6) (Aa (vr 1) (Aa (vr 3) (Zr [])))) (Ag 7))
  (Ab (ifS (Le (Ae (dop neD (vr 7) (vr 2))) (N5 (Nf (Al (Af (Gk k) fuel f23) (Aa (vr 2) (Aa (vr 6) (Zr [])))))))
  (Ab (retS (Zr (.bl false)))
   Zn)
  Zn)
  (Ab (Ah (dop Aq (Zr (.int 1)) (dop Ej (dop Jd (Al (Af (Gk k) fuel f9) (Aa (vr 0) (Aa (Zr (.int 8)) (Zr [])))) (dop Aq (Zr (.int 1)) (vr 5))) (Zr (.int 12)))) (Ag 8))
  (Ab (Ah (Bk (Aa (dop Ej (vr 5) (Zr (.int 4))) (Aa (dop Ej (dop Aq (vr 5) (Zr (.int 1))) (Zr (.int 4))) (Aa (vr 8) (Zr []))))) (Ag 9))
  (Ab (Ah (dop Aq (vr 3) (lstM (Aa (vr 9) (Aa (Bk (Aa (Zr (.int 0)) (Aa (Zr (.int 1)) (Aa (Zr (.int 2)) (Zr []))))) (Zr []))))) (Ag 10))
  (Ab (Ah (Al (Af (Gk k) fuel f6) (Aa (vr 1) (Aa (vr 10) (Zr [])))) (Ag 7))
  (Ab (ifS (Gp (Ae (dop (inD true) (vr 9) (vr 6))) (Ae (dop (isD true) (vr 7) (Zr .non))))
  (Ab (retS (Zr (.bl false)))
   Zn)
  Zn)
  (Ab (ifS (Ae (dop eqD (vr 6) newD))
  (Ab (retS (dop eqD (Al (Af (Gk k) fuel f6) (Aa (vr 1) (Aa (Al Dm (Aa (vr 3) (Zr []))) (Zr [])))) (vr 2)))
   Zn)
  Zn)
  (Ab (Ah (dop ixD (Al Dk (Aa (vr 6) (Zr []))) (dop Ej (vr 4) (Al Es (Aa (vr 6) (Zr []))))) (Ag 11))
  (Ab (Ah (dop Jd (vr 4) (Al Es (Aa (vr 6) (Zr [])))) (Ag 4))
  (Ab (Hr (Cm "list" Ds (vr 3) (Aa (vr 11) (Zr []))))
  (Ab (Ah (dop ixD (vr 6) (vr 11)) (Ag 2))
  Zn))))))))))))))
 (Ab (retS (dop eqD (Al (Af (Gk k) fuel f6) (Aa (vr 1) (Aa (lstM (Zr [])) (Zr [])))) (vr 1)))
 Zn)))))))
theorem vL (k:Nat):Bq f25 k=b25 k:=by kernel_rfl
local macro_rules | `(tactic| walk_at "s") => `(tactic| with_reducible first | refine Gv ?_ | refine Mu ?_ | refine uJ ?_ | refine mK ?_ | refine oN ?_ | refine Ie ?_ | refine Bp ?_ | refine mJ ?_ | refine cN (by with_unfolding_all rfl) ?_ | refine Gu ?_ | refine cO ?_ | refine mC ?_ | refine uD ?_ | refine cP ?_ | refine uE ?_ | refine uF ?_ | refine V7 ?_ | refine uG ?_ | refine mD ?_ | refine mF ?_ | refine uH ?_ | refine zP ?_ | refine mG ?_ | refine oM ?_ | refine cQ ?_ | refine cR ?_ | refine cT ?_ | refine mH ?_ | refine uI ?_ | refine Ay ?_ | refine uK ?_ | refine zQ ?_ | refine uR ?_ | refine U0 ?_ | refine Ql ?_ | refine Wb (by with_unfolding_all rfl) ?_ | refine mV (by with_unfolding_all rfl) ?_ | refine uT ?_ | refine uN ?_ | refine uM ?_ | refine mQ ?_ | refine uO ?_ | refine uP ?_)
local macro_rules | `(tactic| walk_at "r") => `(tactic| repeat walk_at "s")
theorem Hf {ds:List D}{q:Prop}(h:ds.length<=1000000) (hq:q):ds.length<=1000000/\q:=⟨h,hq⟩
theorem Eu {h:MH}{j:Nat}{o:MO}(e:h[j]?=some o):j < h.length:=(List.getElem?_eq_some_iff.mp e).1
theorem eG (i:Int) {j:Int}(h:0 < j):0<=i.fmod j:=Int.fmod_nonneg_of_pos i h
theorem eN (i:Int) {j:Int}(h:0 < j):i.fmod j < j:=Int.fmod_lt_of_pos i h
theorem My (i:Int) (n:Nat) (h:0 < n):∃ r:Nat,r < n/\i.fmod (n:Int)=(r:Int):=by
 have l1:=eG i (j:=(n:Int)) (by omega);have l2:=eN i (j:=(n:Int)) (by omega);exact ⟨(i.fmod n).toNat,by omega,by omega⟩
theorem Jj (h:MH) (ds:List D):Er (.ref h.length) (h++[.lst ds])=some ds:=by
 show (match (h++[MO.lst ds])[h.length]? with | some (.lst o)=>some o | _=>none)=_;rw [Ak]
theorem El {h:MH}{j:Nat}{ds:List D}(e:h[j]?=some (.lst ds)):Er (.ref j) h=some ds:=by
 show (match h[j]? with | some (.lst o)=>some o | _=>none)=_;rw [e]
theorem U3 (n:Nat):Cd 0 n=(List.range n).map Ao:=List.map_congr_left fun x _=>by show D.int (0+(x:Int))=D.int (x:Int);rw [Int.zero_add]
theorem Jk {α:Type}{mi:DM Src}{cs:List (Option Nat)}{g:GM}{tc:DM Bool}{e:DM D}{loc:DL.Loc}{mh:MH}{Q:D->MH->Prop}(xs:List α) (F:α->D) (pr:α->Bool) (f:α->D) (hz:xs.length<=1000000)
  (hm:wD mi loc mh fun src h0=>Ext [] mh h0/\∀ h,Ext [] h0 h->src.ok h=true/\src.items h=xs.map F)
  (step:∀ x h {R:D->MH->Prop},x∈xs->Ext [] mh h->(∀ h',Ext [] h h'->R (f x) h')->wG (g (F x) (Hl cs loc) h) fun l1 h1=>h1=h/\wD tc l1 h fun c h2=>c=pr x/\h2=h/\(pr x=true->wD e l1 h R))
  (fin:∀ h,Ext [] mh h->Q (.ref h.length) (h++[.lst ((xs.filter pr).map f)])):wD (Dl mi cs g tc e) loc mh Q:=by
 refine mO (Ba hm ?_);rintro src h0 ⟨x0,keep⟩;refine ⟨xs.map F,fun i acc h=>acc=((xs.take i).filter pr).map f/\i<=xs.length/\Ext [] h0 h,by rw [List.length_map];exact hz,⟨rfl,Nat.zero_le _,Ext.refl⟩,fun i acc h q=>keep h q.2.2,?_,?_,?_⟩
 ·rintro i acc h ⟨rfl,hi,_⟩;rw [List.length_map];refine Nat.le_trans (List.length_filter_le _ _) ?_;rw [List.length_take];omega
 ·rintro i d acc h ed ⟨rfl,hi,x⟩;rw [List.getElem?_map] at ed;cases ex:xs[i]? with
  | none=>rw [ex] at ed;cases ed
  | some y =>
   rw [ex] at ed;cases ed;have hl:=(List.getElem?_eq_some_iff.mp ex).1;have et:xs.take (i+1)=xs.take i++[y]:=by rw [List.take_add_one,ex];rfl
   obtain ⟨l1,h1,e1,rfl,c,h2,e2,rfl,rfl,q⟩:=step y h (R:=fun z h3=>((xs.take i).filter pr).map f++[z]=((xs.take (i+1)).filter pr).map f/\i+1<=xs.length/\Ext [] h0 h3\/pr y=false) (List.mem_of_getElem? ex) (x0.trans x) fun h' x'=>by
    cases hp:pr y with
    | false=>exact .inr rfl
    | true=>exact .inl ⟨by rw [et,List.filter_append,List.map_append];simp [hp],hl,x.trans x'⟩
   refine ⟨l1,_,e1,_,_,e2,fun hp=>?_,fun hp=>⟨?_,hl,x⟩⟩
   ·refine Ba (q hp) ?_;rintro z h3 (w | w)
    ·exact w
    ·rw [hp] at w;cases w
   ·rw [et,List.filter_append,List.map_append];simp [hp]
 ·rintro acc h ⟨rfl,hi,x⟩;rw [List.length_map,List.take_length];exact fin h (x0.trans x)
theorem Jl {α:Type}{mi:DM Src}{cs:List (Option Nat)}{g:GM}{e:DM D}{loc:DL.Loc}{mh:MH}{Q:D->MH->Prop}(xs:List α) (F:α->D) (f:α->D) (hz:xs.length<=1000000)
  (hm:wD mi loc mh fun src h0=>Ext [] mh h0/\∀ h,Ext [] h0 h->src.ok h=true/\src.items h=xs.map F)
  (step:∀ x h {R:D->MH->Prop},x∈xs->Ext [] mh h->(∀ h',Ext [] h h'->R (f x) h')->wG (g (F x) (Hl cs loc) h) fun l1 h1=>h1=h/\wD e l1 h R)
  (fin:∀ h,Ext [] mh h->Q (.ref h.length) (h++[.lst (xs.map f)])):wD (Dl mi cs g (Zr true) e) loc mh Q:=by
 refine Jk xs F (fun _=>true) f hz hm (fun x h R hx ex hR=>?_) fun h ex=>?_
 ·obtain ⟨l1,h1,e1,rfl,q⟩:=step x h hx ex hR;exact ⟨l1,_,e1,rfl,Gu ⟨rfl,rfl,fun _=>q⟩⟩
 ·have:=fin h ex;rw [List.filter_eq_self.mpr (fun _ _=>rfl)];exact this
theorem Hg {ds:List D}{α:Type}{xs:List α}{F:α->D}{mh:MH}(e:ds=xs.map F):Ext [] mh mh/\∀ h,Ext [] mh h->(Src.seq ds).ok h=true/\(Src.seq ds).items h=xs.map F:=⟨Ext.refl,fun _ _=>⟨rfl,e⟩⟩
theorem Ku {n:Nat}{α:Type}{xs:List α}{F:α->D}{mh:MH}(e:mh[n]?=some (.lst (xs.map F))):∀ h,Ext [] mh h->(Src.lref n).ok h=true/\(Src.lref n).items h=xs.map F:=fun h x=>Fo (x.old _ _ (by simp) e)
theorem zZ {K:Fl->DL.Loc->MH->Prop}{A:DL.Loc->MH->Prop}{l:DL.Loc}{h:MH}{b:SM}(h2:∀ l h,A l h->K .nx l h) (h1:∀ Q:Fl->DL.Loc->MH->Prop,(∀ l h,A l h->Q .nx l h)->wS b l h Q):wS b l h K:=h1 K h2
theorem Hh {P:D->MH->Prop}{d:D}{l:DL.Loc}{h:MH}(q:P d h):cV P (.rt d) l h:=q
theorem Qn {n:Nat}:∀ {l:List D},(∀ x∈l,dat n x=true)->Qm n l=true
 | [],_=>rfl
 | x::r,h=>by
  show Qm n (x::r)=true;simp only [Qm,h x List.mem_cons_self,Qn fun y hy=>h y (List.mem_cons_of_mem _ hy),Bool.and_self]
theorem Gf {n:Nat}{ds:List D}(h:∀ x∈ds,dat n x=true):dat (n+1) (.tup ds)=true:=Qn h
theorem Wd {α:Type}{n:Nat}{l:List α}{F:α->D}(h:∀ x∈l,dat n (F x)=true):dat (n+1) (.tup (l.map F))=true:=Qn fun x hx=>by
 obtain ⟨y,hy,rfl⟩:=List.mem_map.mp hx;exact h y hy
theorem Gg (n:Nat) (i:Int):dat n (.int i)=true:=by cases n <;> rfl
theorem Gh {mh:MH}{i j:Nat}{o x:MO}(e:mh[i]?=some x) (h:j≠i):(mh.set j o)[i]?=some x:=by rw [List.getElem?_set_ne h];exact e
theorem Ew {mh:MH}{i:Nat}{o x:MO}(e:mh[i]?=some x):(mh.set i o)[i]?=some o:=by
 obtain ⟨h,_⟩:=List.getElem?_eq_some_iff.mp e;rw [List.getElem?_set_self h]
theorem mX {n:Nat}{xs:List D}{x:D}{mh:MH}{P:D->MH->Prop}(e:mh[n]?=some (.lst (xs++[x]))) (h:P x (mh.set n (.lst xs))):wV (Xj (.ref n) [] mh) P:=by
 refine ⟨_,_,?_,h⟩;have e2:(xs++[x])[(xs++[x]).length - 1]?=some x:=by simp
 show (match mh[n]? with | some (.lst ds)=>(match ds[ds.length - 1]? with | some y=>some (y,mh.set n (.lst ds.dropLast)) | none=>none) | _=>none)=_;rw [e];dsimp only;rw [e2,List.dropLast_concat]
theorem mY {n:Nat}{xs ys:List D}{mh:MH}{P:D->MH->Prop}(e1:mh[n]?=some (.lst xs)) (hz:xs.length+ys.length<=1000000) (h:P .non (mh.set n (.lst (xs++ys)))):wV (Gz (.ref n) [.tup ys] mh) P :=
 ⟨_,_,by simp only [Gz,e1,if_pos (le_size hz)],h⟩
theorem Df {ds:List D}{lo hi:Option Int}{mh:MH}{P:D->MH->Prop}(h:P (.tup (DL.cutD ds lo hi)) mh):wV (slD (.tup ds) lo hi mh) P:=by
 refine ⟨_,_,?_,h⟩;show (if HT.sIx ds.length 0 lo=0/\HT.sIx ds.length ds.length hi=ds.length then some (D.tup ds,mh) else some (D.tup (DL.cutD ds lo hi),mh))=_;split
 ·rename_i q;have e:DL.cutD ds lo hi=ds:=by
   unfold DL.cutD;rw [q.1,q.2];simp
  rw [e]
 ·rfl
theorem Fp {α:Type}(ds:List α) (i:Nat):DL.cutD ds none (some (i:Int))=ds.take i:=by
 unfold DL.cutD;rw [HT.sIx_nat,HT.sIx_none];simp [List.take_eq_take_iff]
theorem Em {α:Type}(ds:List α) (i:Nat):DL.cutD ds (some (i:Int)) none=ds.drop i:=by
 unfold DL.cutD;rw [HT.sIx_nat,HT.sIx_none];rcases Nat.lt_or_ge i ds.length with z|z
 ·rw [Nat.min_eq_left (Nat.le_of_lt z),List.take_of_length_le (by rw [List.length_drop];exact Nat.le_refl _)]
 ·rw [Nat.min_eq_right z,List.drop_eq_nil_of_le z];simp
inductive Sh where
 | say (a b c:Int)
 | fork (a to:Int) (tos:List Int) (br:List (Int×List D))
 | again (a to:Int) (tos:List Int) (x:Int) (t:List D) (y:Int)
noncomputable def itD (l:List Int):D:=.tup (l.map D.int)
noncomputable def brD (p:Int×List D):D:=.tup [.int p.1,.tup p.2]
noncomputable def Bx (a b c:Int):D:=.tup [.str "say",.int a,.int b,.int c]
noncomputable def Sh.d:Sh->D
 | .say a b c=>Bx a b c
 | .fork a to tos br=>.tup [.str "fork",.int a,itD (to::tos),.tup (br.map brD)]
 | .again a to tos x t y=>.tup [.str "again",.int a,itD (to::tos),.int x,.tup t,.int y]
noncomputable def Sh.talks:Sh->List (List D)
 | .say ..=>[]
 | .fork _ _ _ br=>br.map (·.2)
 | .again _ _ _ _ t _=>[t]
noncomputable def Sh.kids (s:Sh):List D:=s.talks.flatten
noncomputable def Sh.fst:Sh->Int
 | .say a _ _=>a
 | .fork a _ _ _=>a
 | .again a ..=>a
noncomputable def Sh.adr:Sh->List Int
 | .say _ b _=>[b]
 | .fork _ to tos _=>to::tos
 | .again _ to tos ..=>to::tos
noncomputable def Sh.hands (s:Sh):List Int:=s.fst::s.adr
noncomputable def Sh.own:Sh->Prop
 | .say ..=>True
 | .fork _ _ _ br=>br.length<=5/\br≠[]/\(br.map (·.1)).Nodup
 | .again _ _ _ x _ y=>x≠y
structure Sh.ok (B:Nat) (s:Sh):Prop where
 hs:∀ h∈s.hands,0<=h/\h < 4
 ad:s.adr.length<=3
 kd:s.kids.length<=B
 ow:s.own
noncomputable def Ln (B:Nat):Nat->D->Prop
 | 0,_=>False
 | n+1,d=>∃ s:Sh,d=s.d/\s.ok B/\∀ x∈s.kids,Ln B n x
noncomputable def Nm (h:Int):Nat->D->Prop
 | 0,_=>False
 | n+1,d=>∃ s:Sh,d=s.d/\(h∈s.hands\/∃ x∈s.kids,Nm h n x)
noncomputable def Wt (B:Nat):Nat->Nat
 | 0=>0
 | n+1=>1+B * Wt B n
theorem eO {a b:List Int}(h:itD a=itD b):a=b:=by
 have h:(D.tup (a.map D.int))=.tup (b.map D.int):=h;injection h with h
 exact (List.map_inj_right fun x y e=>by injection e).mp h
theorem vM {a b:List (Int×List D)}(h:a.map brD=b.map brD):a=b:=(List.map_inj_right fun x y e=>by
 obtain ⟨x1,x2⟩:=x;obtain ⟨y1,y2⟩:=y;have e:D.tup [.int x1,.tup x2]=.tup [.int y1,.tup y2]:=e;simp only [D.tup.injEq,List.cons.injEq,D.int.injEq,and_true] at e
 rw [e.1,e.2]).mp h
theorem U4 {s t:Sh}(h:s.d=t.d):s=t:=by
 cases s <;> cases t <;> simp only [Sh.d,Bx,D.tup.injEq,List.cons.injEq,D.str.injEq,D.int.injEq,and_true,List.nil_eq,reduceCtorEq,and_false] at h
 ·rw [h.2.1,h.2.2.1,h.2.2.2]
 ·obtain ⟨_,h2,h3,h4⟩:=h;have h3:=eO h3;injection h3 with h5 h6
  rw [h2,h5,h6,vM h4]
 ·obtain ⟨_,h2,h3,h4,h5,h6⟩:=h;have h3:=eO h3;injection h3 with h7 h8
  rw [h2,h4,h5,h6,h7,h8]
theorem Ln.up {B:Nat}:∀ {n:Nat}{d:D},Ln B n d->Ln B (n+1) d
 | 0,_,h=>h.elim
 | n+1,d,⟨s,e,o,k⟩=>⟨s,e,o,fun x hx=>(k x hx).up⟩
theorem Nm.iff {h:Int}{n:Nat}{s:Sh}:Nm h (n+1) s.d ↔ (h∈s.hands\/∃ x∈s.kids,Nm h n x):=by
 constructor
 ·rintro ⟨t,e,q⟩;cases U4 e;exact q
 ·exact fun q=>⟨s,rfl,q⟩
theorem Wt.pos {B n:Nat}:1<=Wt B (n+1):=Nat.le_add_right _ _
theorem eU {B n:Nat}{d:D}(h:Ln B n d):1<=Wt B n:=by
 cases n with
 | zero=>exact h.elim
 | succ n=>exact Wt.pos
theorem eV {B:Nat}:∀ {n m:Nat}{d:D},Ln B n d->4 * n<=m->dat m d=true
 | 0,_,_,h,_=>h.elim
 | n+1,m,d,⟨s,e,o,k⟩,hm=>by
  obtain ⟨m,rfl⟩:∃ m',m=m'+4:=⟨m - 4,by omega⟩;have kd:∀ j,4 * n<=j->∀ x∈s.kids,dat j x=true:=fun j hj x hx=>eV (k x hx) hj
  have si:∀ (w:Str),PyData.strOk w=true->dat (m+3) (.str w)=true:=fun w hw=>hw
  have ii:∀ l:List Int,dat (m+3) (itD l)=true:=fun l=>Wd fun x _=>Gg _ _
  subst e;cases s with
  | say a b c =>
   refine Gf fun x hx=>?_
   simp only [List.mem_cons,List.mem_nil_iff,or_false] at hx;rcases hx with rfl|rfl|rfl|rfl
   ·exact si _ (by decide +kernel)
   all_goals exact Gg _ _
  | fork a to tos br =>
   refine Gf fun x hx=>?_
   simp only [List.mem_cons,List.mem_nil_iff,or_false] at hx;rcases hx with rfl|rfl|rfl|rfl
   ·exact si _ (by decide +kernel)
   ·exact Gg _ _
   ·exact ii _
   ·refine Wd fun p hp=>Gf fun x hx=>?_
    simp only [List.mem_cons,List.mem_nil_iff,or_false] at hx;rcases hx with rfl|rfl
    ·exact Gg _ _
    ·exact Gf fun x hx=>kd m (by omega) x (List.mem_flatten.mpr ⟨p.2,List.mem_map.mpr ⟨p,hp,rfl⟩,hx⟩)
  | again a to tos x t y =>
   refine Gf fun z hx=>?_
   simp only [List.mem_cons,List.mem_nil_iff,or_false] at hx;rcases hx with rfl|rfl|rfl|rfl|rfl|rfl
   ·exact si _ (by decide +kernel)
   ·exact Gg _ _
   ·exact ii _
   ·exact Gg _ _
   ·exact Gf fun x hx=>kd (m+2) (by omega) x (List.mem_flatten.mpr ⟨t,List.mem_singleton.mpr rfl,hx⟩)
   ·exact Gg _ _
section
variable {mh:MH}{P:D->MH->Prop}
theorem U5 {a:D}{r:List D}(h:P a mh):wV (ixD (.tup (a::r)) (.int 0) mh) P:=Ek (j:=0) rfl h
theorem U6 {a b:D}{r:List D}(h:P b mh):wV (ixD (.tup (a::b::r)) (.int 1) mh) P:=Ek (j:=1) rfl h
theorem U7 {a b c:D}{r:List D}(h:P c mh):wV (ixD (.tup (a::b::c::r)) (.int 2) mh) P:=Ek (j:=2) rfl h
theorem eX {a b c d:D}{r:List D}(h:P d mh):wV (ixD (.tup (a::b::c::d::r)) (.int 3) mh) P:=Ek (j:=3) rfl h
theorem eY {a b c d e:D}{r:List D}(h:P e mh):wV (ixD (.tup (a::b::c::d::e::r)) (.int 4) mh) P:=Ek (j:=4) rfl h
theorem eZ {a b c d e f:D}{r:List D}(h:P f mh):wV (ixD (.tup (a::b::c::d::e::f::r)) (.int 5) mh) P:=Ek (j:=5) rfl h
end
local macro_rules | `(tactic| walk_at "x0") => `(tactic| repeat (first | walk_at "s" | with_reducible refine Hh ?_ | with_reducible refine Hf (by simp) ?_ | with_reducible refine U5 ?_ | with_reducible refine U6 ?_ | with_reducible refine U7 ?_ | with_reducible refine eX ?_ | with_reducible refine eY ?_ | with_reducible refine eZ ?_ | with_reducible refine Abj (by kernel_rfl) (by kernel_rfl) (by decide +kernel) ?_ | with_reducible refine Abk (by kernel_rfl) (by kernel_rfl) (by decide +kernel) ?_))
section
variable {mh:MH}{P:D->MH->Prop}
theorem fB (k:Nat) (s:Sh) (h:P (itD s.adr) mh):wV (Af (Gk (k+1)) fuel f3 [s.d] mh) P:=by
 refine Bd (zU k) oU.1 oU.2 rfl ?_;show wS (b3 k) [some s.d] mh _;unfold b3;cases s with
 | say a b c =>
  dsimp only [Sh.d,Bx]
  walk_at "x0"
  exact h
 | fork a to tos br =>
  dsimp only [Sh.d]
  walk_at "x0"
  exact h
 | again a to tos x t y =>
  dsimp only [Sh.d]
  walk_at "x0"
  exact h
theorem Yd (k:Nat) (s:Sh) (hb:s.own) (h:∀ j h',mh.length<=j->Ext [] mh h'->h'[j]?=some (.lst (s.talks.map D.tup))->P (.ref j) h'):wV (Af (Gk (k+1)) fuel f1 [s.d] mh) P:=by
 refine Bd (zR k) oO.1 oO.2 rfl ?_;show wS (b1 k) [some s.d] mh _;unfold b1;cases s with
 | say a b c =>
  dsimp only [Sh.d,Bx]
  walk_at "x0"
  exact h _ _ (Nat.le_refl _) Ext.more Ak
 | fork a to tos br =>
  dsimp only [Sh.d]
  walk_at "x0"
  refine Jl br brD (fun p=>D.tup p.2) (Nat.le_trans hb.1 (by decide)) ?_ ?_ ?_
  ·walk_at "x0"
   exact ⟨_,rfl,Hg rfl⟩
  ·intro p h1 R hp x1 hR;refine J0 rfl ⟨rfl,?_⟩
   walk_at "x0"
   exact hR _ Ext.refl
  ·intro h1 x1
   walk_at "x0"
   refine h _ _ x1.len (x1.trans Ext.more) ?_;rw [Ak];show _=some (MO.lst ((br.map (·.2)).map D.tup));rw [List.map_map];rfl
 | again a to tos x t y =>
  dsimp only [Sh.d]
  walk_at "x0"
  exact h _ _ (Nat.le_refl _) Ext.more Ak
theorem U8 (k:Nat) (s:Sh) (hb:s.own) (h:∀ j h',mh.length<=j->Ext [] mh h'->h'[j]?=some (.lst (s.talks.map D.tup))->P (.ref j) h'):wV (Af (Gk (k+1)) fuel f16 [s.d] mh) P:=by
 refine Bd (vA k) dM.1 dM.2 rfl ?_;show wS (b16 k) [some s.d] mh _;unfold b16;cases s with
 | say a b c =>
  dsimp only [Sh.d,Bx]
  walk_at "x0"
  exact h _ _ (Nat.le_refl _) Ext.more Ak
 | fork a to tos br =>
  dsimp only [Sh.d]
  walk_at "x0"
  refine Jl br brD (fun p=>D.tup p.2) (Nat.le_trans hb.1 (by decide)) ?_ ?_ ?_
  ·walk_at "x0"
   exact ⟨_,rfl,Hg rfl⟩
  ·intro p h1 R hp x1 hR;refine Ay ⟨rfl,?_⟩;dsimp only [brD]
   walk_at "x0"
   exact hR _ Ext.refl
  ·intro h1 x1
   walk_at "x0"
   refine h _ _ x1.len (x1.trans Ext.more) ?_;rw [Ak];show _=some (MO.lst ((br.map (·.2)).map D.tup));rw [List.map_map];rfl
 | again a to tos x t y =>
  dsimp only [Sh.d]
  walk_at "x0"
  exact h _ _ (Nat.le_refl _) Ext.more Ak
end
theorem mZ {ms:DM Src}{g:GM}{body:SM}{l0:DL.Loc}{mh:MH}{K:Fl->DL.Loc->MH->Prop}{α:Type}(xs:List α) (G:α->D) (F:α->List D) (acc:List D) (j:Nat) (I:DL.Loc->Prop)
  (hj:mh[j]?=some (.lst acc)) (i0:I l0) (hb:(acc++xs.flatMap F).length<=1000000)
  (hm:wD ms l0 mh fun src h0=>Ext [] mh h0/\∀ h,Ext [j] h0 h->src.ok h=true/\src.items h=xs.map G)
  (step:∀ x l h a,x∈xs->I l->Ext [j] mh h->h[j]?=some (.lst a)->(a++F x).length<=1000000->∀ {J:DL.Loc->MH->Prop},(∀ l2 h2,I l2->Ext [j] h h2->h2[j]?=some (.lst (a++F x))->J l2 h2)->wG (g (G x) l h) fun l1 h1=>wS body l1 h1 (mL J K))
  (fin:∀ l h,I l->Ext [j] mh h->h[j]?=some (.lst (acc++xs.flatMap F))->K .nx l h):wS (Cv ms g body) l0 mh K:=by
 refine Ig (Ba hm ?_);rintro src h0 ⟨x0,keep⟩;refine ⟨xs.map G,fun i l h=>I l/\Ext [j] h0 h/\h[j]?=some (.lst (acc++(xs.take i).flatMap F)),⟨i0,Ext.refl,by rw [x0.old _ _ (by simp) hj];simp⟩,fun i l h q=>keep h q.2.1,?_,?_⟩
 ·rintro i d l h ed ⟨il,xh,gh⟩;rw [List.getElem?_map] at ed;cases ex:xs[i]? with
  | none=>rw [ex] at ed;cases ed
  | some x =>
   rw [ex] at ed;cases ed;have et:(xs.take (i+1)).flatMap F=(xs.take i).flatMap F++F x:=by
    rw [List.take_add_one,ex,List.flatMap_append];simp
   refine step x l h _ (List.mem_of_getElem? ex) il (x0.weak.trans xh) gh ?_ fun l2 h2 i2 x2 g2=>⟨i2,xh.trans x2,by rw [g2,et,List.append_assoc]⟩
   rw [List.append_assoc,← et];refine Nat.le_trans ?_ hb;rw [List.length_append,List.length_append];have:((xs.take (i+1)).flatMap F).length+((xs.drop (i+1)).flatMap F).length=(xs.flatMap F).length:=by
    rw [← List.length_append,← List.flatMap_append,List.take_append_drop]
   omega
 ·rintro l h ⟨il,xh,gh⟩;rw [List.length_map,List.take_length] at gh;exact fin l h il (x0.weak.trans xh) gh
theorem nA {n j:Nat}{α:Type}{xs:List α}{F:α->D}{mh h0:MH}(x:Ext [] mh h0) (e:h0[n]?=some (.lst (xs.map F))) (hn:n≠j):Ext [] mh h0/\∀ h,Ext [j] h0 h->(Src.lref n).ok h=true/\(Src.lref n).items h=xs.map F :=
 ⟨x,fun h y=>Fo (y.old _ _ (by intro z;exact hn (List.mem_singleton.mp z)) e)⟩
theorem Ca {ms:DM Src}{g:GM}{body:SM}{l0:DL.Loc}{mh:MH}{K:Fl->DL.Loc->MH->Prop}{α:Type}(xs:List α) (G:α->D) (J:Nat->DL.Loc->MH->Prop)
  (hm:wD ms l0 mh fun src h0=>src=.seq (xs.map G)/\J 0 l0 h0)
  (step:∀ i x l h,xs[i]?=some x->J i l h->wG (g (G x) l h) fun l1 h1=>wS body l1 h1 (mL (J (i+1)) K)) (fin:∀ l h,J xs.length l h->K .nx l h):wS (Cv ms g body) l0 mh K:=by
 refine Ig (Ba hm ?_);rintro src h0 ⟨rfl,j0⟩;refine ⟨xs.map G,J,j0,fun _ _ _ _=>⟨rfl,rfl⟩,fun i d l h ed j=>?_,fun l h j=>fin l h (by rw [List.length_map] at j;exact j)⟩;rw [List.getElem?_map] at ed;obtain ⟨x,ex,rfl⟩:=Option.map_eq_some_iff.mp ed;exact step i x l h ex j
noncomputable def fD (ns:List Int):List (Key×D):=ns.map fun h=>(Sum.inl h,D.bl true)
theorem vN (ns:List Int) (h:Int):((fD ns).any fun kv=>keyB kv.1 (Sum.inl h))=decide (h∈ns):=by
 induction ns with
 | nil=>rfl
 | cons a r ih =>
  show (decide (a=h) || (fD r).any fun kv=>keyB kv.1 (Sum.inl h))=_;rw [ih,← Bool.decide_or];exact decide_eq_decide.mpr (by rw [List.mem_cons];exact or_congr eq_comm Iff.rfl)
theorem vO (ns:List Int) (h:Int):putD (fD ns) (Sum.inl h) (.bl true)=fD (if h∈ns then ns else ns++[h]):=by
 unfold putD;rw [vN]
 by_cases q:h∈ns
 ·rw [if_pos (decide_eq_true q),if_pos q];unfold fD;rw [List.map_map];refine List.map_congr_left fun a _=>?_
  show (if keyB (Sum.inl a) (Sum.inl h)=true then (Sum.inl a,D.bl true) else (Sum.inl a,D.bl true))=_;split <;> rfl
 ·rw [if_neg (by rw [decide_eq_true_iff];exact q),if_neg q];unfold fD;rw [List.map_append];rfl
theorem S7:∀ ns:List Int,Om (fD ns)=some ns
 | []=>rfl
 | a::r=>by
  show (match Om (fD r) with | some ns=>some (a::ns) | none=>none)=_;rw [S7 r]
theorem Qo {α:Type} [DecidableEq α]:∀ {l l':List α},l.Nodup->(∀ x∈l,x∈l')->l.length<=l'.length
 | [],_,_,_=>Nat.zero_le _
 | a::r,l',nd,h=>by
  rw [List.nodup_cons] at nd;have ha:=h a List.mem_cons_self;have ih:=Qo (l':=l'.erase a) nd.2 fun x hx=>(List.mem_erase_of_ne fun z=>nd.1 (by rw [← z];exact hx)).mpr (h x (List.mem_cons_of_mem _ hx))
  rw [List.length_erase_of_mem ha] at ih;have:=List.length_pos_of_mem ha;rw [List.length_cons];omega
theorem fG {ns:List Int}(nd:ns.Nodup) (h:∀ x∈ns,0<=x/\x < 4):ns.length<=4:=by
 refine Qo (l':=[0,1,2,3]) nd fun x hx=>?_
 have:=h x hx;have:x=0\/x=1\/x=2\/x=3:=by omega
 rcases this with rfl | rfl | rfl | rfl <;> decide
structure Fd (B n:Nat) (d:D) (ns:List Int) (ps:List (Nat×D)):Prop where
 nd:ns.Nodup
 lo:∀ x∈ns,0<=x/\x < 4
 ln:∀ p∈ps,Ln B p.1 p.2
 eq:∀ h,(h∈ns\/∃ p∈ps,Nm h p.1 p.2) ↔ Nm h n d
noncomputable def wS' (B:Nat) (ps:List (Nat×D)):Nat:=(ps.map fun p=>Wt B p.1).sum
section
variable {mh:MH}{P:D->MH->Prop}
theorem fH {j:Nat}{ns:List Int}(e:mh[j]?=some (.dct (fD ns))) (hz:ns.length < 64) (h:P (.ref mh.length) (mh++[.lst ((sortI ns).map D.int)])):wV (Dk [.ref j] mh) P:=by
 refine ⟨_,_,?_,h⟩;have e1:Dk [.ref j] mh=Iz [.ref j] mh:=by
  unfold Dk;simp only [e]
 rw [e1];unfold Iz;simp only [e,S7,if_pos hz]
theorem vP {B:Nat}{ps:List (Nat×D)}(h:∀ p∈ps,Ln B p.1 p.2):ps.length<=wS' B ps:=by
 induction ps with
 | nil=>exact Nat.le_refl _
 | cons a r ih =>
  have h1:=eU (h a List.mem_cons_self);have h2:=ih fun p hp=>h p (List.mem_cons_of_mem _ hp)
  unfold wS' at *;simp only [List.map_cons,List.sum_cons,List.length_cons];omega
theorem Ot (B n:Nat) (l:List D):wS' B (l.map fun x=>(n,x))=l.length * Wt B n:=by
 unfold wS';rw [List.map_map]
 induction l with
 | nil=>simp
 | cons a r ih =>
  simp only [List.map_cons,List.sum_cons,List.length_cons,Function.comp_def] at ih ⊢;rw [ih,Nat.succ_mul,Nat.add_comm]
end
section
variable {mh:MH}{P:D->MH->Prop}
theorem fJ (s:Sh):∃ w b r,s.d=.tup (.str w::.int s.fst::b::r):=by
 cases s <;> exact ⟨_,_,_,rfl⟩
theorem Qp (B:Nat) (a b:List (Nat×D)):wS' B (a++b)=wS' B a+wS' B b:=by
 unfold wS';rw [List.map_append,List.sum_append]
theorem Ye (k B n:Nat) (d:D) (hd:Ln B n d) (hw:Wt B n < 1000000) (h:∀ (L:List Int) j h',Ext [] mh h'->h'[j]?=some (.lst (L.map D.int))->(∀ a,a∈L ↔ Nm a n d)->P (.ref j) h'):wV (Af (Gk (k+2)) fuel f2 [.tup [d]] mh) P:=by
 refine Bd (zT (k+1)) oR.1 oR.2 rfl ?_;show wS (b2 (k+1)) [some (.tup [d]),none,none,none,none,none] mh _;unfold b2
 walk_at "x0"
 refine Je ?_
 walk_at "x0"
 refine J2 (ds:=[d]) rfl ?_
 walk_at "x0"
 refine cU (fun m l h'=>∃ (ns:List Int) (ps:List (Nat×D)) (y3 y4 y5:Option D),l=[some (.tup [d]),some (.ref mh.length),some (.ref (mh.length+1)),y3,y4,y5]/\m=wS' B ps/\m<=Wt B n/\Fd B n d ns ps/\Ext [] mh h'/\h'[mh.length]?=some (.dct (fD ns))/\h'[mh.length+1]?=some (.lst (ps.map (·.2)))) (Wt B n) hw ?_ ?_
 ·refine ⟨[],[(n,d)],none,none,none,?_,?_,Nat.le_refl _,⟨List.nodup_nil,fun x hx=>(by cases hx),fun p hp=>?_,fun a=>?_⟩,Ext.more.trans Ext.more,Ext.more.old (W:=[]) _ _ (by simp) Ak,?_⟩
  ·rw [List.length_append];rfl
  ·unfold wS';simp
  ·rw [List.mem_singleton.mp hp];exact hd
  ·constructor
   ·rintro (z | ⟨p,hp,q⟩)
    ·cases z
    ·rw [List.mem_singleton.mp hp] at q;exact q
   ·exact fun q=>.inr ⟨_,List.mem_singleton.mpr rfl,q⟩
  ·have:=Ak (a:=mh++[.dct []]) (o:=.lst [d]);rw [List.length_append] at this;exact this
 ·rintro m l h1 ⟨ns,ps,y3,y4,y5,rfl,rfl,hm,fd,x1,g1,g2⟩
  walk_at "x0"
  refine Ge (by intro z z';cases z') (El g2) ?_
  walk_at "x0"
  rw [List.length_map];refine ⟨fun hl=>?_,fun hl=>?_⟩
  ·refine zZ (fun _ _ a=>a) fun Q nxt=>?_
   have hl:0 < ps.length:=by have:=of_decide_eq_true hl;omega
   obtain ⟨ps',⟨m,e⟩,rfl⟩:∃ ps' t,ps=ps'++[t]:=by
    rcases List.eq_nil_or_concat ps with rfl|⟨l,a,rfl⟩
    ·simp at hl
    ·exact ⟨l,a,by simp⟩
   have le:=fd.ln (m,e) (by simp);cases m with
   | zero=>exact le.elim
   | succ m =>
   obtain ⟨s,rfl,so,sk⟩:=le;rw [List.map_append] at g2;have hne:mh.length+1≠mh.length:=by omega
   rw [Qp] at hm nxt;have hsum:wS' B [(m+1,s.d)]=1+B * Wt B m:=by unfold wS';simp [Wt]
   rw [hsum] at hm nxt;have ll:=vP (B:=B) (ps:=ps') fun p hp=>fd.ln p (List.mem_append.mpr (.inl hp))
   walk_at "x0"
   refine ⟨ty_list g2,?_⟩
   walk_at "x0"
   refine mX g2 ?_;have g1':=Gh (o:=.lst (ps'.map (·.2))) g1 hne;have g2':=Ew (o:=.lst (ps'.map (·.2))) g2;have x1':Ext [] mh (h1.set (mh.length+1) (.lst (ps'.map (·.2)))):=x1.setNew (by omega);generalize h1.set (mh.length+1) (.lst (ps'.map (·.2)))=h2 at g1' g2' x1'
   walk_at "x0"
   refine Ca s.hands D.int (fun i l h'=>∃ (ns':List Int) (y4:Option D),l=[some (.tup [d]),some (.ref mh.length),some (.ref (mh.length+1)),some s.d,y4,y5]/\ns'.Nodup/\(∀ a,a∈ns' ↔ (a∈ns\/a∈s.hands.take i))/\Ext [] mh h'/\h'[mh.length]?=some (.dct (fD ns'))/\h'[mh.length+1]?=some (.lst (ps'.map (·.2)))) ?_ ?_ ?_
   ·obtain ⟨w,b,r,es⟩:=fJ s
    walk_at "x0"
    rw [es]
    walk_at "x0"
    rw [← es];refine fB k s ?_;refine Bb (by have:=so.ad;simp;omega) ?_;exact ⟨_,rfl,rfl,ns,y4,rfl,fd.nd,fun a=>by simp,x1',g1',g2'⟩
   ·rintro i a l h3 ea ⟨ns',z4,rfl,nd,ia,x3,g3,g4⟩;refine Ay (Gv (Mu (Gu (uL ?_))))
    walk_at "x0"
    have l4:ns'.length<=4:=fG nd fun x hx=>by
     rcases (ia x).mp hx with z|z
     ·exact fd.lo x z
     ·exact so.hs x (List.mem_of_mem_take z)
    refine ⟨_,_,_,rfl,g3,rfl,by unfold fD;rw [List.length_map];omega,?_⟩;rw [vO]
    walk_at "x0"
    have et:s.hands.take (i+1)=s.hands.take i++[a]:=by rw [List.take_add_one,ea];rfl
    refine ⟨_,_,rfl,?_,fun b=>?_,x3.setNew (Nat.le_refl _),Ew g3,Gh g4 hne.symm⟩
    ·split
     ·exact nd
     ·rename_i q;rw [List.nodup_append];exact ⟨nd,List.pairwise_singleton _ _,fun x hx y hy z=>q (by rw [← List.mem_singleton.mp hy,← z];exact hx)⟩
    ·rw [et,List.mem_append,List.mem_singleton];split
     ·rename_i q;rw [ia b];constructor
      ·rintro (z | z)
       ·exact .inl z
       ·exact .inr (.inl z)
      ·rintro (z | z | z)
       ·exact .inl z
       ·exact .inr z
       ·rw [z];exact (ia a).mp q
     ·rw [List.mem_append,List.mem_singleton,ia b,or_assoc]
   ·rintro l h3 ⟨ns',z4,rfl,nd,ia,x3,g3,g4⟩;rw [List.take_length] at ia
    walk_at "x0"
    refine mZ s.talks D.tup (fun t=>t) (ps'.map (·.2)) (mh.length+1) (fun l=>∃ y5,l=[some (.tup [d]),some (.ref mh.length),some (.ref (mh.length+1)),some s.d,z4,y5]) g4 ⟨_,rfl⟩ ?_ ?_ ?_ ?_
    ·rw [List.length_append,List.length_map];have e1:(s.talks.flatMap fun t=>t)=s.kids:=by unfold Sh.kids;rw [List.flatMap_def];simp
     rw [e1];have:=so.kd;have w1:1<=Wt B m\/s.kids=[]:=by
      cases hk:s.kids with
      | nil=>exact .inr rfl
      | cons x r=>exact .inl (eU (sk x (by rw [hk];exact List.mem_cons_self)))
     rcases w1 with w1|w1
     ·have:=Nat.mul_le_mul_left B w1;omega
     ·rw [w1];simp;omega
    ·walk_at "x0"
     refine Yd k s so.ow fun j h' hj x' g'=>?_
     refine ⟨.lref j,src_list g',?_⟩
     exact nA x' g' (fun z=>by
      have:=Eu g4
      omega)
    ·rintro t l h4 a ht ⟨z5,rfl⟩ x4 g5 hz J nx;refine Ay ?_
     walk_at "x0"
     refine ⟨ty_list g5,?_⟩
     walk_at "x0"
     refine mY g5 (by rw [← List.length_append];exact hz) ?_
     walk_at "x0"
     exact nx _ _ ⟨_,rfl⟩ Ext.set (Ew g5)
    ·rintro l h4 ⟨z5,rfl⟩ x4 g5;have e1:(s.talks.flatMap fun t=>t)=s.kids:=by unfold Sh.kids;rw [List.flatMap_def];simp
     rw [e1] at g5
     walk_at "x0"
     refine nxt _ _ ⟨wS' B (ps'++s.kids.map fun x=>(m,x)),?_,ns',ps'++s.kids.map fun x=>(m,x),_,_,_,rfl,rfl,?_,⟨nd,fun x hx=>?_,fun p hp=>?_,fun a=>?_⟩,?_,x4.old _ _ (by intro z;exact hne (List.mem_singleton.mp z).symm) g3,?_⟩
     ·rw [Qp,Ot];have:=Nat.mul_le_mul_right (Wt B m) so.kd;omega
     ·rw [Qp,Ot];have:=Nat.mul_le_mul_right (Wt B m) so.kd;omega
     ·rcases (ia x).mp hx with z|z
      ·exact fd.lo x z
      ·exact so.hs x z
     ·rcases List.mem_append.mp hp with z|z
      ·exact fd.ln p (List.mem_append.mpr (.inl z))
      ·obtain ⟨x,hx,rfl⟩:=List.mem_map.mp z;exact sk x hx
     ·rw [← fd.eq a,ia a];constructor
      ·rintro ((z | z) | ⟨p,hp,q⟩)
       ·exact .inl z
       ·exact .inr ⟨(m+1,s.d),by simp,Nm.iff.mpr (.inl z)⟩
       ·rcases List.mem_append.mp hp with hp|hp
        ·exact .inr ⟨p,List.mem_append.mpr (.inl hp),q⟩
        ·obtain ⟨x,hx,rfl⟩:=List.mem_map.mp hp;exact .inr ⟨(m+1,s.d),by simp,Nm.iff.mpr (.inr ⟨x,hx,q⟩)⟩
      ·rintro (z | ⟨p,hp,q⟩)
       ·exact .inl (.inl z)
       ·rcases List.mem_append.mp hp with hp|hp
        ·exact .inr ⟨p,List.mem_append.mpr (.inl hp),q⟩
        ·rw [List.mem_singleton.mp hp] at q;rcases Nm.iff.mp q with z|⟨x,hx,z⟩
         ·exact .inl (.inr z)
         ·exact .inr ⟨(m,x),List.mem_append.mpr (.inr (List.mem_map.mpr ⟨x,hx,rfl⟩)),z⟩
     ·exact ⟨Nat.le_trans x3.len x4.len,fun i o _ e=>x4.old i o (by intro z;have:=List.mem_singleton.mp z;have:=Eu e;omega) (x3.old i o (by simp) e)⟩
     ·rw [g5,List.map_append,List.map_map];simp [Function.comp_def]
  ·have hd:ps=[]:=by
    have:=of_decide_eq_false hl;exact List.length_eq_zero_iff.mp (by omega)
   subst hd
   walk_at "x0"
   refine fH g1 (Nat.lt_of_le_of_lt (fG fd.nd fd.lo) (by decide)) ?_
   walk_at "x0"
   refine h _ _ _ (x1.trans Ext.more) Ak fun a=>?_
   rw [(sortI_perm ns).mem_iff,← fd.eq a];simp
end
noncomputable def says (a:Int) (tos:List Int) (c:Int):List D:=tos.map fun h=>Bx a h c
noncomputable def Sh.lft (s:Sh) (a b c:Int):Option (List D):=match s with
 | .say x y z=>if x=a/\y=b/\z=c then some [] else none
 | .fork x to tos br=>if x=a/\to=b then (br.find? fun p=>p.1==c).map (fun p=>says x tos c++p.2) else none
 | .again x to tos u t v=>if x=a/\to=b then (if c=u then some (says x tos c++t++[Sh.d (.again x to tos u t v)]) else if c=v then some (says x tos c) else none) else none
noncomputable def oD:Option (List D)->D
 | none=>.non
 | some t=>.tup t
noncomputable def ltr (a b c:Int):D:=.tup [.int a,.int b,.int c]
theorem fK (l:List Int) (mh:MH):py mh 60 (itD l)=some (.tuple (l.map PyData.int)):=by
 show (match Bm (py mh 59) (l.map D.int) with | some xs=>some (PyData.tuple xs) | none=>none)=_;rw [Fj]
theorem Wf (xs ys:List Int) (mh:MH):eqB mh (itD xs) (itD ys)=some (xs==ys):=by
 unfold eqB;rw [fK,fK];dsimp only;rw [PyData.eqv,Ke]
section
variable {mh:MH}{P:D->MH->Prop}
theorem vQ {xs ys:List Int}(h:P (.bl (xs==ys)) mh):wV (eqD (itD xs) (itD ys) mh) P:=V9 (Wf _ _ _) h
theorem fL {xs ys:List Int}(h:P (.bl (!(xs==ys))) mh):wV (neD (itD xs) (itD ys) mh) P:=Wa (Wf _ _ _) h
theorem U9 {d:D}{ds:List D}(h:P (.tup ds) mh):wV (slD (.tup (d::ds)) (some 1) none mh) P:=Df (by rw [show DL.cutD (d::ds) (some 1) none=(d::ds).drop 1 from Em _ 1];exact h)
theorem Kv {a:Int}{r:List Int}(h:P (.int a) mh):wV (ixD (itD (a::r)) (.int 0) mh) P:=Ek (j:=0) rfl h
theorem Fq {α:Type}{t:List α}:∀ {l:List (List α)},t∈l->t.length<=l.flatten.length
 | [],h=>by cases h
 | a::r,h=>by
  rw [List.flatten_cons,List.length_append];rcases List.mem_cons.mp h with rfl|h
  ·omega
  ·have:=Fq h;omega
theorem S8 (k:Nat) (s:Sh) (a to c:Int) (tos:List Int) {loc:DL.Loc}{me:DM D}{Q:D->MH->Prop}(hz:tos.length<=1000) (hm:∀ h h2:MH,∀ x:Int,∀ R:D->MH->Prop,R (Bx a x c) h->wD me ((Hl [none,none,some 1,some 0] loc).set 1 (some (.int x))) h R) (h0:loc[0]?=some (some s.d)) (hs:∃ w r,s.d=.tup (.str w::.int a::itD (to::tos)::r))
  (h:∀ h',Ext [] mh h'->Q (.ref h'.length) (h'++[.lst (says a tos c)])):wD (Dl (Cy (dSl (dop ixD (vr 0) (Zr (.int 2))) (some (Zr (.int 1))) none)) [none,none,some 1,some 0] (Ag 1) (Zr true) me) loc mh Q:=by
 refine Jl tos D.int (fun x=>Bx a x c) (Nat.le_trans hz (by decide)) ?_ ?_ ?_
 ·refine cT (oM (cO (cN h0 ?_)));obtain ⟨w,r,e⟩:=hs;rw [e]
  walk_at "x0"
  refine U9 ?_;exact ⟨_,rfl,Hg rfl⟩
 ·intro x h1 R hx x1 hR;exact Ay ⟨rfl,hm h1 h1 x R (hR _ Ext.refl)⟩
 ·intro h1 x1;exact h _ x1
theorem nC (k:Nat) (s:Sh) (B:Nat) (so:s.ok B) (hB:B<=1000) (a b c:Int) (h:∀ h',Ext [] mh h'->P (oD (s.lft a b c)) h'):wV (Af (Gk (k+1)) fuel f7 [s.d,ltr a b c] mh) P:=by
 refine Bd (zX k) oX.1 oX.2 rfl ?_;show wS (b7 k) [some s.d,some (ltr a b c),none,none] mh _;unfold b7;have sl2:∀ {Q:D->MH->Prop} {m:MH},Q (itD [a,b]) m->wV (slD (.tup [.int a,.int b,.int c]) none (some 2) m) Q:=fun {Q m} q=>Df (by rw [show DL.cutD [D.int a,.int b,.int c] none (some 2)=[D.int a,.int b,.int c].take 2 from Fp _ 2];exact q)
 cases s with
 | say x y z =>
  dsimp only [Sh.d,Bx,ltr]
  walk_at "x0"
  refine U9 ?_
  walk_at "x0"
  refine vQ (xs:=[x,y,z]) (ys:=[a,b,c]) ?_;have e:oD (Sh.lft (.say x y z) a b c)=if x=a/\y=b/\z=c then .tup [] else .non:=by
   show oD (if _ then _ else _)=_;split <;> rfl
  rw [e] at h
  by_cases q:x=a/\y=b/\z=c
  ·rw [if_pos q] at h;obtain ⟨rfl,rfl,rfl⟩:=q;rw [beq_self_eq_true]
   walk_at "x0"
   exact h _ Ext.refl
  ·rw [if_neg q] at h;have e2:([x,y,z]==[a,b,c])=false:=by
    rw [beq_eq_false_iff_ne];intro e;injection e with e1 e
    injection e with e2 e
    injection e with e3 e
    exact q ⟨e1,e2,e3⟩
   rw [e2]
   walk_at "x0"
   exact h _ Ext.refl
 | fork x to tos br =>
  have tl:tos.length<=1000:=by have:=so.ad;simp [Sh.adr] at this;omega
  have sd:Sh.d (.fork x to tos br)=.tup [.str "fork",.int x,itD (to::tos),.tup (br.map brD)]:=rfl;rw [sd];dsimp only [ltr]
  walk_at "x0"
  refine Kv ?_
  walk_at "x0"
  refine sl2 ?_
  walk_at "x0"
  refine fL (xs:=[x,to]) (ys:=[a,b]) ?_;have e:Sh.lft (.fork x to tos br) a b c=if x=a/\to=b then (br.find? fun p=>p.1==c).map (fun p=>says x tos c++p.2) else none:=rfl
  rw [e] at h
  by_cases q:x=a/\to=b
  ·rw [if_pos q] at h;obtain ⟨rfl,rfl⟩:=q;rw [beq_self_eq_true]
   walk_at "x0"
   refine S8 k (.fork x to tos br) x to c tos tl ?_ rfl ⟨_,_,rfl⟩ fun h0 x0=>?_
   ·intro h1 h2 y R hR;dsimp only [Hl]
    walk_at "x0"
    exact hR
   walk_at "x0"
   refine Cu (Jj _ _) ?_;have x1:=x0.trans (Ext.more (W:=[]) (g:=[.lst (says x tos c)]));generalize h0++[MO.lst (says x tos c)]=h1 at x1
   walk_at "x0"
   refine Jk br brD (fun p=>p.1==c) (fun p=>D.tup p.2) (Nat.le_trans so.ow.1 (by decide)) ?_ ?_ ?_
   ·walk_at "x0"
    exact ⟨_,rfl,Hg rfl⟩
   ·intro p h2 R hp x2 hR;refine J0 rfl ⟨rfl,?_⟩
    walk_at "x0"
    refine ⟨rfl,rfl,fun _=>?_⟩
    walk_at "x0"
    exact hR _ Ext.refl
   ·intro h2 x2
    walk_at "x0"
    refine Ge (by intro z z';cases z') (Jj _ _) ?_
    walk_at "x0"
    have hf:=List.head?_filter (p:=fun p:Int×List D=>p.1==c) (l:=br);cases el:br.filter fun p=>p.1==c with
    | nil =>
     rw [el] at hf;rw [← hf] at h
     walk_at "x0"
     exact h _ ((x1.trans x2).trans Ext.more)
    | cons p r =>
     rw [el] at hf;rw [← hf] at h;refine Wb (by rw [List.map_cons,List.length_cons];exact decide_eq_true (by omega)) ?_
     walk_at "x0"
     refine Bl (j:=0) Ak rfl ?_;have kp:p.2.length<=1000:=by
      have hp:p∈br:=(List.mem_filter.mp (by rw [el];exact List.mem_cons_self)).1;refine Nat.le_trans ?_ (Nat.le_trans so.kd hB);exact Fq (List.mem_map.mpr ⟨p,hp,rfl⟩)
     refine Bb (by unfold says;rw [List.length_map];omega) ?_;exact h _ ((x1.trans x2).trans Ext.more)
  ·rw [if_neg q] at h;have e2:([x,to]==[a,b])=false:=by
    rw [beq_eq_false_iff_ne];intro e;injection e with e1 e
    injection e with e2 e
    exact q ⟨e1,e2⟩
   rw [e2]
   walk_at "x0"
   exact h _ Ext.refl
 | again x to tos u t v =>
  have tl:tos.length<=1000:=by have:=so.ad;simp [Sh.adr] at this;omega
  have tk:t.length<=1000:=by
   have:=so.kd;have e:Sh.kids (.again x to tos u t v)=t:=by show [t].flatten=t;simp
   rw [e] at this;omega
  have sd:Sh.d (.again x to tos u t v)=.tup [.str "again",.int x,itD (to::tos),.int u,.tup t,.int v]:=rfl;rw [sd];dsimp only [ltr]
  walk_at "x0"
  refine Kv ?_
  walk_at "x0"
  refine sl2 ?_
  walk_at "x0"
  refine fL (xs:=[x,to]) (ys:=[a,b]) ?_;have e:Sh.lft (.again x to tos u t v) a b c=if x=a/\to=b then (if c=u then some (says x tos c++t++[Sh.d (.again x to tos u t v)]) else if c=v then some (says x tos c) else none) else none:=rfl
  rw [e] at h
  by_cases q:x=a/\to=b
  ·rw [if_pos q] at h;obtain ⟨rfl,rfl⟩:=q;rw [beq_self_eq_true]
   walk_at "x0"
   refine S8 k (.again x to tos u t v) x to c tos tl ?_ rfl ⟨_,_,rfl⟩ fun h0 x0=>?_
   ·intro h1 h2 y R hR;dsimp only [Hl]
    walk_at "x0"
    exact hR
   walk_at "x0"
   refine Cu (Jj _ _) ?_;have x1:=x0.trans (Ext.more (W:=[]) (g:=[.lst (says x tos c)]));generalize h0++[MO.lst (says x tos c)]=h1 at x1
   walk_at "x0"
   refine Ax (fun q=>?_) fun q=>?_
   ·rw [if_pos (eq_of_beq q)] at h
    walk_at "x0"
    refine Bb (by unfold says;rw [List.length_map];omega) ?_
    walk_at "x0"
    refine Bb (by unfold says;rw [List.length_append,List.length_map];simp;omega) ?_;exact h _ x1
   ·rw [if_neg (by intro z;rw [z,beq_self_eq_true] at q;cases q)] at h
    walk_at "x0"
    refine Ax (fun q=>?_) fun q=>?_
    ·rw [if_pos (eq_of_beq q)] at h
     walk_at "x0"
     exact h _ x1
    ·rw [if_neg (by intro z;rw [z,beq_self_eq_true] at q;cases q)] at h
     walk_at "x0"
     exact h _ x1
  ·rw [if_neg q] at h;have e2:([x,to]==[a,b])=false:=by
    rw [beq_eq_false_iff_ne];intro e;injection e with e1 e
    injection e with e2 e
    exact q ⟨e1,e2⟩
   rw [e2]
   walk_at "x0"
   exact h _ Ext.refl
end
open Classical in
noncomputable def nmB (n:Nat) (h:Int) (d:D):Bool:=decide (Nm h n d)
open Classical in
theorem Ou {n:Nat}{h:Int}{d:D}:nmB n h d=true ↔ Nm h n d:=by unfold nmB;rw [decide_eq_true_iff]
open Classical in
noncomputable def vR (d:D) (a b c:Int):Option (List D):=if h:∃ s:Sh,d=s.d then (Classical.choose h).lft a b c else none
theorem Qq (s:Sh) (a b c:Int):vR s.d a b c=s.lft a b c:=by
 have h:∃ t:Sh,s.d=t.d:=⟨s,rfl⟩;unfold vR;rw [dif_pos h,← U4 (Classical.choose_spec h)]
noncomputable def flw (n:Nat) (t:List D) (a b c:Int):Option (List D):=match t.findIdx? (nmB n a) with
 | none=>none
 | some i=>(vR (t.getD i .non) a b c).map fun r=>t.take i++r++t.drop (i+1)
structure Tk (B n:Nat) (m:Nat) (t:List D):Prop where
 ln:∀ x∈t,Ln B n x
 le:t.length<=m
 w:Wt B n < 1000000
 b:B<=1000
 m:m<=100000
theorem Ln.sh {B n:Nat}{d:D}(h:Ln B n d):∃ (m:Nat) (s:Sh),n=m+1/\d=s.d/\s.ok B/\∀ x∈s.kids,Ln B m x:=by
 cases n with
 | zero=>exact h.elim
 | succ m =>
  obtain ⟨s,e,o,k⟩:=h;exact ⟨m,s,rfl,e,o,k⟩
section
variable {mh:MH}{P:D->MH->Prop}
theorem fM {j:Nat}{L:List Int}{a:Int}(e:mh[j]?=some (.lst (L.map D.int))):inB mh (.int a) (.ref j)=some (decide (a∈L)):=by
 have e1:py mh 60 (.int a)=some (.int a):=rfl;have e2:py mh 60 (.ref j)=some (.list (L.map PyData.int)):=by
  show (match mh[j]? with | some (.lst o)=>(match Bm (py mh 59) o with | some xs=>some (PyData.list xs) | none=>none) | _=>none)=_;rw [e];dsimp only;rw [Fj]
 unfold inB;rw [e1,e2];dsimp only;congr 1
 clear e e2
 induction L with
 | nil=>rfl
 | cons b r ih =>
  rw [List.map_cons,List.any_cons,ih];show (b==a || decide (a∈r))=_;rw [Bool.eq_iff_iff,Bool.or_eq_true,beq_iff_eq,decide_eq_true_iff,decide_eq_true_iff,List.mem_cons];exact or_congr eq_comm Iff.rfl
theorem Qs {s:Sh}{B:Nat}(so:s.ok B) {a b c:Int}{r:List D}(e:s.lft a b c=some r):r.length<=B+4:=by
 have ad:=so.ad;have kd:=so.kd;cases s with
 | say x y z =>
  have e:(if x=a/\y=b/\z=c then some [] else none)=some r:=e;split at e
  ·cases e;exact Nat.zero_le _
  ·cases e
 | fork x to tos br =>
  have e:(if x=a/\to=b then (br.find? fun p=>p.1==c).map (fun p=>says x tos c++p.2) else none)=some r:=e;split at e
  ·obtain ⟨p,hp,rfl⟩:=Option.map_eq_some_iff.mp e;have h1:p.2.length<=B:=Nat.le_trans (Fq (List.mem_map.mpr ⟨p,List.mem_of_find?_eq_some hp,rfl⟩)) kd;have h2:tos.length+1<=3:=ad;rw [List.length_append];unfold says;rw [List.length_map];omega
  ·cases e
 | again x to tos u t v =>
  have e:(if x=a/\to=b then (if c=u then some (says x tos c++t++[Sh.d (.again x to tos u t v)]) else if c=v then some (says x tos c) else none) else none)=some r:=e;have h1:t.length<=B:=Nat.le_trans (Fq (List.mem_singleton.mpr rfl)) kd;have h2:tos.length+1<=3:=ad;split at e
  ·split at e
   ·cases e;rw [List.length_append,List.length_append];unfold says;rw [List.length_map];simp;omega
   ·split at e
    ·cases e;unfold says;rw [List.length_map];omega
    ·cases e
  ·cases e
theorem vU {s:Sh}{B n:Nat}(so:s.ok B) (sk:∀ x∈s.kids,Ln B n x) {a b c:Int}{r:List D}(e:s.lft a b c=some r):∀ x∈r,Ln B (n+1) x:=by
 have sy:∀ (x:Int) (l:List Int) (u:Int),(0<=x/\x < 4)->(∀ h∈l,0<=h/\h < 4)->∀ y∈says x l u,Ln B (n+1) y:=fun x l u hx hl y hy=>by
  obtain ⟨z,hz,rfl⟩:=List.mem_map.mp hy;refine ⟨.say x z u,rfl,⟨fun h hh=>?_,(by show 1<=3;decide),Nat.zero_le _,trivial⟩,fun y hy=>by cases hy⟩;have hh:h=x\/h=z:=by simpa [Sh.hands,Sh.fst,Sh.adr] using hh
  rcases hh with rfl|rfl
  ·exact hx
  ·exact hl _ hz
 have hs:=so.hs;cases s with
 | say x y z =>
  have e:(if x=a/\y=b/\z=c then some [] else none)=some r:=e;split at e
  ·cases e;exact fun x hx=>by cases hx
  ·cases e
 | fork x to tos br =>
  have e:(if x=a/\to=b then (br.find? fun p=>p.1==c).map (fun p=>says x tos c++p.2) else none)=some r:=e;split at e
  ·obtain ⟨p,hp,rfl⟩:=Option.map_eq_some_iff.mp e;intro y hy;rcases List.mem_append.mp hy with hy|hy
   ·exact sy x tos c (hs x List.mem_cons_self) (fun h hh=>hs h (List.mem_cons_of_mem _ (List.mem_cons_of_mem _ hh))) y hy
   ·exact (sk y (List.mem_flatten.mpr ⟨p.2,List.mem_map.mpr ⟨p,List.mem_of_find?_eq_some hp,rfl⟩,hy⟩)).up
  ·cases e
 | again x to tos u t v =>
  have e:(if x=a/\to=b then (if c=u then some (says x tos c++t++[Sh.d (.again x to tos u t v)]) else if c=v then some (says x tos c) else none) else none)=some r:=e;have s1:=sy x tos c (hs x List.mem_cons_self) (fun h hh=>hs h (List.mem_cons_of_mem _ (List.mem_cons_of_mem _ hh)));split at e
  ·split at e
   ·cases e;intro y hy;rcases List.mem_append.mp hy with hy|hy
    ·rcases List.mem_append.mp hy with hy|hy
     ·exact s1 y hy
     ·exact (sk y (List.mem_flatten.mpr ⟨t,List.mem_singleton.mpr rfl,hy⟩)).up
    ·rw [List.mem_singleton.mp hy];exact ⟨_,rfl,so,sk⟩
   ·split at e
    ·cases e;exact s1
    ·cases e
  ·cases e
theorem fO {B n m:Nat}{t r:List D}{a b c:Int}(T:Tk B n m t) (hm:m+B+4<=100000) (e:flw n t a b c=some r):Tk B n (m+B+4) r:=by
 unfold flw at e;split at e
 ·cases e
 ·rename_i i ei;obtain ⟨r',er,rfl⟩:=Option.map_eq_some_iff.mp e;obtain ⟨hi,_⟩:=List.findIdx?_eq_some_iff_getElem.mp ei;have eg:t.getD i .non=t[i]:=by rw [List.getD_eq_getElem?_getD,List.getElem?_eq_getElem hi];rfl
  rw [eg] at er;obtain ⟨m',s,rfl,es,so,sk⟩:=(T.ln _ (List.getElem_mem hi)).sh;rw [es,Qq] at er;refine ⟨fun x hx=>?_,?_,T.w,T.b,hm⟩
  ·rcases List.mem_append.mp hx with hx|hx
   ·rcases List.mem_append.mp hx with hx|hx
    ·exact T.ln x (List.mem_of_mem_take hx)
    ·exact vU so sk er x hx
   ·exact T.ln x (List.mem_of_mem_drop hx)
  ·have:=Qs so er;have:=T.le;rw [List.length_append,List.length_append,List.length_take,List.length_drop];omega
theorem Dg (k B n m:Nat) (t:List D) (T:Tk B n m t) (a b c:Int) (h:∀ h',Ext [] mh h'->P (oD (flw n t a b c)) h'):wV (Af (Gk (k+3)) fuel f5 [.tup t,ltr a b c] mh) P:=by
 refine Bd (zV (k+2)) oV.1 oV.2 rfl ?_;show wS (b5 (k+2)) [some (.tup t),some (ltr a b c),none,none,none] mh _;unfold b5
 walk_at "x0"
 refine Ig ?_
 walk_at "x0"
 refine ⟨_,rfl,Ez 0 t,fun i l h'=>∃ y2 y3 y4,l=[some (.tup t),some (ltr a b c),y2,y3,y4]/\Ext [] mh h'/\∀ j (hj:j < t.length),j < i->¬ nmB n a t[j]=true,⟨_,_,_,rfl,Ext.refl,fun j _ z=>absurd z (Nat.not_lt_zero _)⟩,fun _ _ _ _=>⟨rfl,rfl⟩,?_,?_⟩
 ·rintro i d l h1 ed ⟨y2,y3,y4,rfl,x1,no⟩;rw [G3] at ed;obtain ⟨x,ex,rfl⟩:=Option.map_eq_some_iff.mp ed;obtain ⟨hi,ex⟩:=List.getElem?_eq_some_iff.mp ex;have lx:Ln B n x:=T.ln x (by rw [← ex];exact List.getElem_mem hi);refine J0 rfl ?_;dsimp only [Fz,ltr]
  walk_at "x0"
  refine Ye k B n x lx T.w fun L j h2 x2 g2 iL=>?_
  walk_at "x0"
  refine cW (fM g2) ?_
  walk_at "x0"
  refine Ax (fun q=>?_) fun q=>?_
  ·have q:Nm a n x:=(iL a).mp (of_decide_eq_true q);obtain ⟨m',s,rfl,rfl,so,sk⟩:=lx.sh
   walk_at "x0"
   refine nC (k+1) s B so T.b a b c fun h3 x3=>?_
   have ef:t.findIdx? (nmB (m'+1) a)=some i:=List.findIdx?_eq_some_iff_getElem.mpr ⟨hi,by rw [ex];exact Ou.mpr q,fun j hj=>no j (by omega) hj⟩;have eg:t.getD i .non=s.d:=by rw [List.getD_eq_getElem?_getD,List.getElem?_eq_getElem hi,ex];rfl
   have e:flw (m'+1) t a b c=(s.lft a b c).map fun r=>t.take i++r++t.drop (i+1):=by
    unfold flw;rw [ef];dsimp only;rw [eg,Qq]
   rw [e] at h;cases er:s.lft a b c with
   | none =>
    rw [er] at h;dsimp only [oD]
    walk_at "x0"
    refine ⟨_,_,rfl,?_⟩
    walk_at "x0"
    exact h _ ((x1.trans x2).trans x3)
   | some r =>
    rw [er] at h;dsimp only [oD]
    walk_at "x0"
    refine ⟨_,_,rfl,?_⟩
    walk_at "x0"
    refine Df ?_;rw [show (some ((0+i:Nat):Int))=some (i:Int) from by rw [Nat.zero_add],Fp];have l1:=Qs so er;have l2:=T.le;have l3:=T.m;have l4:=T.b
    walk_at "x0"
    refine Bb (by rw [List.length_take];omega) ?_
    walk_at "x0"
    refine Df ?_;rw [show (some (((0+i:Nat):Int)+1))=some ((i+1:Nat):Int) from by rw [Nat.zero_add];rfl,Em];refine Bb (by rw [List.length_append,List.length_take,List.length_drop];omega) ?_;exact h _ ((x1.trans x2).trans x3)
  ·walk_at "x0"
   refine ⟨_,_,_,rfl,x1.trans x2,fun j hj hji=>?_⟩;rcases Nat.lt_or_ge j i with z|z
   ·exact no j hj z
   ·have:j=i:=by omega
    subst this;rw [ex];intro z;exact of_decide_eq_false q ((iL a).mpr (Ou.mp z))
 ·rintro l h1 ⟨y2,y3,y4,rfl,x1,no⟩
  walk_at "x0"
  have e:flw n t a b c=none:=by
   unfold flw;have:t.findIdx? (nmB n a)=none:=List.findIdx?_eq_none_iff.mpr fun x hx=>by
    obtain ⟨j,hj,rfl⟩:=List.getElem_of_mem hx;have:=no j hj (by rw [G4];exact hj)
    simpa using this
   rw [this]
  rw [e] at h;exact h _ x1
end
noncomputable abbrev Lt:=Int×Int×Int
noncomputable def lD (l:Lt):D:=ltr l.1 l.2.1 l.2.2
noncomputable def lf1 (n:Nat) (o:Option (List D)) (l:Lt):Option (List D):=match o with
 | none=>none
 | some t=>flw n t l.1 l.2.1 l.2.2
noncomputable def lf (n:Nat) (t:List D) (ls:List Lt):Option (List D):=ls.foldl (lf1 n) (some t)
theorem Ih (n:Nat) (t:List D) (ls:List Lt) (l:Lt):lf n t (ls++[l])=lf1 n (lf n t ls) l:=by unfold lf;rw [List.foldl_append];rfl
theorem oZ {B n m c:Nat}{t:List D}(T:Tk B n m t):∀ (ls:List Lt),m+ls.length * (B+4)<=100000->∀ {r},lf n t ls=some r->Tk B n (m+ls.length * (B+4)) r:=by
 intro ls
 induction h:ls.length generalizing ls with
 | zero =>
  intro _ r e;cases List.length_eq_zero_iff.mp h;have e:some t=some r:=e;cases e;rw [Nat.zero_mul];exact T
 | succ i ih =>
  intro hz r e;obtain ⟨ls',l,rfl⟩:∃ ls' l,ls=ls'++[l]:=by
   rcases List.eq_nil_or_concat ls with rfl|⟨a,b,rfl⟩
   ·cases h
   ·exact ⟨a,b,by simp⟩
  have hl:ls'.length=i:=by simpa using h
  rw [Nat.succ_mul] at hz ⊢;rw [Ih] at e;cases e1:lf n t ls' with
  | none=>rw [e1] at e;cases e
  | some t1 =>
   rw [e1] at e;have T1:=ih ls' hl (by omega) e1;have:=fO T1 (by omega) e;rw [Nat.add_assoc m,Nat.add_assoc] at *;exact this
section
variable {mh:MH}{P:D->MH->Prop}
theorem Gw (k B n m:Nat) (t:List D) (T:Tk B n m t) (x:D) (ls:List Lt) (hx:∃ s,srcOf x mh=some s/\∀ h,Ext [] mh h->s.ok h=true/\s.items h=ls.map lD) (hz:m+ls.length * (B+4)<=100000) (h:∀ h',Ext [] mh h'->P (oD (lf n t ls)) h'):wV (Af (Gk (k+4)) fuel f6 [.tup t,x] mh) P:=by
 refine Bd (zW (k+3)) oW.1 oW.2 rfl ?_;show wS (b6 (k+3)) [some (.tup t),some x,none] mh _;unfold b6;obtain ⟨s,es,ks⟩:=hx
 walk_at "x0"
 refine Ig ?_
 walk_at "x0"
 refine ⟨s,es,ls.map lD,fun i l h'=>∃ y2,l=[some (oD (lf n t (ls.take i))),some x,y2]/\Ext [] mh h',⟨_,rfl,Ext.refl⟩,fun i l h q=>ks h q.choose_spec.2,?_,?_⟩
 ·rintro i d l h1 ed ⟨y2,rfl,x1⟩;rw [List.getElem?_map] at ed;obtain ⟨q,eq,rfl⟩:=Option.map_eq_some_iff.mp ed;have hi:=(List.getElem?_eq_some_iff.mp eq).1;have et:ls.take (i+1)=ls.take i++[q]:=by rw [List.take_add_one,eq];rfl
  refine Ay ?_
  walk_at "x0"
  cases e1:lf n t (ls.take i) with
  | none =>
   have e2:lf n t (ls.take (i+1))=none:=by rw [et,Ih,e1];rfl
   refine ⟨_,_,rfl,?_⟩
   walk_at "x0"
   exact ⟨_,by rw [e2];rfl,x1⟩
  | some t1 =>
   have hz1:m+(ls.take i).length * (B+4)<=100000:=by
    have:(ls.take i).length<=ls.length:=by rw [List.length_take];omega
    have:=Nat.mul_le_mul_right (B+4) this;omega
   have T1:=oZ (c:=0) T (ls.take i) hz1 e1;have e2:lf n t (ls.take (i+1))=flw n t1 q.1 q.2.1 q.2.2:=by rw [et,Ih,e1];rfl
   refine ⟨_,_,rfl,?_⟩
   walk_at "x0"
   refine Dg k B n _ t1 T1 q.1 q.2.1 q.2.2 fun h2 x2=>?_
   walk_at "x0"
   exact ⟨_,by rw [e2];rfl,x1.trans x2⟩
 ·rintro l h1 ⟨y2,rfl,x1⟩;rw [List.length_map,List.take_length]
  walk_at "x0"
  exact h _ x1
end
section
variable {mh:MH}{P:D->MH->Prop}
theorem Abm {a b:Str}(ha:PyData.strOk a=true) (hb:PyData.strOk b=true) (e:(a==b)=true) (h:P (.bl false) mh):wV (neD (.str a) (.str b) mh) P:=Wa (Jh ha hb e mh) h
theorem Aaa {a b:Str}(ha:PyData.strOk a=true) (hb:PyData.strOk b=true) (e:(a==b)=false) (h:P (.bl true) mh):wV (neD (.str a) (.str b) mh) P:=Wa (Jh ha hb e mh) h
theorem Va (k B n:Nat) (s:Sh) (so:s.ok B) (sk:∀ x∈s.kids,Ln B n x) (a:Int)
    (ih:∀ {mh:MH} {P:D->MH->Prop} (d:D),Ln B n d->(∀ b h',Ext [] mh h'->(b=true ↔ Nm a n d)->P (.bl b) h')->wV (Af (Gk (k+1)) fuel f17 [d,.int a] mh) P)
    (j:Nat) (gj:mh[j]?=some (.lst (s.hands.map D.int))) (h:∀ b h',Ext [] mh h'->(b=true ↔ Nm a (n+1) s.d)->P (.bl b) h') :
    wS (Ab (ifS (Ae (dop (inD false) (vr 1) (vr 2)))
 (Ab (retS (Zr (.bl true)))
  Zn)
 Zn)
 (Ab (Cv (Cy (Al (Af (Gk (k+1)) fuel f16) (Aa (vr 0) (Zr [])))) (Ag 3)
 (Ab (Cv (Cy (vr 3)) (Ag 4)
  (Ab (ifS (Nf (Al (Af (Gk (k+1)) fuel f17) (Aa (vr 4) (Aa (vr 1) (Zr [])))))
   (Ab (retS (Zr (.bl true)))
    Zn)
   Zn)
   Zn))
  Zn))
 (Ab (retS (Zr (.bl false)))
 Zn))) [some s.d,some (.int a),some (.ref j),none,none] mh (cV P):=by
  walk_at "x0"
  refine cW (fM gj) ?_
  walk_at "x0"
  refine Ax (fun q=>?_) fun q=>?_
  · walk_at "x0"
    exact h true _ Ext.refl ⟨fun _=>Nm.iff.mpr (.inl (of_decide_eq_true q)),fun _=>rfl⟩
  · have q:=of_decide_eq_false q
    walk_at "x0"
    refine Ig ?_
    walk_at "x0"
    refine U8 k s so.ow fun i h1 hi x1 g1=>?_
    refine ⟨_,src_list g1,s.talks.map D.tup,fun i l h'=>∃ y3 y4,l=[some s.d,some (.int a),some (.ref j),y3,y4]/\Ext [] h1 h'/\∀ t∈s.talks.take i,∀ x∈t,¬ Nm a n x,⟨_,_,rfl,Ext.refl,fun t ht=>by simp at ht⟩,fun _ l h' ⟨_,_,_,x',_⟩=>Fo (x'.old _ _ (by simp) g1),?_,?_⟩
    · rintro i d l h2 ed ⟨y3,y4,rfl,x2,no⟩;rw [List.getElem?_map] at ed;obtain ⟨t,et,rfl⟩:=Option.map_eq_some_iff.mp ed;have etk:s.talks.take (i+1)=s.talks.take i++[t]:=by rw [List.take_add_one,et];rfl
      have htm:t∈s.talks:=List.mem_of_getElem? et;refine Ay ?_
      walk_at "x0"
      refine Ca t id (fun i' l h'=>∃ y4,l=[some s.d,some (.int a),some (.ref j),some (.tup t),y4]/\Ext [] h1 h'/\∀ x∈t.take i',¬ Nm a n x) ?_ ?_ ?_
      · walk_at "x0"
        exact ⟨_,rfl,by rw [List.map_id],_,rfl,x2,fun x hx=>by simp at hx⟩
      · rintro i' x l h3 ex ⟨y4,rfl,x3,no'⟩;have hxm:x∈s.kids:=List.mem_flatten.mpr ⟨t,htm,List.mem_of_getElem? ex⟩;have etk':t.take (i'+1)=t.take i'++[x]:=by rw [List.take_add_one,ex];rfl
        refine Ay ?_
        walk_at "x0"
        refine ih x (sk x hxm) fun b h4 x4 ib=>?_
        walk_at "x0"
        refine Ax (fun z=>?_) fun z=>?_
        · walk_at "x0"
          exact h true _ ((x1.trans x3).trans x4) ⟨fun _=>Nm.iff.mpr (.inr ⟨x,hxm,ib.mp z⟩),fun _=>rfl⟩
        · walk_at "x0"
          refine ⟨_,rfl,x3.trans x4,fun y hy=>?_⟩;rw [etk'] at hy;rcases List.mem_append.mp hy with hy|hy
          · exact no' y hy
          · rw [List.mem_singleton.mp hy];intro w;rw [ib.mpr w] at z;cases z
      · rintro l h3 ⟨y4,rfl,x3,no'⟩;rw [List.take_length] at no'
        walk_at "x0"
        refine ⟨_,_,rfl,x3,fun u hu=>?_⟩;rw [etk] at hu;rcases List.mem_append.mp hu with hu|hu
        · exact no u hu
        · rw [List.mem_singleton.mp hu];exact no'
    · rintro l h2 ⟨y3,y4,rfl,x2,no⟩;rw [List.length_map,List.take_length] at no
      walk_at "x0"
      refine h false _ (x1.trans x2) ⟨(by intro z;cases z),fun z=>?_⟩;rcases Nm.iff.mp z with w|⟨x,hx,w⟩
      · exact absurd w q
      · obtain ⟨t,ht,hxt⟩:=List.mem_flatten.mp hx;exact absurd w (no t ht x hxt)
theorem Ov (k B:Nat) (a:Int):∀ (n:Nat) {mh:MH}{P:D->MH->Prop}(d:D),Ln B n d->(∀ b h',Ext [] mh h'->(b=true ↔ Nm a n d)->P (.bl b) h')->wV (Af (Gk (k+n+1)) fuel f17 [d,.int a] mh) P
 | 0,_,_,_,h,_=>h.elim
 | n+1,mh,P,d,hd,h=>by
  obtain ⟨s,rfl,so,sk⟩:=hd;refine Bd (vB (k+n+1)) dO.1 dO.2 rfl ?_;show wS (b17 (k+n+1)) [some s.d,some (.int a),none,none,none] mh _;unfold b17;have rest:∀ (h1:MH) (j:Nat),Ext [] mh h1->h1[j]?=some (.lst (s.hands.map D.int))->wS _ [some s.d,some (.int a),some (.ref j),none,none] h1 (cV P):=fun h1 j x1 g1=>Va (k+n) B n s so sk a (fun d hd q=>Ov k B a n d hd q) j g1 fun b h' x' i=>h b h' (x1.trans x') i
  cases s with
  | say x y z =>
   dsimp only [Sh.d,Bx] at rest ⊢
   walk_at "x0"
   refine Abm (by kernel_rfl) (by kernel_rfl) (by decide +kernel) ?_;refine ⟨_,rfl,Ql (Ie (Bp ?_))⟩;exact rest _ _ Ext.more Ak
  | fork x to tos br =>
   have sd:Sh.d (.fork x to tos br)=.tup [.str "fork",.int x,itD (to::tos),.tup (br.map brD)]:=rfl;rw [sd] at rest ⊢
   walk_at "x0"
   refine Aaa (by kernel_rfl) (by kernel_rfl) (by decide +kernel) ?_
   walk_at "x0"
   refine J2 (ds:=(to::tos).map D.int) rfl ?_;refine Ks (Ext.more.old (W:=[]) _ _ (by simp) Ak) Ak (by have:=so.ad;simp [Sh.adr] at this;simp;omega) ?_;refine Ay (Bp (Ie (Bp ?_)));exact rest _ _ (((Ext.more.trans Ext.more).trans Ext.more).trans Ext.more) Ak
  | again x to tos u t v =>
   have sd:Sh.d (.again x to tos u t v)=.tup [.str "again",.int x,itD (to::tos),.int u,.tup t,.int v]:=rfl;rw [sd] at rest ⊢
   walk_at "x0"
   refine Aaa (by kernel_rfl) (by kernel_rfl) (by decide +kernel) ?_
   walk_at "x0"
   refine J2 (ds:=(to::tos).map D.int) rfl ?_;refine Ks (Ext.more.old (W:=[]) _ _ (by simp) Ak) Ak (by have:=so.ad;simp [Sh.adr] at this;simp;omega) ?_;refine Ay (Bp (Ie (Bp ?_)));exact rest _ _ (((Ext.more.trans Ext.more).trans Ext.more).trans Ext.more) Ak
end
noncomputable def kI (l:List Int):PyData:=.tuple (l.map PyData.int)
theorem S9:∀ xs:List Int,Bv (xs.map PyData.int)=true
 | []=>by simp [Bv]
 | a::r=>by rw [List.map_cons,Bv,S9 r];simp [kCl]
theorem Mz (l:List Int):kD (itD l)=some (kI l):=by
 have e:py [] 8 (itD l)=some (.tuple (l.map PyData.int)):=by
  show (match Bm (py [] 7) (l.map D.int) with | some xs=>some (PyData.tuple xs) | none=>none)=_;rw [Fj]
 unfold kD;rw [e];dsimp only;rw [if_pos (by rw [kCl];exact S9 l)];rfl
theorem fP {a b:List Int}(h:kI a=kI b):a=b:=by
 unfold kI at h;injection h with h
 exact (List.map_inj_right fun x y e=>by injection e).mp h
theorem vV (l:List Int):toD (kI l)=itD l:=by
 unfold kI;rw [toD,Jv];rfl
theorem Yg {l:List (PyData×D)}{k:PyData}(h:∀ e∈l,e.1≠k):Gj l k=none:=by
 induction l with
 | nil=>rfl
 | cons a r ih=>rw [Js,if_neg (h a List.mem_cons_self)];exact ih fun e he=>h e (List.mem_cons_of_mem _ he)
noncomputable def Dst (h:MH) (j:Nat) (l:List (PyData×D)):Prop:=(l=[]/\h[j]?=some (.dct []))\/h[j]?=some (.dtk l)
theorem Dst.ext {h h':MH}{j:Nat}{l:List (PyData×D)}(d:Dst h j l) (x:Ext [] h h'):Dst h' j l:=by
 rcases d with ⟨e,d⟩|d
 ·exact .inl ⟨e,x.old _ _ (by simp) d⟩
 ·exact .inr (x.old _ _ (by simp) d)
noncomputable abbrev Wy:=List Int×List D
noncomputable def wE (w:Wy):PyData×D:=(kI w.1,.tup w.2)
theorem vW {l:List Wy}{k:List Int}(h:∀ e∈l,e.1≠k):∀ e∈l.map wE,e.1≠kI k:=fun e he z=>by
 obtain ⟨w,hw,rfl⟩:=List.mem_map.mp he;exact h w hw (fP z)
theorem Qt (l:List Wy) (k:List Int):Gj (l.map wE) (kI k)=((l.find? fun w=>w.1==k).map fun w=>D.tup w.2):=by
 induction l with
 | nil=>rfl
 | cons a r ih =>
  rw [List.map_cons,Js,List.find?_cons]
  by_cases e:a.1=k
  ·rw [if_pos (by show kI a.1=kI k;rw [e]),e,beq_self_eq_true];rfl
  ·rw [if_neg (show ¬ (wE a).1=kI k from fun z=>e (fP z)),beq_eq_false_iff_ne.mpr e];exact ih
section
variable {mh:MH}{P:D->MH->Prop}
theorem Kw {loc:DL.Loc}{mo mi:DM D}{t:List D}{R:DL.Loc->MH->Prop}(h:wD mo loc mh fun o h1=>wD mi loc h1 fun i h2=>∃ n k l,o=.ref n/\i=itD k/\Dst h2 n (l.map wE)/\l.length < 1000000/\(∀ e∈l,e.1≠k)/\R loc (h2.set n (.dtk ((l++[(k,t)]).map wE)))):wG (Cj mo mi (.tup t) loc mh) R:=by
 obtain ⟨o,h1,e1,i,h2,e2,n,k,l,rfl,rfl,d,hl,hk,r⟩:=h;rw [List.map_append] at r;refine ⟨loc,_,?_,r⟩;have ek:=Mz k;have kn:Nh (itD k)=none:=rfl;rcases d with ⟨e0,d⟩|d
 ·have e6:Fb (.ref n) (itD k) (.tup t) h2=none:=by unfold Fb;simp only [d];rfl
  unfold Cj Ju;rw [e1];dsimp only;rw [e2];dsimp only;rw [e6];dsimp only;rw [e0];simp only [Hw,d,kn,ek];rfl
 ·have e6:Fb (.ref n) (itD k) (.tup t) h2=none:=by unfold Fb;simp only [d];rfl
  unfold Cj Ju;rw [e1];dsimp only;rw [e2];dsimp only;rw [e6];dsimp only;have ep:Xw (l.map wE) (kI k) (.tup t)=l.map wE++[(kI k,.tup t)]:=by
   unfold Xw;rw [Yg (vW hk),if_neg (by decide)]
  simp only [Hw,d,ek,List.length_map,if_pos hl,ep];rfl
theorem fQ {loc:DL.Loc}{mk mv:DM D}(h:wD mk loc (mh++[.dct []]) fun k m1=>wD mv loc m1 fun v m2=>∃ l,k=itD l/\m2[mh.length]?=some (.dct [])/\P (.ref mh.length) (m2.set mh.length (.dtk [(kI l,v)]))):wD (Jx mk mv) loc mh P:=by
 obtain ⟨k,m1,e1,v,m2,e2,l,rfl,e3,p⟩:=h;refine ⟨_,_,?_,p⟩;have kn:Nh (itD l)=none:=rfl;unfold Jx;rw [e1];dsimp only;rw [e2];dsimp only;rw [e3];dsimp only;simp only [Hw,e3,kn,Mz l]
theorem M4 (k:Nat) (s:Sh) (to c:Int) (tos:List Int) (hz:tos.length<=1000) (hs:∃ w r,s.d=.tup (.str w::.int s.fst::itD (to::tos)::r)) (h:P (.tup (says s.fst tos c)) mh):wV (Af (Gk (k+1)) fuel f18 [s.d,.int c] mh) P:=by
 obtain ⟨w,r,e⟩:=hs;refine Bd (vC k) dR.1 dR.2 rfl ?_;show wS (b18 k) [some s.d,some (.int c),none,none] mh _;unfold b18;rw [e]
 walk_at "x0"
 refine Ca tos D.int (fun i l h'=>∃ y3,l=[some (.tup (.str w::.int s.fst::itD (to::tos)::r)),some (.int c),some (.tup (says s.fst (tos.take i) c)),y3]/\h'=mh) ?_ ?_ ?_
 ·walk_at "x0"
  refine U9 ?_;exact ⟨_,rfl,rfl,_,rfl,rfl⟩
 ·rintro i x l h1 ex ⟨y3,rfl,rfl⟩;have et:tos.take (i+1)=tos.take i++[x]:=by rw [List.take_add_one,ex];rfl
  refine Ay ?_
  walk_at "x0"
  refine Bb (by unfold says;rw [List.length_map,List.length_take];simp;omega) ?_
  walk_at "x0"
  refine ⟨some (.int x),?_,rfl⟩;rw [et];unfold says;rw [List.map_append];rfl
 ·rintro l h1 ⟨y3,rfl,rfl⟩;rw [List.take_length]
  walk_at "x0"
  exact h
end
noncomputable def Sh.ways:Sh->List Wy
 | .say _ b c=>[([b,c],[])]
 | .fork a to tos br=>br.map fun p=>([to,p.1],says a tos p.1++p.2)
 | .again a to tos x t y=>[([to,x],says a tos x++t++[Sh.d (.again a to tos x t y)]),([to,y],says a tos y)]
theorem Tc {B:Nat}{s:Sh}(so:s.ok B) (a b c:Int):s.lft a b c=if s.fst=a then (s.ways.find? fun w=>w.1==[b,c]).map (·.2) else none:=by
 have two:∀ {x y b c:Int},([x,y]==[b,c])=decide (x=b/\y=c):=fun {x y b c}=>by
  rw [Bool.eq_iff_iff,beq_iff_eq,decide_eq_true_iff];simp
 cases s with
 | say x y z =>
  show (if x=a/\y=b/\z=c then some [] else none)=if x=a then _ else _
  by_cases h1:x=a
  ·rw [if_pos h1];show _=(List.find? (fun w:Wy=>w.1==[b,c]) [([y,z],[])]).map _;rw [List.find?_cons,two]
   by_cases h2:y=b/\z=c
   ·rw [if_pos ⟨h1,h2⟩,decide_eq_true h2];rfl
   ·rw [if_neg fun z=>h2 z.2,decide_eq_false h2];rfl
  ·rw [if_neg h1,if_neg fun z=>h1 z.1]
 | fork x to tos br =>
  show (if x=a/\to=b then (br.find? fun p=>p.1==c).map (fun p=>says x tos c++p.2) else none)=if x=a then _ else _
  by_cases h1:x=a
  ·rw [if_pos h1];show _=((br.map fun p=>(([to,p.1],says x tos p.1++p.2):Wy)).find? _).map _;rw [List.find?_map]
   by_cases h2:to=b
   ·rw [if_pos ⟨h1,h2⟩];have e:((fun w:Wy=>w.1==[b,c]) ∘ fun p:Int×List D=>(([to,p.1],says x tos p.1++p.2):Wy))=fun p=>p.1==c:=by
     funext p;show ([to,p.1]==[b,c])=_;rw [two,Bool.eq_iff_iff,decide_eq_true_iff,beq_iff_eq];exact ⟨fun z=>z.2,fun z=>⟨h2,z⟩⟩
    rw [e];cases ef:br.find? fun p=>p.1==c with
    | none=>rfl
    | some p =>
     have:=List.find?_some ef;have:p.1=c:=eq_of_beq this;subst this;rfl
   ·rw [if_neg fun z=>h2 z.2];have e:(br.find? ((fun w:Wy=>w.1==[b,c]) ∘ fun p:Int×List D=>(([to,p.1],says x tos p.1++p.2):Wy)))=none:=List.find?_eq_none.mpr fun p _=>by
     show ¬ ([to,p.1]==[b,c])=true;rw [two,decide_eq_true_iff];exact fun z=>h2 z.1
    rw [e];rfl
  ·rw [if_neg h1,if_neg fun z=>h1 z.1]
 | again x to tos u t v =>
  show (if x=a/\to=b then (if c=u then some (says x tos c++t++[Sh.d (.again x to tos u t v)]) else if c=v then some (says x tos c) else none) else none)=if x=a then _ else _
  by_cases h1:x=a
  ·rw [if_pos h1];show _=(List.find? (fun w:Wy=>w.1==[b,c]) [([to,u],says x tos u++t++[Sh.d (.again x to tos u t v)]),([to,v],says x tos v)]).map _;rw [List.find?_cons,List.find?_cons,two,two]
   by_cases h2:to=b
   ·rw [if_pos ⟨h1,h2⟩]
    by_cases h3:c=u
    ·rw [if_pos h3,decide_eq_true ⟨h2,h3.symm⟩,h3];rfl
    ·rw [if_neg h3,decide_eq_false fun z=>h3 z.2.symm]
     by_cases h4:c=v
     ·rw [if_pos h4,decide_eq_true ⟨h2,h4.symm⟩,h4];rfl
     ·rw [if_neg h4,decide_eq_false fun z=>h4 z.2.symm];rfl
   ·rw [if_neg fun z=>h2 z.2,decide_eq_false fun z=>h2 z.1,decide_eq_false fun z=>h2 z.1];rfl
  ·rw [if_neg h1,if_neg fun z=>h1 z.1]
section
variable {mh:MH}{P:D->MH->Prop}
theorem Dst.new {h:MH}:Dst (h++[.dct []]) h.length ([]:List (PyData×D)):=.inl ⟨rfl,Ak⟩
theorem Dst.set {h:MH}{j:Nat}{l l':List (PyData×D)}(d:Dst h j l):Dst (h.set j (.dtk l')) j l':=by
 rcases d with ⟨_,d⟩|d
 ·exact .inr (Ew d)
 ·exact .inr (Ew d)
theorem fU (k:Nat) (s:Sh) (B:Nat) (so:s.ok B) (hB:B<=1000) (h:∀ j h',Ext [] mh h'->mh.length<=j->h'[j]?=some (.dtk (s.ways.map wE))->P (.ref j) h'):wV (Af (Gk (k+2)) fuel f19 [s.d] mh) P:=by
 refine Bd (vD (k+1)) dU.1 dU.2 rfl ?_;show wS (b19 (k+1)) [some s.d,none,none,none,none] mh _;unfold b19;cases s with
 | say a b c =>
  dsimp only [Sh.d,Bx]
  walk_at "x0"
  refine fQ ?_
  walk_at "x0"
  refine ⟨[b,c],rfl,Ak,?_⟩
  walk_at "x0"
  refine h _ _ (Ext.more.setNew (Nat.le_refl _)) (Nat.le_refl _) ?_;exact Ew Ak
 | fork a to tos br =>
  have tl:tos.length<=1000:=by have:=so.ad;simp [Sh.adr] at this;omega
  have sd:Sh.d (.fork a to tos br)=.tup [.str "fork",.int a,itD (to::tos),.tup (br.map brD)]:=rfl
  have oth:∀ {m:MH} {Q:D->MH->Prop} (c:Int),Q (.tup (says a tos c)) m->wV (Af (Gk (k+1)) fuel f18 [.tup [.str "fork",.int a,itD (to::tos),.tup (br.map brD)],.int c] m) Q:=fun c q=>M4 k (.fork a to tos br) to c tos tl ⟨_,_,rfl⟩ q
  rw [sd]
  walk_at "x0"
  refine Je ?_
  walk_at "x0"
  refine Kv ?_
  walk_at "x0"
  refine Ca br brD (fun i l h'=>∃ y3 y4,l=[some (.tup [.str "fork",.int a,itD (to::tos),.tup (br.map brD)]),some (.ref mh.length),some (.int to),y3,y4]/\Ext [] mh h'/\Dst h' mh.length (((br.take i).map fun p=>(([to,p.1],says a tos p.1++p.2):Wy)).map wE)) ?_ ?_ ?_
  ·walk_at "x0"
   exact ⟨_,rfl,rfl,_,_,rfl,Ext.more,Dst.new⟩
  ·rintro i p l h1 ep ⟨y3,y4,rfl,x1,d1⟩;have et:br.take (i+1)=br.take i++[p]:=by rw [List.take_add_one,ep];rfl
   have hp:p∈br:=List.mem_of_getElem? ep;have kp:p.2.length<=1000:=Nat.le_trans (Fq (List.mem_map.mpr ⟨p,hp,rfl⟩)) (Nat.le_trans so.kd hB);refine J0 rfl (Gv (Mu ?_));dsimp only [Fz]
   walk_at "x0"
   refine oth _ ?_
   walk_at "x0"
   refine Bb (by unfold says;rw [List.length_map];omega) ?_;refine Kw ?_
   walk_at "x0"
   refine ⟨_,[to,p.1],_,rfl,rfl,d1,?_,?_,?_⟩
   ·rw [List.length_map,List.length_take];have:=so.ow.1;omega
   ·intro e he z;obtain ⟨q,hq,rfl⟩:=List.mem_map.mp he;have z:[to,q.1]=[to,p.1]:=z;injection z with _ z
    injection z with z _
    have nd:=so.ow.2.2;obtain ⟨j,hj,ej⟩:=List.getElem_of_mem hq;rw [List.length_take] at hj;rw [List.getElem_take] at ej;have e1:(br.map (·.1))[j]?=some q.1:=by rw [List.getElem?_map,List.getElem?_eq_getElem (show j < br.length by omega),ej];rfl
    have e2:(br.map (·.1))[i]?=some p.1:=by rw [List.getElem?_map,ep];rfl
    rw [z,← e2] at e1;have:=(List.getElem?_inj (by rw [List.length_map];omega) nd).mp e1;omega
   ·walk_at "x0"
    refine ⟨_,_,rfl,x1.setNew (Nat.le_refl _),?_⟩;have e:((br.take (i+1)).map fun p=>(([to,p.1],says a tos p.1++p.2):Wy))=((br.take i).map fun p=>(([to,p.1],says a tos p.1++p.2):Wy))++[([to,p.1],says a tos p.1++p.2)]:=by rw [et,List.map_append];rfl
    rw [e];exact d1.set
  ·rintro l h1 ⟨y3,y4,rfl,x1,d1⟩;rw [List.take_length] at d1
   walk_at "x0"
   refine h _ _ x1 (Nat.le_refl _) ?_;rcases d1 with ⟨e,_⟩|d1
   ·have:br=[]:=by simpa using e
    exact absurd this so.ow.2.1
   ·exact d1
 | again a to tos x t y =>
  have tl:tos.length<=1000:=by have:=so.ad;simp [Sh.adr] at this;omega
  have tk:t.length<=1000:=Nat.le_trans (Fq (List.mem_singleton.mpr rfl)) (Nat.le_trans so.kd hB)
  have sd:Sh.d (.again a to tos x t y)=.tup [.str "again",.int a,itD (to::tos),.int x,.tup t,.int y]:=rfl
  have oth:∀ {m:MH} {Q:D->MH->Prop} (c:Int),Q (.tup (says a tos c)) m->wV (Af (Gk (k+1)) fuel f18 [.tup [.str "again",.int a,itD (to::tos),.int x,.tup t,.int y],.int c] m) Q:=fun c q=>M4 k (.again a to tos x t y) to c tos tl ⟨_,_,rfl⟩ q
  rw [sd]
  walk_at "x0"
  refine Je ?_
  walk_at "x0"
  refine Kv ?_
  walk_at "x0"
  refine oth _ ?_
  walk_at "x0"
  refine Bb (by unfold says;rw [List.length_map];omega) ?_;refine cP ?_
  walk_at "x0"
  refine Bb (by unfold says;rw [List.length_append,List.length_map];simp;omega) ?_;refine Kw ?_
  walk_at "x0"
  refine ⟨_,[to,x],[],rfl,rfl,Dst.new,by simp,fun e he=>(by cases he),?_⟩;have d1:Dst ((mh++[MO.dct []]).set mh.length (.dtk (([]++[([to,x],says a tos x++t++[Sh.d (.again a to tos x t y)])]:List Wy).map wE))) mh.length (([([to,x],says a tos x++t++[Sh.d (.again a to tos x t y)])]:List Wy).map wE):=Dst.set Dst.new;have x1:Ext [] mh ((mh++[MO.dct []]).set mh.length (.dtk (([]++[([to,x],says a tos x++t++[Sh.d (.again a to tos x t y)])]:List Wy).map wE))):=Ext.more.setNew (Nat.le_refl _);rw [sd] at d1 x1
  generalize (mh++[MO.dct []]).set mh.length (.dtk (([]++[([to,x],says a tos x++t++[D.tup [.str "again",.int a,itD (to::tos),.int x,.tup t,.int y]])]:List Wy).map wE))=h1 at d1 x1 ⊢;refine Bp (Gv (Mu ?_))
  walk_at "x0"
  refine oth _ ?_;refine Kw ?_
  walk_at "x0"
  refine ⟨_,[to,y],_,rfl,rfl,d1,by simp,fun e he z=>?_,?_⟩
  ·rw [List.mem_singleton.mp he] at z;have z:[to,x]=[to,y]:=z;injection z with _ z
   injection z with z _
   exact so.ow z
  ·walk_at "x0"
   refine h _ _ (x1.setNew (Nat.le_refl _)) (Nat.le_refl _) ?_
   have:=d1.set (l':=(([([to,x],says a tos x++t++[D.tup [.str "again",.int a,itD (to::tos),.int x,.tup t,.int y]])]++[([to,y],says a tos y)]:List Wy)).map wE);rcases this with ⟨e,_⟩|q
   ·cases e
   ·exact q
end
open Classical in
noncomputable def shD (d:D):Option Sh:=if h:∃ s:Sh,d=s.d then some (Classical.choose h) else none
theorem Wg (s:Sh):shD s.d=some s:=by
 have h:∃ t:Sh,s.d=t.d:=⟨s,rfl⟩;unfold shD;rw [dif_pos h,← U4 (Classical.choose_spec h)]
noncomputable def Jm (n:Nat) (t:List D) (a:Int):List Wy:=match t.findIdx? (nmB n a) with
 | none=>[]
 | some i=>match shD (t.getD i .non) with
  | none=>[]
  | some s=>if s.fst=a then s.ways.map fun w=>(a::w.1,t.take i++(w.2++t.drop (i+1))) else []
noncomputable def J3 (n:Nat) (t:List D) (k:Nat):List Wy:=(List.range k).flatMap fun a:Nat=>Jm n t (a:Int)
noncomputable def due (n:Nat) (t:List D):List Wy:=J3 n t 4
theorem Ft (n:Nat) (t:List D) (k:Nat):J3 n t (k+1)=J3 n t k++Jm n t k:=by
 unfold J3;rw [List.range_succ,List.flatMap_append];simp
theorem Ow {n:Nat}{t:List D}{a:Int}{w:Wy}(h:w∈Jm n t a):∃ r,w.1=a::r:=by
 unfold Jm at h;split at h
 ·cases h
 ·split at h
  ·cases h
  ·split at h
   ·obtain ⟨v,_,rfl⟩:=List.mem_map.mp h;exact ⟨_,rfl⟩
   ·cases h
theorem Ox {n:Nat}{t:List D}{k:Nat}{w:Wy}(h:w∈J3 n t k):∃ (a:Nat) (r:List Int),a < k/\w.1=(a:Int)::r:=by
 obtain ⟨a,ha,hw⟩:=List.mem_flatMap.mp h;obtain ⟨r,e⟩:=Ow hw;exact ⟨a,r,List.mem_range.mp ha,e⟩
theorem Yh {B n m:Nat}{t:List D}(T:Tk B n m t) (a b c:Int):((Jm n t a).find? fun w=>w.1==[a,b,c]).map (·.2)=flw n t a b c:=by
 unfold Jm flw;cases ei:t.findIdx? (nmB n a) with
 | none=>rfl
 | some i =>
  dsimp only;obtain ⟨hi,_⟩:=List.findIdx?_eq_some_iff_getElem.mp ei;have eg:t.getD i .non=t[i]:=by rw [List.getD_eq_getElem?_getD,List.getElem?_eq_getElem hi];rfl
  obtain ⟨m',s,rfl,es,so,sk⟩:=(T.ln _ (List.getElem_mem hi)).sh;rw [eg,es,Wg,Qq,Tc so];dsimp only
  by_cases q:s.fst=a
  ·rw [if_pos q,if_pos q,List.find?_map];have e:((fun w:Wy=>w.1==[a,b,c]) ∘ fun w:Wy=>((a::w.1,t.take i++(w.2++t.drop (i+1))):Wy))=fun w=>w.1==[b,c]:=by
    funext w;show (a::w.1==[a,b,c])=_;rw [Bool.eq_iff_iff,beq_iff_eq,beq_iff_eq];simp
   rw [e];cases s.ways.find? fun w=>w.1==[b,c] with
   | none=>rfl
   | some w =>
    show some (t.take i++(w.2++t.drop (i+1)))=some (t.take i++w.2++t.drop (i+1));rw [List.append_assoc]
  ·rw [if_neg q,if_neg q];rfl
theorem fV {α:Type}(p:α->Bool) (l r:List α) (h:∀ x∈l,p x=false):(l++r).find? p=r.find? p:=by
 rw [List.find?_append,List.find?_eq_none.mpr fun x hx=>by rw [h x hx];decide];rfl
theorem Oz {B n m:Nat}{t:List D}(T:Tk B n m t) (b c:Int):∀ (k a:Nat),a < k->((J3 n t k).find? fun w=>w.1==[(a:Int),b,c]).map (·.2)=flw n t a b c
 | 0,a,h=>absurd h (Nat.not_lt_zero _)
 | k+1,a,h=>by
  rw [Ft]
  by_cases e:a=k
  ·subst e;rw [fV,Yh T];intro w hw;obtain ⟨a',r,ha',e'⟩:=Ox hw;rw [beq_eq_false_iff_ne,e'];intro z;injection z with z _
   omega
  ·have ih:=Oz T b c k a (by omega);rw [List.find?_append];cases hf:(J3 n t k).find? fun w=>w.1==[(a:Int),b,c] with
   | some w=>rw [hf] at ih;exact ih
   | none =>
    rw [hf] at ih;rw [← ih];have:(Jm n t k).find? (fun w=>w.1==[(a:Int),b,c])=none:=List.find?_eq_none.mpr fun w hw=>by
     obtain ⟨r,e'⟩:=Ow hw;rw [beq_iff_eq,e'];intro z;injection z with z _
     omega
    rw [this];rfl
theorem M5 {B n m:Nat}{t:List D}(T:Tk B n m t) {a:Nat}(ha:a < 4) (b c:Int):((due n t).find? fun w=>w.1==[(a:Int),b,c]).map (·.2)=flw n t a b c:=Oz T b c 4 a ha
theorem Wh {B:Nat}{s:Sh}(so:s.ok B):s.ways.length<=5:=by
 cases s with
 | say a b c=>show 1<=5;decide
 | fork a to tos br=>show (br.map _).length<=5;rw [List.length_map];exact so.ow.1
 | again a to tos x t y=>show 2<=5;decide
theorem Wi {B:Nat}{s:Sh}(so:s.ok B):(s.ways.map (·.1)).Nodup:=by
 cases s with
 | say a b c=>exact List.pairwise_singleton _ _
 | fork a to tos br =>
  show ((br.map fun p=>(([to,p.1],says a tos p.1++p.2):Wy)).map (·.1)).Nodup;have e:((br.map fun p=>(([to,p.1],says a tos p.1++p.2):Wy)).map (·.1))=(br.map (·.1)).map fun c=>[to,c]:=by rw [List.map_map,List.map_map];rfl
  rw [e];exact Oq so.ow.2.2 fun x _ y _ z=>by
   injection z with _ z
   injection z
 | again a to tos x t y =>
  show ([[to,x],[to,y]]:List (List Int)).Nodup;have:=so.ow;refine List.nodup_cons.mpr ⟨fun z=>?_,List.pairwise_singleton _ _⟩;have z:=List.mem_singleton.mp z;injection z with _ z
  injection z with z _
  exact this z
theorem Wj {B n:Nat}{s:Sh}(so:s.ok B) (sk:∀ x∈s.kids,Ln B n x) {w:Wy}(hw:w∈s.ways):w.2.length<=B+4/\∃ b c,w.1=[b,c]:=by
 have two:∃ b c,w.1=[b,c]:=by
  cases s with
  | say a b c=>rw [List.mem_singleton.mp hw];exact ⟨_,_,rfl⟩
  | fork a to tos br=>obtain ⟨p,_,rfl⟩:=List.mem_map.mp hw;exact ⟨_,_,rfl⟩
  | again a to tos x t y =>
   rcases List.mem_cons.mp hw with rfl|hw
   ·exact ⟨_,_,rfl⟩
   ·rw [List.mem_singleton.mp hw];exact ⟨_,_,rfl⟩
 refine ⟨?_,two⟩;obtain ⟨b,c,e⟩:=two;have nd:=Wi so;have:s.lft s.fst b c=some w.2:=by
  rw [Tc so,if_pos rfl];have:s.ways.find? (fun v=>v.1==[b,c])=some w:=by
   rw [← e]
   clear e
   generalize s.ways=l at hw nd
   induction l with
   | nil=>cases hw
   | cons v r ih =>
    rw [List.map_cons,List.nodup_cons] at nd;rw [List.find?_cons];rcases List.mem_cons.mp hw with rfl|hw
    ·rw [beq_self_eq_true]
    ·have:v.1≠w.1:=fun z=>nd.1 (by rw [z];exact List.mem_map.mpr ⟨w,hw,rfl⟩)
     rw [beq_eq_false_iff_ne.mpr this];exact ih hw nd.2
  rw [this];rfl
 exact Qs so this
section
variable {mh:MH}{P:D->MH->Prop}
noncomputable def iD:Option Nat->D
 | none=>.non
 | some i=>.int i
theorem Du {m:Nat}(h:m<=1000000):Gr [.int m]=some (.seq ((List.range m).map Ao)):=by rw [cI h,U3]
theorem Yi (k B n m:Nat) (t:List D) (T:Tk B n m t) (a:Int) (h:∀ h',Ext [] mh h'->P (iD (t.findIdx? (nmB n a))) h'):wV (Af (Gk (k+n+2)) fuel f20 [.tup t,.int a] mh) P:=by
 have lt:t.length<=100000:=Nat.le_trans T.le T.m;refine Bd (vG (k+n+1)) dW.1 dW.2 rfl ?_;show wS (b20 (k+n+1)) [some (.tup t),some (.int a),none] mh _;unfold b20
 walk_at "x0"
 refine Ca (List.range t.length) Ao (fun i l h'=>∃ y2,l=[some (.tup t),some (.int a),y2]/\Ext [] mh h'/\∀ j (hj:j < t.length),j < i->¬ nmB n a t[j]=true) ?_ ?_ ?_
 ·walk_at "x0"
  refine Ge (by intro z z';cases z') rfl ?_
  walk_at "x0"
  exact ⟨_,Du (by omega),rfl,_,rfl,Ext.refl,fun j _ z=>absurd z (Nat.not_lt_zero _)⟩
 ·rintro i x l h1 ex ⟨y2,rfl,x1,no⟩;have hi:i < t.length:=by have:=(List.getElem?_eq_some_iff.mp ex).1;rw [List.length_range] at this;exact this
  have ex:x=i:=by rw [List.getElem?_range hi] at ex;cases ex;rfl
  subst ex;refine Ay ?_
  walk_at "x0"
  refine Ek (j:=x) (List.getElem?_eq_getElem hi) ?_
  walk_at "x0"
  refine Ov k B a n _ (T.ln _ (List.getElem_mem hi)) fun b h2 x2 ib=>?_
  walk_at "x0"
  refine Ax (fun z=>?_) fun z=>?_
  ·walk_at "x0"
   have ef:t.findIdx? (nmB n a)=some x:=List.findIdx?_eq_some_iff_getElem.mpr ⟨hi,Ou.mpr (ib.mp z),fun j hj=>no j (by omega) hj⟩;rw [ef] at h;exact h _ (x1.trans x2)
  ·walk_at "x0"
   refine ⟨_,rfl,x1.trans x2,fun j hj hji=>?_⟩;rcases Nat.lt_or_ge j x with w|w
   ·exact no j hj w
   ·have:j=x:=by omega
    subst this;intro w;rw [ib.mpr (Ou.mp w)] at z;cases z
 ·rintro l h1 ⟨y2,rfl,x1,no⟩;rw [List.length_range] at no
  walk_at "x0"
  have:t.findIdx? (nmB n a)=none:=List.findIdx?_eq_none_iff.mpr fun x hx=>by
   obtain ⟨j,hj,rfl⟩:=List.getElem_of_mem hx;have:=no j hj hj
   simpa using this
  rw [this] at h;exact h _ x1
end
theorem nD {B n m:Nat}{t:List D}(T:Tk B n m t) (a:Int):(Jm n t a).length<=5:=by
 unfold Jm;cases ei:t.findIdx? (nmB n a) with
 | none=>simp
 | some i =>
  dsimp only;obtain ⟨hi,_⟩:=List.findIdx?_eq_some_iff_getElem.mp ei;have eg:t.getD i .non=t[i]:=by rw [List.getD_eq_getElem?_getD,List.getElem?_eq_getElem hi];rfl
  obtain ⟨m',s,rfl,es,so,sk⟩:=(T.ln _ (List.getElem_mem hi)).sh;rw [eg,es,Wg];dsimp only;split
  ·rw [List.length_map];exact Wh so
  ·simp
theorem Qu {B n m:Nat}{t:List D}(T:Tk B n m t):∀ k,(J3 n t k).length<=k * 5
 | 0=>by simp [J3]
 | k+1=>by
  rw [Ft,List.length_append,Nat.succ_mul];have:=Qu T k;have:=nD T (k:Int);omega
section
variable {mh:MH}{P:D->MH->Prop}
theorem fW {loc:DL.Loc}{mo:DM D}{R:Src->MH->Prop}(h:wD mo loc mh fun x h1=>∃ n kvs,x=.ref n/\h1[n]?=some (.dtk kvs)/\R (.seq (kvs.map fun p=>.tup [toD p.1,p.2])) (h1.set n .fzd)):wD (Jw mo) loc mh R:=by
 obtain ⟨x,h1,e1,n,kvs,rfl,e2,r⟩:=h;refine ⟨_,_,?_,r⟩;unfold Jw DM.bnd;rw [e1];dsimp only;rw [e2]
theorem fX (l:List Wy):((l.map wE).map fun p:PyData×D=>D.tup [toD p.1,p.2])=l.map fun w=>D.tup [itD w.1,.tup w.2]:=by
 rw [List.map_map];refine List.map_congr_left fun w _=>?_
 show D.tup [toD (kI w.1),.tup w.2]=_;rw [vV]
theorem Dst.far {h:MH}{i j:Nat}{l:List (PyData×D)}{o:MO}(d:Dst h j l) (hj:i≠j):Dst (h.set i o) j l:=by
 rcases d with ⟨e,d⟩|d
 ·exact .inl ⟨e,Gh d hj⟩
 ·exact .inr (Gh d hj)
theorem Dst.lt {h:MH}{j:Nat}{l:List (PyData×D)}(d:Dst h j l):j < h.length:=by
 rcases d with ⟨_,d⟩ | d <;> exact Eu d
theorem nF (k B n m:Nat) (t:List D) (T:Tk B n m t) (hm:m+B+4<=100000) (h:∀ j h',Ext [] mh h'->mh.length<=j->Dst h' j ((due n t).map wE)->P (.ref j) h'):wV (Af (Gk (k+n+3)) fuel f21 [.tup t] mh) P:=by
 have lt:t.length<=100000:=Nat.le_trans T.le T.m;refine Bd (vH (k+n+2)) dX.1 dX.2 rfl ?_;show wS (b21 (k+n+2)) [some (.tup t),none,none,none,none,none,none,none] mh _;unfold b21
 walk_at "x0"
 refine Je ?_
 walk_at "x0"
 refine Ca (List.range 4) Ao (fun i l h'=>∃ y2 y3 y4 y5 y6 y7,l=[some (.tup t),some (.ref mh.length),y2,y3,y4,y5,y6,y7]/\Ext [] mh h'/\Dst h' mh.length ((J3 n t i).map wE)) ?_ ?_ ?_
 ·walk_at "x0"
  exact ⟨_,Du (m:=4) (by decide),rfl,_,_,_,_,_,_,rfl,Ext.more,Dst.new⟩
 ·rintro i x l h1 ex ⟨y2,y3,y4,y5,y6,y7,rfl,x1,d1⟩;have hi:i < 4:=by have:=(List.getElem?_eq_some_iff.mp ex).1;rw [List.length_range] at this;exact this
  have ex:x=i:=by rw [List.getElem?_range hi] at ex;cases ex;rfl
  subst ex;refine Ay ?_
  walk_at "x0"
  refine Yi k B n m t T (x:Int) fun h2 x2=>?_
  have d2:=d1.ext x2;cases ei:t.findIdx? (nmB n (x:Int)) with
  | none =>
   have e0:Jm n t (x:Int)=[]:=by unfold Jm;rw [ei]
   dsimp only [iD]
   walk_at "x0"
   refine ⟨_,_,rfl,?_⟩
   walk_at "x0"
   refine ⟨_,_,_,_,_,_,rfl,x1.trans x2,?_⟩;rw [Ft,e0,List.append_nil];exact d2
  | some i =>
   obtain ⟨hi',_⟩:=List.findIdx?_eq_some_iff_getElem.mp ei;have eg:t.getD i .non=t[i]:=by rw [List.getD_eq_getElem?_getD,List.getElem?_eq_getElem hi'];rfl
   obtain ⟨m',s,rfl,es,so,sk⟩:=(T.ln _ (List.getElem_mem hi')).sh;have e0:Jm (m'+1) t (x:Int)=if s.fst=(x:Int) then s.ways.map fun w=>((x:Int)::w.1,t.take i++(w.2++t.drop (i+1))) else []:=by
    unfold Jm;rw [ei];dsimp only;rw [eg,es,Wg]
   obtain ⟨w0,b0,r0,ed⟩:=fJ s;dsimp only [iD]
   walk_at "x0"
   refine ⟨_,_,rfl,?_⟩
   walk_at "x0"
   refine Ek (j:=i) (List.getElem?_eq_getElem hi') ?_;rw [es,ed]
   walk_at "x0"
   refine Ax (fun q=>?_) fun q=>?_
   ·rw [if_pos (eq_of_beq q)] at e0
    walk_at "x0"
    refine Ca s.ways (fun w=>D.tup [itD w.1,.tup w.2]) (fun i' l h'=>∃ y4 y5 y6 y7,l=[some (.tup t),some (.ref mh.length),some (Ao x),some (.int i),y4,y5,y6,y7]/\Ext [] mh h'/\Dst h' mh.length ((J3 (m'+1) t x++(s.ways.take i').map fun w=>(((x:Int)::w.1,t.take i++(w.2++t.drop (i+1))):Wy)).map wE)) ?_ ?_ ?_
    ·refine fW ?_
     walk_at "x0"
     refine Ek (j:=i) (List.getElem?_eq_getElem hi') ?_;rw [es]
     walk_at "x0"
     refine fU (k+m'+1) s B so T.b fun j h3 x3 hj g3=>?_
     refine ⟨_,_,rfl,g3,?_,_,_,_,_,rfl,?_,?_⟩
     ·rw [fX]
     ·exact ((x1.trans x2).trans x3).setNew (Nat.le_trans (x1.trans x2).len hj)
     ·have:=(d2.ext x3);rw [List.take_zero,List.map_nil,List.append_nil];exact this.far (by have:=d2.lt;omega)
    ·rintro i' w l h3 ew ⟨y4,y5,y6,y7,rfl,x3,d3⟩;have hw:w∈s.ways:=List.mem_of_getElem? ew;obtain ⟨lw,b,c,ewb⟩:=Wj so sk hw;have et:s.ways.take (i'+1)=s.ways.take i'++[w]:=by rw [List.take_add_one,ew];rfl
     have lm:=T.m;have lb:=T.b;refine J0 rfl ?_;dsimp only [Fz,itD]
     walk_at "x0"
     refine Bb (by rw [ewb];simp) ?_
     walk_at "x0"
     refine Df ?_;rw [show (some ((i:Int)+1))=some ((i+1:Nat):Int) from rfl,Em];refine Bb (by rw [List.length_drop];omega) ?_;refine Ay (Bp (Gv (Mu ?_)))
     walk_at "x0"
     refine Df ?_;rw [Fp]
     walk_at "x0"
     have:=T.le;refine Bb (by rw [List.length_append,List.length_drop,List.length_take];omega) ?_;refine Kw ?_
     walk_at "x0"
     refine ⟨_,(x:Int)::w.1,_,rfl,rfl,d3,?_,?_,?_⟩
     ·rw [List.length_append,List.length_map,List.length_take];have:=Qu T x;have:=Wh so;omega
     ·intro e he z;rcases List.mem_append.mp he with he|he
      ·obtain ⟨a',r,ha',e'⟩:=Ox he;rw [e'] at z;injection z with z _
       omega
      ·obtain ⟨v,hv,rfl⟩:=List.mem_map.mp he;have z:(x:Int)::v.1=(x:Int)::w.1:=z;injection z with _ z
       obtain ⟨j,hj,ej⟩:=List.getElem_of_mem hv;rw [List.length_take] at hj;rw [List.getElem_take] at ej;have hi2:=(List.getElem?_eq_some_iff.mp ew).1;have e1:(s.ways.map (·.1))[j]?=some v.1:=by rw [List.getElem?_map,List.getElem?_eq_getElem (show j < s.ways.length by omega),ej];rfl
       have e2:(s.ways.map (·.1))[i']?=some w.1:=by rw [List.getElem?_map,ew];rfl
       rw [z,← e2] at e1;have:=(List.getElem?_inj (by rw [List.length_map];omega) (Wi so)).mp e1;omega
     ·walk_at "x0"
      refine ⟨_,_,_,_,rfl,x3.setNew (Nat.le_refl _),?_⟩;have e:(J3 (m'+1) t x++(s.ways.take (i'+1)).map fun w=>(((x:Int)::w.1,t.take i++(w.2++t.drop (i+1))):Wy))=(J3 (m'+1) t x++(s.ways.take i').map fun w=>(((x:Int)::w.1,t.take i++(w.2++t.drop (i+1))):Wy))++[((x:Int)::w.1,t.take i++(w.2++t.drop (i+1)))]:=by
       rw [et,List.map_append,List.append_assoc];rfl
      rw [e];exact d3.set
    ·rintro l h3 ⟨y4,y5,y6,y7,rfl,x3,d3⟩;rw [List.take_length] at d3
     walk_at "x0"
     refine ⟨_,_,_,_,_,_,rfl,x3,?_⟩;rw [Ft,e0];exact d3
   ·rw [if_neg (by intro z;rw [z,beq_self_eq_true] at q;cases q)] at e0
    walk_at "x0"
    refine ⟨_,_,_,_,_,_,rfl,x1.trans x2,?_⟩;rw [Ft,e0,List.append_nil];exact d2
 ·rintro l h1 ⟨y2,y3,y4,y5,y6,y7,rfl,x1,d1⟩;rw [List.length_range] at d1
  walk_at "x0"
  exact h _ _ x1 (Nat.le_refl _) d1
end
local macro_rules | `(tactic| walk_at "x5") => `(tactic| repeat (first | walk_at "s" | with_reducible refine Hh ?_ | with_reducible refine Hf (by simp) ?_ | with_reducible refine U5 ?_ | with_reducible refine U6 ?_ | with_reducible refine U7 ?_ | with_reducible refine eX ?_ | with_reducible refine eY ?_ | with_reducible refine eZ ?_))
section
variable {mh:MH}{P:D->MH->Prop}
theorem nG {loc:DL.Loc}{mo:DM D}{mr:DM (List D)}(h:wD mo loc mh fun x h1=>(dSz x h1).isSome=true/\wD mr loc h1 fun ds h2=>wV (Mh x ds h2) P):wD (getM mo mr) loc mh P:=by
 obtain ⟨x,h1,e1,e2,ds,h2,e3,q⟩:=h;obtain ⟨d,h3,e4,p⟩:=q;refine ⟨d,h3,?_,p⟩;unfold getM DM.bnd;rw [e1];dsimp only;rw [if_pos e2,e3];exact e4
theorem Dst.sz {j:Nat}{l:List (PyData×D)}(d:Dst mh j l):dSz (.ref j) mh=some l.length:=by
 unfold dSz;rcases d with ⟨rfl,d⟩|d
 ·simp only [d];rfl
 ·simp only [d]
theorem nH {j:Nat}{l:List Wy}{k:List Int}(d:Dst mh j (l.map wE)) (h:P (oD ((l.find? fun w=>w.1==k).map (·.2))) mh):wV (Mh (.ref j) [itD k,.non] mh) P:=by
 refine ⟨_,_,?_,h⟩;have ek:=Mz k;have kn:Nh (itD k)=none:=rfl;rcases d with ⟨e,d⟩|d
 ·have e:l=[]:=by simpa using e
  subst e;unfold Mh;rw [Oj d];dsimp only;unfold R4;rw [kn,ek];rfl
 ·unfold Mh;rw [Jt d];dsimp only;rw [ek,Option.map_some,Qt];dsimp only;cases l.find? fun w=>w.1==k <;> rfl
theorem Ii {B n m:Nat}{t:List D}(T:Tk B n m t) (hn:n<=14):dat 60 (.tup t)=true:=Gf fun x hx=>eV (T.ln x hx) (by omega)
theorem Aab {B n m:Nat}{t:List D}(T:Tk B n m t) (hn:n<=14) (hm:m+B+4<=100000) (a b c:Int):dat 60 (oD (flw n t a b c))=true:=by
 cases e:flw n t a b c with
 | none=>rfl
 | some r=>exact Ii (fO T hm e) hn
theorem Yj (k B n m:Nat) (t:List D) (T:Tk B n m t) (hn:n<=14) (hm:m+B+4<=100000) (j:Nat) (d:Dst mh j ((due n t).map wE)) (a:Nat) (ha:a < 4) (b:Int) (h:∀ h',Ext [] mh h'->P (.bl true) h'):wV (Af (Gk (k+4)) fuel f22 [.tup t,.ref j,.int a,.int b] mh) P:=by
 refine Bd (vI (k+3)) dY.1 dY.2 rfl ?_;show wS (b22 (k+3)) [some (.tup t),some (.ref j),some (.int a),some (.int b),none,none,none] mh _;unfold b22
 walk_at "x5"
 refine Ca (List.range 12) (fun x:Nat=>D.int (1+(x:Int))) (fun i l h'=>∃ y4 y5 y6,l=[some (.tup t),some (.ref j),some (.int a),some (.int b),y4,y5,y6]/\Ext [] mh h') ?_ ?_ ?_
 ·walk_at "x5"
  exact ⟨_,by kernel_rfl,rfl,_,_,_,rfl,Ext.refl⟩
 ·rintro i x l h1 ex ⟨y4,y5,y6,rfl,x1⟩;refine Ay ?_
  walk_at "x5"
  refine Dg k B n m t T a b (1+(x:Int)) fun h2 x2=>?_
  walk_at "x5"
  refine nG ?_;have d2:=(d.ext x1).ext x2
  walk_at "x5"
  refine ⟨by rw [d2.sz];rfl,?_⟩
  walk_at "x5"
  refine nH (k:=[(a:Int),b,1+(x:Int)]) d2 ?_;rw [M5 T ha];refine Ji rfl (Aab T hn hm _ _ _) ?_
  walk_at "x5"
  exact ⟨_,_,_,rfl,x1.trans x2⟩
 ·rintro l h1 ⟨y4,y5,y6,rfl,x1⟩
  walk_at "x5"
  exact h _ x1
theorem Ni (k B n m:Nat) (t:List D) (T:Tk B n m t) (hn:n<=14) (hm:m+B+4<=100000) (j:Nat) (d:Dst mh j ((due n t).map wE)) (h:∀ h',Ext [] mh h'->P (.bl true) h'):wV (Af (Gk (k+5)) fuel f23 [.tup t,.ref j] mh) P:=by
 refine Bd (vJ (k+4)) dZ.1 dZ.2 rfl ?_;show wS (b23 (k+4)) [some (.tup t),some (.ref j),none,none] mh _;unfold b23
 walk_at "x5"
 refine Ca (List.range 4) Ao (fun i l h'=>∃ y2 y3,l=[some (.tup t),some (.ref j),y2,y3]/\Ext [] mh h') ?_ ?_ ?_
 ·walk_at "x5"
  exact ⟨_,Du (m:=4) (by decide),rfl,_,_,rfl,Ext.refl⟩
 ·rintro i a l h1 ea ⟨y2,y3,rfl,x1⟩;have ha:a < 4:=List.mem_range.mp (List.mem_of_getElem? ea);refine Ay ?_
  walk_at "x5"
  refine Ca (List.range 4) Ao (fun i l h'=>∃ y3,l=[some (.tup t),some (.ref j),some (Ao a),y3]/\Ext [] mh h') ?_ ?_ ?_
  ·walk_at "x5"
   exact ⟨_,Du (m:=4) (by decide),rfl,_,rfl,x1⟩
  ·rintro i b l h2 eb ⟨y3,rfl,x2⟩;refine Ay ?_
   walk_at "x5"
   refine Yj k B n m t T hn hm j (d.ext x2) a ha b fun h3 x3=>?_
   walk_at "x5"
   exact ⟨_,rfl,x2.trans x3⟩
  ·rintro l h2 ⟨y3,rfl,x2⟩
   walk_at "x5"
   exact ⟨_,_,rfl,x2⟩
 ·rintro l h1 ⟨y2,y3,rfl,x1⟩
  walk_at "x5"
  exact h _ x1
end
theorem Wk {α:Type}{p:α->Bool}{d:α}(r:List α):∀ {l:List α},(∀ x∈l,p x=false)->p d=true->(l++d::r).findIdx? p=some l.length
 | [],_,h=>by rw [List.nil_append,List.findIdx?_cons,h];rfl
 | a::l,h1,h2=>by
  rw [List.cons_append,List.findIdx?_cons,h1 a List.mem_cons_self,Wk r (fun x hx=>h1 x (List.mem_cons_of_mem _ hx)) h2];rfl
theorem fY {n:Nat}{l r:List D}{s:Sh}{a b c:Int}(h1:∀ x∈l,¬ Nm a n x) (h2:Nm a n s.d):flw n (l++s.d::r) a b c=(s.lft a b c).map fun q=>l++q++r:=by
 have e:(l++s.d::r).findIdx? (nmB n a)=some l.length:=Wk r (fun x hx=>by
  have:=h1 x hx;rw [← Ou] at this
  simpa using this) (Ou.mpr h2)
 unfold flw;rw [e];dsimp only;have eg:(l++s.d::r).getD l.length .non=s.d:=by rw [List.getD_eq_getElem?_getD,List.getElem?_append_right (Nat.le_refl _),Nat.sub_self];rfl
 rw [eg,Qq];have e1:(l++s.d::r).take l.length=l:=by rw [List.take_left]
 have e2:(l++s.d::r).drop (l.length+1)=r:=by
  rw [List.drop_append];simp
 rw [e1,e2]
noncomputable def inn (N:Nat) (u:Int):List D:=List.replicate N (Bx 2 3 u)
noncomputable def agn (N:Nat) (u:Int):Sh:=.again 0 1 [] 4 (inn N u) 5
noncomputable def lng (N k:Nat) (u v:Int):List D:=Bx 3 2 v::((List.replicate k (inn N u)).flatten++[(agn N u).d,Bx 1 0 6])
theorem M6 (B n:Nat) {a b:Int}(c:Int) (ha:0<=a/\a < 4) (hb:0<=b/\b < 4):Ln B (n+1) (Bx a b c):=by
 refine ⟨.say a b c,rfl,⟨fun h hh=>?_,(by show 1<=3;decide),Nat.zero_le _,trivial⟩,fun y hy=>by cases hy⟩;have hh:h=a\/h=b:=by simpa [Sh.hands,Sh.fst,Sh.adr] using hh
 rcases hh with rfl|rfl
 ·exact ha
 ·exact hb
theorem fZ {n:Nat}{a b c h:Int}:Nm h (n+1) (Bx a b c) ↔ h=a\/h=b:=by
 have:Bx a b c=Sh.d (.say a b c):=rfl;rw [this,Nm.iff];constructor
 ·rintro (q | ⟨x,hx,_⟩)
  ·simpa [Sh.hands,Sh.fst,Sh.adr] using q
  ·cases hx
 ·intro q;exact .inl (by simpa [Sh.hands,Sh.fst,Sh.adr] using q)
theorem Wl {N k:Nat}{u:Int}{x:D}(h:x∈(List.replicate k (inn N u)).flatten):x=Bx 2 3 u:=by
 obtain ⟨l,hl,hx⟩:=List.mem_flatten.mp h;rw [List.eq_of_mem_replicate hl] at hx;exact List.eq_of_mem_replicate hx
theorem Hi (N k:Nat) (u:Int):((List.replicate k (inn N u)).flatten).length=k * N:=by
 rw [List.length_flatten,List.map_replicate,List.sum_replicate_nat];unfold inn;rw [List.length_replicate]
theorem vX {N:Nat}(u:Int) (h:N<=34):Ln 34 2 (agn N u).d:=by
 refine ⟨_,rfl,⟨fun x hx=>?_,(by show 1<=3;decide),?_,(by show (4:Int)≠5;decide)⟩,fun x hx=>?_⟩
 ·have hx:x=0\/x=1:=by simpa [agn,Sh.hands,Sh.fst,Sh.adr] using hx
  rcases hx with rfl | rfl <;> decide
 ·show [inn N u].flatten.length<=34;simp [inn];exact h
 ·obtain ⟨l,hl,hx⟩:=List.mem_flatten.mp hx;rw [List.mem_singleton.mp hl] at hx;rw [List.eq_of_mem_replicate hx];exact M6 _ _ _ (by decide) (by decide)
theorem Qv {N k:Nat}(u v:Int) (h:N<=34) (hk:k<=4):Tk 34 2 200 (lng N k u v):=by
 refine ⟨fun x hx=>?_,?_,by decide,by decide,by decide⟩
 ·rcases List.mem_cons.mp hx with rfl|hx
  ·exact M6 _ _ _ (by decide) (by decide)
  ·rcases List.mem_append.mp hx with hx|hx
   ·rw [Wl hx];exact M6 _ _ _ (by decide) (by decide)
   ·rcases List.mem_cons.mp hx with rfl|hx
    ·exact vX u h
    ·rw [List.mem_singleton.mp hx];exact M6 _ _ _ (by decide) (by decide)
 ·unfold lng;rw [List.length_cons,List.length_append,Hi];have:=Nat.mul_le_mul hk h;simp;omega
theorem Qw {N k:Nat}{u v:Int}{a b c:Int}(ha:a=0\/a=1):flw 2 (lng N k u v) a b c=((agn N u).lft a b c).map fun q=>(Bx 3 2 v::(List.replicate k (inn N u)).flatten)++q++[Bx 1 0 6]:=by
 have e:lng N k u v=(Bx 3 2 v::(List.replicate k (inn N u)).flatten)++(agn N u).d::[Bx 1 0 6]:=by unfold lng;rw [List.cons_append]
 rw [e];refine fY (fun x hx=>?_) (Nm.iff.mpr (.inl ?_))
 ·rcases List.mem_cons.mp hx with rfl|hx
  ·rw [fZ];omega
  ·rw [Wl hx,fZ];omega
 ·show a∈[0,1];rcases ha with rfl | rfl <;> decide
theorem pA (N k:Nat) (u v:Int):flw 2 (lng N k u v) 0 1 4=some (lng N (k+1) u v):=by
 rw [Qw (.inl rfl)];have e:(agn N u).lft 0 1 4=some (inn N u++[(agn N u).d]):=rfl;rw [e,Option.map_some];unfold lng;rw [List.replicate_succ',List.flatten_append];simp
theorem Aac (N k:Nat) (u v:Int):flw 2 (lng N k u v) 0 1 5=some ((Bx 3 2 v::(List.replicate k (inn N u)).flatten)++[Bx 1 0 6]):=by
 rw [Qw (.inl rfl)];have e:(agn N u).lft 0 1 5=some []:=rfl;rw [e,Option.map_some];simp
theorem Aad (N k:Nat) (u v:Int):flw 2 (lng N k u v) 1 0 6=none:=by
 rw [Qw (.inr rfl)];have e:(agn N u).lft 1 0 6=none:=rfl;rw [e];rfl
theorem Aae (N k:Nat) (u v:Int):flw 2 (lng N k u v) 3 2 v=some ((lng N k u v).drop 1):=by
 have e:lng N k u v=[]++(Sh.say 3 2 v).d::((List.replicate k (inn N u)).flatten++[(agn N u).d,Bx 1 0 6]):=rfl;rw [e,fY (fun x hx=>by cases hx) (Nm.iff.mpr (.inl (by show (3:Int)∈[3,2];decide)))];have e2:(Sh.say 3 2 v).lft 3 2 v=some []:=by
  show (if _ then _ else _)=_;rw [if_pos ⟨rfl,rfl,rfl⟩]
 rw [e2];rfl
theorem gA (N:Nat) (u v:Int):∀ k,lf 2 (lng N 0 u v) (List.replicate k (0,1,4))=some (lng N k u v)
 | 0=>rfl
 | k+1=>by
  rw [List.replicate_succ',Ih,gA N u v k];exact pA N k u v
section
variable {mh:MH}{P:D->MH->Prop}
theorem Wm {ds:List D}{k:Nat}(h0:ds≠[]) (hl:ds.length<=1000) (h1:1<=k) (h2:k<=1000) (h:P (.tup (List.replicate k ds).flatten) mh):wV (Fi (.tup ds) (.int k) mh) P:=by
 refine ⟨_,_,?_,h⟩;show Oi _ (.tup ds) (.int k) mh=_;unfold Oi;show (if (k:Int)=1 then some (D.tup ds,mh) else if (ds.isEmpty=false/\ds.length<=1000)/\(1 < (k:Int)/\(k:Int)<=1000) then some (D.tup (List.replicate (k:Int).toNat ds).flatten,mh) else none)=_
 by_cases e:k=1
 ·subst e;rw [if_pos (by rfl)];simp
 ·rw [if_neg (by omega),if_pos ⟨⟨by cases ds with | nil=>exact absurd rfl h0 | cons=>rfl,hl⟩,by omega,by omega⟩,Int.toNat_natCast]
theorem M7 {α:Type}(x:α):∀ k,(List.replicate k [x]).flatten=List.replicate k x
 | 0=>rfl
 | k+1=>by rw [List.replicate_succ,List.flatten_cons,M7 x k,List.replicate_succ];rfl
theorem nJ {n k:Nat}{x:D}(e:mh[n]?=some (.lst [x])) (hk:k<=1000) (h:P (.ref mh.length) (mh++[.lst (List.replicate k x)])):wV (Fi (.ref n) (.int k) mh) P:=by
 refine ⟨_,_,?_,h⟩;have e1:aW (.ref n) mh=some [x]:=by
  show (match mh[n]? with | some (.lst o)=>some o | _=>none)=_;rw [e]
 show Ol _ (.ref n) (.int k) mh=_;unfold Ol;rw [e1];dsimp only;rw [if_pos ⟨⟨by omega,by omega⟩,by rw [Int.toNat_natCast,List.length_singleton];omega⟩,Int.toNat_natCast,M7]
end
local macro_rules | `(tactic| walk_at "x4") => `(tactic| repeat (first | walk_at "s" | with_reducible refine Hh ?_ | with_reducible refine Hf (by simp) ?_ | with_reducible refine U5 ?_ | with_reducible refine U6 ?_ | with_reducible refine U7 ?_ | with_reducible refine Jg (by decide) (by decide) ?_ | with_reducible refine J1 (by decide) ?_))
section
variable {mh:MH}{P:D->MH->Prop}
theorem nM (N k:Nat) (u v:Int):(lng N k u v).length=k * N+3:=by
 unfold lng;rw [List.length_cons,List.length_append,Hi];rfl
theorem nO {α:Type}(l:List α) (x y:α):DL.cutD (l++[x,y]) none (some (-2))=l:=by
 unfold DL.cutD;have e:HT.sIx (l++[x,y]).length (l++[x,y]).length (some (-2))=l.length:=by
  show (if (-2:Int) < 0 then ((-2:Int)+((l++[x,y]).length:Int)).toNat else min (-2:Int).toNat (l++[x,y]).length)=_;rw [if_pos (by decide),List.length_append];simp;omega
 rw [e,HT.sIx_none];simp
theorem gB {α:Type}(l:List α) (x y:α):DL.cutD (l++[x,y]) (some (-1)) none=[y]:=by
 unfold DL.cutD;have e:HT.sIx (l++[x,y]).length 0 (some (-1))=l.length+1:=by
  show (if (-1:Int) < 0 then ((-1:Int)+((l++[x,y]).length:Int)).toNat else min (-1:Int).toNat (l++[x,y]).length)=_;rw [if_pos (by decide),List.length_append];simp;omega
 rw [e,HT.sIx_none,List.drop_append,List.drop_eq_nil_of_le (Nat.le_succ _)];simp
theorem gC (k:Nat) (cell:Int) (h:∀ h',Ext [] mh h'->P (.bl true) h'):wV (Af (Gk (k+5)) fuel f24 [.int cell] mh) P:=by
 refine Bd (vK (k+4)) eE.1 eE.2 rfl ?_;show wS (b24 (k+4)) [some (.int cell),none,none,none,none,none,none] mh _;unfold b24;obtain ⟨r,hr,er⟩:=My (cell.fdiv 12) 20 (by decide);have er:(cell.fdiv 12).fmod 20=(r:Int):=er
 walk_at "x4"
 rw [er,show (15+(r:Int))=((15+r:Nat):Int) from by omega]
 refine Wm (ds:=[D.tup [.str "say",.int 2,.int 3,.int (1+cell.fmod 12)]]) (by simp) (by simp) (by omega) (by omega) ?_;have hN:15+r<=34:=by omega
 have hN0:15+r≠0:=by omega
 generalize 15+r=N at hN hN0 ⊢;rw [M7];show wG (Ag 1 (.tup (inn N (1+cell.fmod 12))) _ _) _;generalize eu:1+cell.fmod 12=u
 walk_at "x4"
 generalize ev:1+cell.fmod 7=v;refine Df ?_
 walk_at "x4"
 refine Bb (by show 1+(inn N u).length<=_;unfold inn;rw [List.length_replicate];omega) ?_
 walk_at "x4"
 have li:(inn N u).length=N:=by unfold inn;rw [List.length_replicate]
 refine Ca (List.range 3) (fun x:Nat=>D.int (1+(x:Int))) (fun i l h'=>∃ y4 y5 y6,l=[some (.int cell),some (.tup (inn N u)),some (.tup (lng N 0 u v)),some (.tup (Bx 3 2 v::inn N u)),y4,y5,y6]/\Ext [] mh h') ?_ ?_ ?_
 ·walk_at "x4"
  exact ⟨_,by kernel_rfl,rfl,_,_,_,rfl,Ext.refl⟩
 ·rintro i x l h1 ex ⟨y4,y5,y6,rfl,x1⟩;have hx:x < 3:=List.mem_range.mp (List.mem_of_getElem? ex);rw [show (1+(x:Int))=((x+1:Nat):Int) from by omega];have T0:=Qv u v hN (show 0<=4 by decide);have T1:=Qv u v hN (show x+1<=4 by omega);have ll:=nM N (x+1) u v;have lm:(x+1) * N<=3 * 34:=Nat.mul_le_mul (by omega) hN;refine Ay ?_
  walk_at "x4"
  refine nJ Ak (by omega) ?_
  walk_at "x4"
  refine Df ?_
  walk_at "x4"
  refine Wm (by intro z;rw [z] at li;exact hN0 li.symm) (by omega) (by omega) (by omega) ?_;refine Bb (by rw [Hi];show 1+_<=_;omega) ?_
  walk_at "x4"
  refine Df ?_;refine Bb (by rw [List.length_append,Hi];show 1+_+2<=_;omega) ?_;have er2:DL.cutD (lng N 0 u v) none (some 1)++(List.replicate (x+1) (inn N u)).flatten++DL.cutD (lng N 0 u v) (some 1) none=lng N (x+1) u v:=by
   rw [show DL.cutD (lng N 0 u v) none (some 1)=(lng N 0 u v).take 1 from Fp _ 1,show DL.cutD (lng N 0 u v) (some 1) none=(lng N 0 u v).drop 1 from Em _ 1];unfold lng;simp
  rw [er2];have x2:Ext [] h1 (h1++[MO.lst [D.tup [D.int 0,D.int 1,D.int 4]]]++[MO.lst (List.replicate (x+1) (D.tup [D.int 0,D.int 1,D.int 4]))]):=Ext.more.trans Ext.more;have g2:(h1++[MO.lst [D.tup [D.int 0,D.int 1,D.int 4]]]++[MO.lst (List.replicate (x+1) (D.tup [D.int 0,D.int 1,D.int 4]))])[(h1++[MO.lst [D.tup [D.int 0,D.int 1,D.int 4]]]).length]?=some (.lst ((List.replicate (x+1) ((0,1,4):Lt)).map lD)):=by
   rw [Ak,List.map_replicate];rfl
  generalize (h1++[MO.lst [D.tup [D.int 0,D.int 1,D.int 4]]]).length=j at g2 ⊢;generalize (h1++[MO.lst [D.tup [D.int 0,D.int 1,D.int 4]]]++[MO.lst (List.replicate (x+1) (D.tup [D.int 0,D.int 1,D.int 4]))])=h2 at x2 g2 ⊢
  walk_at "x4"
  refine Gw k 34 2 200 _ T0 (.ref j) (List.replicate (x+1) (0,1,4)) ⟨_,src_list g2,fun h' x'=>Fo (x'.old _ _ (by simp) g2)⟩ (by rw [List.length_replicate];omega) fun h3 x3=>?_
  rw [gA]
  walk_at "x4"
  refine Ji rfl (Ii T1 (by decide)) ?_
  walk_at "x4"
  rw [ev];refine Dg (k+1) 34 2 200 _ T1 3 2 v fun h4 x4=>?_
  rw [Aae]
  walk_at "x4"
  refine Df ?_;rw [show DL.cutD (lng N (x+1) u v) (some 1) none=(lng N (x+1) u v).drop 1 from Em _ 1];refine Ji rfl ?_ ?_
  ·exact Ii (B:=34) (n:=2) (m:=300) (t:=(lng N (x+1) u v).drop 1) ⟨fun y hy=>T1.ln y (List.mem_of_mem_drop hy),by rw [List.length_drop];omega,T1.w,T1.b,by decide⟩ (by decide)
  walk_at "x4"
  refine Dg (k+1) 34 2 200 _ T1 0 1 5 fun h5 x5=>?_
  rw [Aac]
  walk_at "x4"
  refine Df ?_;have el:lng N (x+1) u v=(Bx 3 2 v::(List.replicate (x+1) (inn N u)).flatten)++[(agn N u).d,Bx 1 0 6]:=rfl;rw [el,nO]
  walk_at "x4"
  refine Df ?_;rw [gB];refine Bb (by rw [List.length_cons,Hi];simp;omega) ?_;refine Ji rfl ?_ ?_
  ·refine Ii (B:=34) (n:=2) (m:=300) ⟨fun y hy=>T1.ln y ?_,by rw [List.length_append,List.length_cons,Hi];simp;omega,T1.w,T1.b,by decide⟩ (by decide);rw [el];rcases List.mem_append.mp hy with hy|hy
   ·exact List.mem_append.mpr (.inl hy)
   ·exact List.mem_append.mpr (.inr (List.mem_cons_of_mem _ hy))
  walk_at "x4"
  rw [← el];refine Dg (k+1) 34 2 200 _ T1 1 0 6 fun h6 x6=>?_
  rw [Aad]
  walk_at "x4"
  refine ⟨_,_,rfl,?_⟩
  walk_at "x4"
  exact ⟨_,_,_,rfl,((((x1.trans x2).trans x3).trans x4).trans x5).trans x6⟩
 ·rintro l h1 ⟨y4,y5,y6,rfl,x1⟩;have T0:=Qv u v hN (show 0<=4 by decide);have T1:=Qv u v hN (show 1<=4 by decide)
  walk_at "x4"
  refine Dg (k+1) 34 2 200 _ T0 0 1 4 fun h2 x2=>?_
  rw [pA]
  walk_at "x4"
  refine Df ?_;refine Bb (by rw [List.length_cons,li];show N+1+2<=_;omega) ?_;refine eq_refl ?_ (Ii T1 (by decide)) (h _ (x1.trans x2));show D.tup (lng N 1 u v)=D.tup ((Bx 3 2 v::inn N u)++DL.cutD (lng N 0 u v) (some 1) none);rw [show DL.cutD (lng N 0 u v) (some 1) none=(lng N 0 u v).drop 1 from Em _ 1];unfold lng;simp
end
noncomputable def St6 (mh:MH) (n:Nat) (H:Nat):Prop:=∃ a b c q e:Int,mh[n]?=some (.lst [.int a,.int b,.int c,.int q,.int H,.int e])
theorem St6.ext {mh h':MH}{n H:Nat}(s:St6 mh n H) {W:List Nat}(x:Ext W mh h') (hn:n ∉ W):St6 h' n H:=let ⟨a,b,c,q,e,g⟩:=s;⟨a,b,c,q,e,x.old _ _ hn g⟩
local macro_rules | `(tactic| walk_at "x2") => `(tactic| repeat (first | walk_at "s" | with_reducible refine Hh ?_ | with_reducible refine Hf (by simp) ?_ | with_reducible refine Jg (by decide) (by decide) ?_ | with_reducible refine J1 (by decide) ?_))
section
variable {mh:MH}{P:D->MH->Prop}
theorem Gx (k:Nat) (ns:List Int) (i:Nat) (h:∀ v:Int,P (.int v) mh):wV (Af (Gk (k+1)) fuel f9 [.rol (ns.map D.int),.int i] mh) P:=by
 refine Bd (zY k) oY.1 oY.2 rfl ?_;show wS (b9 k) [some (.rol (ns.map D.int)),some (.int i)] mh _;unfold b9
 walk_at "x2"
 refine Ge (by intro z;simp) rfl ?_
 walk_at "x2"
 refine Ax (fun hk=>?_) fun hk=>?_
 ·walk_at "x2"
  rw [decide_eq_true_iff,List.length_map] at hk;have hi:i < ns.length:=by omega
  refine uQ (d:=.int ns[i]) (by rw [List.getElem?_map,List.getElem?_eq_getElem hi];rfl) ?_;exact h _
 ·walk_at "x2"
  exact h _
theorem Bo (k n:Nat) (b H:Nat) (s:St6 mh n H) (h0:0 < b) (h1:b<=1000) (h:∀ (r:Nat) (h':MH),r < b->Ext [n] mh h'->h'.length=mh.length->St6 h' n H->P (.int r) h'):wV (Af (Gk (k+1)) fuel f10 [.ref n,.int b] mh) P:=by
  obtain ⟨s0,s1,s2,q,e,hm⟩:=s;have nat:∀ (i:Int) (mh':MH),Ext [n] mh mh'->mh'.length=mh.length->St6 mh' n H->P (.int (i.fmod b)) mh':=fun i mh' x l s=>by
    obtain ⟨r,hr,er⟩:=My i b h0;rw [er];exact h r mh' hr x l s
  refine Bd (uU k) dD.1 dD.2 rfl ?_;show wS (b10 k) [some (.ref n),some (.int b),none,none] mh _;unfold b10
  have rest:wS (Ab (Ah (dop Aq (dop ixD (vr 0) (Zr (.int 2))) (Zr (.int 1))) (Cj (vr 0) (Zr (.int 2))))
 (Ab (Ah (dop Ej (dop Fi (dop Aq (dop Aq (dop ixD (vr 0) (Zr (.int 5))) (dop Fi (Zr (.int 7919)) (dop ixD (vr 0) (Zr (.int 2))))) (Zr (.int 1))) (Zr (.int 48271))) (Zr (.int 2147483647))) (Ag 3))
 (Ab (Ah (dop Ej (dop Fi (vr 3) (dop Aq (dop Jd (vr 3) (Zr (.int 1009))) (Zr (.int 69621)))) (Zr (.int 2147483647))) (Ag 3))
 (Ab (retS (dop Ej (dop Ej (dop Fi (vr 3) (dop Aq (dop Jd (vr 3) (Zr (.int 1013))) (Zr (.int 16807)))) (Zr (.int 2147483647))) (vr 1)))
 Zn)))) [some (.ref n),some (.int b),none,none] mh (cV P):=by
    walk_at "x2"
    refine Bl (j:=2) hm rfl ?_
    walk_at "x2"
    refine ⟨_,Jf (k:=2) hm (by simp),?_⟩;have hm2:=Qk (o:=.lst [.int s0,.int s1,.int (s2+1),.int q,.int H,.int e]) hm;have x2:Ext [n] mh (mh.set n (.lst [.int s0,.int s1,.int (s2+1),.int q,.int H,.int e])):=Ext.set;have l2:(mh.set n (.lst [.int s0,.int s1,.int (s2+1),.int q,.int H,.int e])).length=mh.length:=List.length_set;show Px _ _ _ _ (mh.set n (.lst [.int s0,.int s1,.int (s2+1),.int q,.int H,.int e]));generalize mh.set n (.lst [.int s0,.int s1,.int (s2+1),.int q,.int H,.int e])=h2 at hm2 x2 l2 ⊢
    walk_at "x2"
    refine Bl (j:=5) hm2 rfl ?_
    walk_at "x2"
    refine Bl (j:=2) hm2 rfl ?_;refine Et (.inl ⟨by decide,by decide⟩) ?_
    walk_at "x2"
    refine Et (.inr ⟨by decide,by decide⟩) ?_
    walk_at "x2"
    generalize (e+7919 * (s2+1)+1) * 48271=y;have l1:=eG y (j:=2147483647) (by decide);have l3:=eN y (j:=2147483647) (by decide);generalize y.fmod 2147483647=z at l1 l3;refine Et (.inl ⟨by omega,by omega⟩) ?_
    walk_at "x2"
    generalize (z * (z.fdiv 1009+69621))=y2;have m1:=eG y2 (j:=2147483647) (by decide);have m2:=eN y2 (j:=2147483647) (by decide);generalize y2.fmod 2147483647=z2 at m1 m2;refine Et (.inl ⟨by omega,by omega⟩) ?_
    walk_at "x2"
    refine J1 (by omega) ?_;exact nat _ _ x2 l2 ⟨_,_,_,_,_,hm2⟩
  walk_at "x2"
  refine Bl (j:=1) hm rfl ?_
  walk_at "x2"
  refine Ax (fun e1=>?_) fun e1=>?_
  · walk_at "x2"
    refine Bl (j:=0) hm rfl ?_
    walk_at "x2"
    refine Ax (fun e2=>?_) fun e2=>?_
    · walk_at "x2"
      refine Bl (j:=0) hm rfl ?_
      walk_at "x2"
      refine Ax (fun e3=>?_) fun e3=>?_
      · walk_at "x2"
        refine Bl (j:=0) hm rfl ?_
        walk_at "x2"
        refine J1 (by omega) ?_
        walk_at "x2"
        refine Bl (j:=0) hm rfl ?_
        walk_at "x2"
        refine Jg (by omega) (by omega) ?_
        walk_at "x2"
        refine ⟨_,Jf (k:=0) hm (by simp),?_⟩
        walk_at "x2"
        exact nat _ _ Ext.set (by rw [List.length_set]) ⟨_,_,_,_,_,Qk hm⟩
      · exact Ie (Bp rest)
    · exact Ql (Ie (Bp rest))
  · exact Ql (Ie (Bp rest))
end
local macro_rules | `(tactic| walk_at "x3") => `(tactic| repeat (first | walk_at "s" | with_reducible refine Hh ?_ | with_reducible refine Hf (by simp) ?_))
section
variable {mh:MH}{P:D->MH->Prop}
theorem gD (lo hi:Option Int) (ns:List Nat):DL.cutD (ns.map Ao) lo hi=(DL.cutD ns lo hi).map Ao:=by
 unfold DL.cutD;rw [List.length_map,← List.map_drop,← List.map_take]
theorem Vb {n:Nat}{ns:List Nat}{lo hi:Option Int}(g:mh[n]?=some (.lst (ns.map Ao))) (h:P (.ref mh.length) (mh++[.lst ((DL.cutD ns lo hi).map Ao)])):wV (slD (.ref n) lo hi mh) P:=by
 refine ⟨_,_,?_,h⟩;show (match mh[n]? with | some (.lst o)=>some (D.ref mh.length,mh++[MO.lst (DL.cutD o lo hi)]) | _=>none)=_;rw [g];dsimp only;rw [gD]
theorem nP (k n H j:Nat) (s:St6 mh n H) (os:List Nat) (gj:mh[j]?=some (.lst (os.map Ao))) (hj:j≠n) (o0:os≠[]) (o3:os.length<=3) (h:∀ (to:Nat) (tos:List Nat) h',(∀ x∈to::tos,x∈os)->(to::tos).length<=os.length->Ext [n] mh h'->St6 h' n H->P (Mw (to::tos)) h'):wV (Af (Gk (k+2)) fuel f11 [.ref n,.ref j] mh) P:=by
 have op:0 < os.length:=List.length_pos_iff.mpr o0;have fin:∀ (l:List Nat) (h':MH),l≠[]->(∀ x∈l,x∈os)->l.length<=os.length->Ext [n] mh h'->St6 h' n H->P (.tup (l.map Ao)) h':=fun l h' l0 lm ll x' s'=>by
  cases l with
  | nil=>exact absurd rfl l0
  | cons to tos=>exact h to tos h' lm ll x' s'
 refine Bd (uV (k+1)) dF.1 dF.2 rfl ?_;show wS (b11 (k+1)) [some (.ref n),some (.ref j),none,none] mh _;unfold b11;have nj:j ∉ [n]:=by simpa using hj
 walk_at "x3"
 refine Ge (by intro z z';cases z') (El gj) ?_;rw [List.length_map]
 walk_at "x3"
 refine Bo k n os.length H s op (by omega) fun b h1 hb x1 _ s1=>?_
 have g1:=x1.old _ _ nj gj
 walk_at "x3"
 refine Vb g1 ?_;rw [Em];have g2:=(Ext.more (W:=[]) (g:=[.lst ((os.drop b).map Ao)])).old _ _ (by simp) g1
 walk_at "x3"
 refine Vb g2 ?_;rw [Fp];refine Ks (Ext.more.old (W:=[]) _ _ (by simp) Ak) Ak (by rw [List.length_map,List.length_map,List.length_drop,List.length_take];omega) ?_;rw [← List.map_append];have lt:(os.drop b++os.take b).length=os.length:=by rw [List.length_append,List.length_drop,List.length_take];omega
 have mt:∀ x∈os.drop b++os.take b,x∈os:=fun x hx=>by
  rcases List.mem_append.mp hx with hx|hx
  ·exact List.mem_of_mem_drop hx
  ·exact List.mem_of_mem_take hx
 have xx:Ext [n] h1 (h1++[MO.lst ((os.drop b).map Ao)]++[MO.lst ((os.take b).map Ao)]++[MO.lst ((os.drop b++os.take b).map Ao)]):=(Ext.more.trans Ext.more).trans Ext.more;have g3:=Ak (a:=h1++[MO.lst ((os.drop b).map Ao)]++[MO.lst ((os.take b).map Ao)]) (o:=.lst ((os.drop b++os.take b).map Ao));have s3:=s1.ext ((Ext.more (W:=[]) (g:=[MO.lst ((os.drop b).map Ao)])).trans (Ext.more.trans Ext.more):Ext [] h1 (h1++[MO.lst ((os.drop b).map Ao)]++[MO.lst ((os.take b).map Ao)]++[MO.lst ((os.drop b++os.take b).map Ao)])) (by simp);have hne:(h1++[MO.lst ((os.drop b).map Ao)]++[MO.lst ((os.take b).map Ao)]).length≠n:=by
  obtain ⟨_,_,_,_,_,q⟩:=s1;have:=Eu q;simp only [List.length_append];omega
 generalize (h1++[MO.lst ((os.drop b).map Ao)]++[MO.lst ((os.take b).map Ao)]).length=j2 at g3 hne ⊢;generalize h1++[MO.lst ((os.drop b).map Ao)]++[MO.lst ((os.take b).map Ao)]++[MO.lst ((os.drop b++os.take b).map Ao)]=h2 at xx g3 s3 ⊢;generalize os.drop b++os.take b=ts at lt mt g3;have g3j:=xx.old _ _ nj g1;have t0:ts≠[]:=fun z=>by rw [z] at lt;simp at lt;omega
 walk_at "x3"
 refine Bo k n 3 H s3 (by decide) (by decide) fun c h3 hc x3 _ s3=>?_
 have g4:=x3.old _ _ (by simpa using hne) g3;have g4j:=x3.old _ _ nj g3j
 walk_at "x3"
 refine Ax (fun q=>?_) fun q=>?_
 ·walk_at "x3"
  refine Cu (El g4) ?_;exact fin ts _ t0 mt (by omega) ((x1.trans xx).trans x3) s3
 ·walk_at "x3"
  refine Ge (by intro z z';cases z') (El g4j) ?_;rw [List.length_map]
  walk_at "x3"
  refine Bo k n os.length H s3 op (by omega) fun d h4 hd x4 _ s4=>?_
  have g5:=x4.old _ _ (by simpa using hne) g4
  walk_at "x3"
  refine Vb g5 ?_;rw [show (some (1+(d:Int)))=some ((1+d:Nat):Int) from by rw [Int.natCast_add];rfl,Fp]
  walk_at "x3"
  refine Cu (Jj _ _) ?_;refine fin _ _ ?_ (fun x hx=>mt x (List.mem_of_mem_take hx)) (by rw [List.length_take];omega) ((((x1.trans xx).trans x3).trans x4).trans Ext.more) (s4.ext (Ext.more (W:=[])) (by simp));intro z;have:=congrArg List.length z;rw [List.length_take,List.length_nil] at this;omega
end
noncomputable def Qx (H n:Nat):Prop:=∀ (k:Nat) {mh:MH}{P:D->MH->Prop}(src:Nat) (e:Int),e=6 - (n:Int)->St6 mh src H->(∀ d h',Ln 20 n d->Ext [src] mh h'->St6 h' src H->P d h')->wV (Af (Gk (k+3 * n+1)) fuel f13 [.ref src,.int e] mh) P
noncomputable def Ky (H n:Nat):Prop:=∀ (k:Nat) {mh:MH}{P:D->MH->Prop}(src:Nat) (e:Int),e=6 - (n:Int)->St6 mh src H->(∀ ds h',ds.length<=2->(∀ x∈ds,Ln 20 n x)->Ext [src] mh h'->St6 h' src H->P (.tup ds) h')->wV (Af (Gk (k+3 * n+2)) fuel f12 [.ref src,.int e] mh) P
theorem St6.lt {mh:MH}{n H:Nat}(s:St6 mh n H):n < mh.length:=let ⟨_,_,_,_,_,g⟩:=s;Eu g
theorem Td {H n:Nat}(L:Qx H n):Ky H n:=by
 intro k mh P src e he s h;refine Bd (uW (k+3 * n+1)) dG.1 dG.2 rfl ?_;show wS (b12 (k+3 * n+1)) [some (.ref src),some (.int e),none,none] mh _;unfold b12;have hl:=s.lt
 walk_at "x3"
 have s0:St6 (mh++[.lst []]) src H:=s.ext (Ext.more (W:=[])) (by simp);have g0:(mh++[MO.lst []])[mh.length]?=some (.lst []):=Ak;have x0:Ext [] mh (mh++[MO.lst []]):=Ext.more;generalize mh++[MO.lst []]=m0 at s0 g0 x0 ⊢;have nl:mh.length ∉ [src]:=by intro z;have:=List.mem_singleton.mp z;omega
 refine Ig ?_
 walk_at "x3"
 refine Bo (k+3 * n) src 3 H s0 (by decide) (by decide) fun r h1 hr x1 _ s1=>?_
 walk_at "x3"
 refine ⟨_,Du (m:=r) (by omega),(List.range r).map Ao,fun i l h'=>∃ (ds:List D) (y3:Option D),l=[some (.ref src),some (.int e),some (.ref mh.length),y3]/\ds.length<=i/\(∀ x∈ds,Ln 20 n x)/\Ext [src] mh h'/\St6 h' src H/\h'[mh.length]?=some (.lst ds),⟨[],none,rfl,Nat.le_refl _,fun x hx=>(by cases hx),x0.weak.trans x1,s1,x1.old _ _ nl g0⟩,fun _ _ _ _=>⟨rfl,rfl⟩,?_,?_⟩
 ·rintro i d l h2 ed ⟨ds,y3,rfl,dl,dn,x2,s2,g2⟩;have hi:i < r:=by have:=(List.getElem?_eq_some_iff.mp ed).1;rw [List.length_map,List.length_range] at this;exact this
  obtain ⟨a,b,c,q,f,gs⟩:=s2;refine Ay ?_
  walk_at "x3"
  refine Bl (j:=3) gs rfl ?_
  walk_at "x3"
  refine Ax (fun hq=>?_) fun hq=>?_
  ·walk_at "x3"
   refine Bl (j:=3) gs rfl ?_
   walk_at "x3"
   refine ⟨_,Jf (k:=3) gs (by simp),?_⟩;have gs3:=Qk (o:=.lst [.int a,.int b,.int c,.int (q - 1),.int H,.int f]) gs;have x3:Ext [src] h2 (h2.set src (.lst [.int a,.int b,.int c,.int (q - 1),.int H,.int f])):=Ext.set;show Px _ _ _ _ (h2.set src (.lst [.int a,.int b,.int c,.int (q - 1),.int H,.int f]));generalize h2.set src (.lst [.int a,.int b,.int c,.int (q - 1),.int H,.int f])=h3 at gs3 x3 ⊢;have g3:=x3.old _ _ nl g2
   walk_at "x3"
   refine ⟨ty_list g3,?_⟩
   walk_at "x3"
   refine L k src e he ⟨_,_,_,_,_,gs3⟩ fun d' h4 ld x4 s4=>?_
   have g4:=x4.old _ _ nl g3
   walk_at "x3"
   refine G9 g4 (by omega) ?_
   walk_at "x3"
   refine ⟨ds++[d'],_,rfl,?_,fun x hx=>?_,?_,?_,Ew g4⟩
   ·rw [List.length_append,List.length_singleton];omega
   ·rcases List.mem_append.mp hx with hx|hx
    ·exact dn x hx
    ·rw [List.mem_singleton.mp hx];exact ld
   ·exact ((x2.trans x3).trans x4).setNew (Nat.le_refl _)
   ·obtain ⟨a,b,c,q,f,z⟩:=s4;exact ⟨a,b,c,q,f,Gh z (by intro w;omega)⟩
  ·walk_at "x3"
   exact ⟨ds,_,rfl,by omega,dn,x2,⟨a,b,c,q,f,gs⟩,g2⟩
 ·rintro l h2 ⟨ds,y3,rfl,dl,dn,x2,s2,g2⟩;rw [List.length_map,List.length_range] at dl
  walk_at "x3"
  refine Cu (El g2) ?_;exact h ds _ (by omega) dn x2 s2
theorem gF {a:Int}(ha:a=1\/a=5\/a=7) (c:Int) {m:Nat}(hm:m<=5):((List.range m).map fun j:Nat=>(1:Int)+(c+(j:Int) * a).fmod 12).Nodup:=by
 refine Oq List.nodup_range fun i hi j hj e=>?_
 have hi:=List.mem_range.mp hi;have hj:=List.mem_range.mp hj;rw [Int.fmod_eq_emod_of_nonneg _ (by decide),Int.fmod_eq_emod_of_nonneg _ (by decide)] at e;rcases ha with rfl | rfl | rfl <;> omega
structure Fk (H n:Nat) (s to:Nat) (tos:List Nat):Prop where
 h2:2<=H
 h4:H<=4
 sl:s < H
 tl:∀ x∈to::tos,x < H/\x≠s
 t3:(to::tos).length<=3
theorem nQ {H n s to:Nat}{tos:List Nat}(f:Fk H n s to tos):((List.range H).filter fun x:Nat=>(!((x:Int)==(s:Int)))&&!((to::tos).contains x)).length<=2:=by
 have:=f.tl to List.mem_cons_self;have h:=Qo (l:=s::to::((List.range H).filter fun x:Nat=>(!((x:Int)==(s:Int)))&&!((to::tos).contains x))) (l':=List.range H) ?_ ?_
 ·rw [List.length_range,List.length_cons,List.length_cons] at h;have:=f.h4;omega
 ·refine List.nodup_cons.mpr ⟨fun z=>?_,List.nodup_cons.mpr ⟨fun z=>?_,List.Pairwise.filter _ List.nodup_range⟩⟩
  ·rcases List.mem_cons.mp z with z|z
   ·exact this.2 z.symm
   ·have:=(List.mem_filter.mp z).2;simp at this
  ·have:=(List.mem_filter.mp z).2;simp at this
 ·intro x hx;rcases List.mem_cons.mp hx with rfl|hx
  ·exact List.mem_range.mpr f.sl
  ·rcases List.mem_cons.mp hx with rfl|hx
   ·exact List.mem_range.mpr this.1
   ·exact (List.mem_filter.mp hx).1
theorem Wn (B n:Nat) {a b:Nat}(c:Int) (ha:a < 4) (hb:b < 4):Ln B (n+1) (Bx a b c):=M6 B n c ⟨by omega,by omega⟩ ⟨by omega,by omega⟩
noncomputable def mss (H s to:Nat) (tos:List Nat):List Nat:=(List.range H).filter fun x:Nat=>(!((x:Int)==(s:Int)))&&!((to::tos).contains x)
noncomputable def kdF (c a:Int) (j:Nat):Int:=1+(c+(j:Int) * a).fmod 12
noncomputable def gG (H n:Nat):Prop:=∀ (k:Nat) {mh:MH}{P:D->MH->Prop}(src s to kind:Nat) (tos:List Nat) (e:Int),Fk H n s to tos->e+1=6 - (n:Int)->St6 mh src H->(∀ d h',Ln 20 (n+1) d->Ext [src] mh h'->St6 h' src H->P d h')->wV (Af (Gk (k+3 * n+3)) fuel f14 [.ref src,.int e,.int s,Mw (to::tos),.int kind] mh) P
local macro_rules | `(tactic| walk_at "x1") => `(tactic| repeat (first | walk_at "s" | with_reducible refine Hh ?_ | with_reducible refine Hf (by simp) ?_ | with_reducible refine J1 (by decide) ?_))
theorem nR {H n:Nat}(L:Ky H n) (hn:1<=n):gG H n:=by
 intro k mh P src s to kind tos e f he st h;obtain ⟨n,rfl⟩:∃ m,n=m+1:=⟨n - 1,by omega⟩;have h4:=f.h4;refine Bd (uY (k+3 * (n+1)+2)) dI.1 dI.2 rfl ?_;show wS (b14 (k+3 * (n+1)+2)) [some (.ref src),some (.int e),some (.int s),some (Mw (to::tos)),some (.int kind),none,none,none,none,none,none,none,none] mh _;unfold b14
 walk_at "x1"
 refine Bo _ src 4 H st (by decide) (by decide) fun am h1 ham x1 l1 s1=>?_
 walk_at "x1"
 have ap:∀ (b:Nat),b < 3->∃ a:Int,[D.int 1,D.int 5,D.int 7][b]?=some (.int a)/\(a=1\/a=5\/a=7):=fun b hb=>by
  have:b=0\/b=1\/b=2:=by omega
  rcases this with rfl|rfl|rfl
  ·exact ⟨1,rfl,.inl rfl⟩
  ·exact ⟨5,rfl,.inr (.inl rfl)⟩
  ·exact ⟨7,rfl,.inr (.inr rfl)⟩
 have s1':=s1.ext (Ext.more (W:=[]) (g:=[.lst [.int 1,.int 5,.int 7]])) (by simp);refine Bo _ src 3 H s1' (by decide) (by decide) fun b h2 hb x2 l2 s2=>?_
 obtain ⟨a,ea,ha⟩:=ap b hb;have lt1:=s1.lt;refine Bl (x2.old _ _ (by intro z;have:=List.mem_singleton.mp z;omega) Ak) ea ?_;have x02:Ext [src] mh h2:=(x1.trans Ext.more).trans x2
 walk_at "x1"
 obtain ⟨a',b',c',q',e',gs⟩:=id s2;refine Jk (List.range H) Ao (fun x:Nat=>(!((x:Int)==(s:Int)))&&!((to::tos).contains x)) Ao (by rw [List.length_range];omega) ?_ ?_ ?_
 ·walk_at "x1"
  refine Bl (j:=4) gs rfl ?_
  walk_at "x1"
  exact ⟨_,Du (by omega),Hg rfl⟩
 ·intro x h3 R hx x3 hR;refine Ay ⟨rfl,?_⟩;dsimp only [Hl,Ao]
  walk_at "x1"
  refine Ax (fun z=>?_) fun z=>?_
  ·walk_at "x1"
   refine cW (cY x (to::tos) _) ?_
   walk_at "x1"
   refine ⟨?_,rfl,fun _=>?_⟩
   ·rw [z];rfl
   ·walk_at "x1"
    exact hR _ Ext.refl
  ·refine ⟨?_,rfl,fun w=>?_⟩
   ·rw [z];rfl
   ·rw [z] at w;cases w
 intro h3 x3;have s3:St6 (h3++[.lst ((mss H s to tos).map Ao)]) src H:=s2.ext ((x3.trans Ext.more:Ext [] h2 (h3++[.lst ((mss H s to tos).map Ao)]))) (by simp);have g3:(h3++[.lst ((mss H s to tos).map Ao)])[h3.length]?=some (.lst ((mss H s to tos).map Ao)):=Ak;have x03:Ext [src] mh (h3++[.lst ((mss H s to tos).map Ao)]):=(x02.trans x3.weak).trans Ext.more;have l3:h2.length<=h3.length:=x3.len;have lt2:=s2.lt;show wG (Ag 7 (.ref h3.length) _ (h3++[.lst ((mss H s to tos).map Ao)])) _;generalize h3++[MO.lst ((mss H s to tos).map Ao)]=m3 at s3 g3 x03 ⊢;have ml:=nQ f;have mlt:∀ x∈mss H s to tos,x < 4:=fun x hx=>by have:=List.mem_range.mp (List.mem_filter.mp hx).1;omega
 walk_at "x1"
 refine Bo _ src 4 H s3 (by decide) (by decide) fun w h5 hw x5 l5 s5=>?_
 have jm:h3.length≠src:=by omega
 have g5:=x5.old _ _ (by intro z;exact jm (List.mem_singleton.mp z)) g3;have x05:=x03.trans x5;obtain ⟨a5,b5,c5,q5,e5,gs5⟩:=id s5;refine Ay (Bp (Gv (V8 (P:=fun f l h'=>f=.nx/\∃ (ms:List Nat) (j:Nat),l=[some (.ref src),some (.int e),some (.int s),some (Mw (to::tos)),some (.int kind),some (.int (2+(am:Int))),some (.int a),some (.ref j),some (.int w),none,none,none,none]/\ms.length<=2/\(∀ x∈ms,x < 4)/\h'[j]?=some (.lst (ms.map Ao))/\j≠src/\Ext [src] mh h'/\St6 h' src H) ?_ ?_)))
 ·have emp:∀ {h6:MH},Ext [] h5 h6->wS (Ab (Ah (lstM (Zr [])) (Ag 7)) Zn) [some (.ref src),some (.int e),some (.int s),some (Mw (to::tos)),some (.int kind),some (.int (2+(am:Int))),some (.int a),some (.ref h3.length),some (.int w),none,none,none,none] h6 fun f l h'=>f=.nx/\∃ (ms:List Nat) (j:Nat),l=[some (.ref src),some (.int e),some (.int s),some (Mw (to::tos)),some (.int kind),some (.int (2+(am:Int))),some (.int a),some (.ref j),some (.int w),none,none,none,none]/\ms.length<=2/\(∀ x∈ms,x < 4)/\h'[j]?=some (.lst (ms.map Ao))/\j≠src/\Ext [src] mh h'/\St6 h' src H:=fun {h6} x6=>by
   have:=s5.lt
   walk_at "x1"
   exact ⟨rfl,[],_,rfl,Nat.zero_le _,fun x hx=>(by cases hx),Ak,by have:=x6.len;omega,(x05.trans x6.weak).trans Ext.more,s5.ext (x6.trans Ext.more) (by simp)⟩
  walk_at "x1"
  refine Ax (fun z=>U0 (emp Ext.refl)) fun z=>?_
  walk_at "x1"
  refine Bl (j:=3) gs5 rfl ?_
  walk_at "x1"
  refine Ge (by intro z z';cases z') (El g5) ?_;refine Et (.inl ⟨by omega,by omega⟩) ?_
  walk_at "x1"
  refine Ax (fun z=>emp Ext.refl) fun z=>?_
  walk_at "x1"
  exact ⟨rfl,mss H s to tos,_,rfl,ml,mlt,g5,jm,x05,s5⟩
 rintro fl l h6 ⟨rfl,ms,j,rfl,m2,m4,g6,hj,x6,s6⟩
 clear g5 g3 gs5 gs
 obtain ⟨a6,b6,c6,q6,e6,gs6⟩:=id s6
 walk_at "x1"
 refine Bl (j:=3) gs6 rfl ?_
 walk_at "x1"
 refine Ge (by intro z z';cases z') (El g6) ?_;refine Et (.inl ⟨by omega,by omega⟩) ?_
 walk_at "x1"
 refine ⟨_,Jf (k:=3) gs6 (by simp),?_⟩;generalize q6 - (2+(am:Int)) * ((ms.map Ao).length:Int)=q7;have gs7:=Qk (o:=.lst [.int a6,.int b6,.int c6,.int q7,.int H,.int e6]) gs6;have x7:Ext [src] h6 (h6.set src (.lst [.int a6,.int b6,.int c6,.int q7,.int H,.int e6])):=Ext.set;show Px _ _ _ _ (h6.set src (.lst [.int a6,.int b6,.int c6,.int q7,.int H,.int e6]));generalize h6.set src (.lst [.int a6,.int b6,.int c6,.int q7,.int H,.int e6])=h7 at gs7 x7 ⊢;have nj:j ∉ [src]:=by intro z;exact hj (List.mem_singleton.mp z)
 have g7:=x7.old _ _ nj g6;have s7:St6 h7 src H:=⟨_,_,_,_,_,gs7⟩
 walk_at "x1"
 have s8:St6 (h7++[.lst []]) src H:=s7.ext (Ext.more (W:=[])) (by simp);have g8:(h7++[MO.lst []])[j]?=some (.lst (ms.map Ao)):=(Ext.more (W:=[])).old _ _ (by simp) g7;have b8:(h7++[MO.lst []])[h7.length]?=some (.lst []):=Ak;have x8:Ext [src] mh (h7++[MO.lst []]):=(x6.trans x7).trans Ext.more;have lb:h7.length≠src:=by have:=s7.lt;omega
 have ljb:h7.length≠j:=by have:=Eu g7;omega
 have lmb:mh.length<=h7.length:=(x6.trans x7).len;generalize h7++[MO.lst []]=m8 at s8 g8 b8 x8 ⊢;generalize h7.length=bj at lb ljb b8 lmb ⊢;have nb:bj ∉ [src]:=by intro z;exact lb (List.mem_singleton.mp z)
 have t0:(to:Nat) < 4:=by have:=(f.tl to List.mem_cons_self).1;omega
 refine Ca (List.range (2+am)) Ao (fun i l h'=>∃ (br:List (Int×List D)) (y10 y11 y12:Option D),l=[some (.ref src),some (.int e),some (.int s),some (Mw (to::tos)),some (.int kind),some (.int (2+(am:Int))),some (.int a),some (.ref j),some (.int w),some (.ref bj),y10,y11,y12]/\br.map (·.1)=(List.range i).map (kdF kind a)/\(∀ p∈br,p.2.length<=4/\∀ x∈p.2,Ln 20 (n+1) x)/\Ext [src] mh h'/\St6 h' src H/\h'[bj]?=some (.lst (br.map brD))/\h'[j]?=some (.lst (ms.map Ao))) ?_ ?_ ?_
 ·walk_at "x1"
  refine ⟨_,(by rw [show (2+(am:Int))=((2+am:Nat):Int) from by omega];exact Du (by omega)),rfl,[],_,_,_,rfl,rfl,fun p hp=>(by cases hp),x8,s8,b8,g8⟩
 ·rintro i x l h9 ex ⟨br,y10,y11,y12,rfl,kb,pb,x9,s9,b9,g9⟩;have hi:i < 2+am:=by have:=(List.getElem?_eq_some_iff.mp ex).1;rw [List.length_range] at this;exact this
  have ex:x=i:=by rw [List.getElem?_range hi] at ex;cases ex;rfl
  subst ex;have lbr:br.length=x:=by have:=congrArg List.length kb;simpa using this
  have ab:-(2 ^ 64:Int) < a/\a < 2 ^ 64:=by rcases ha with rfl | rfl | rfl <;> decide
  refine Ay ?_;dsimp only [Ao]
  walk_at "x1"
  refine Et (.inr ab) ?_
  walk_at "x1"
  refine ⟨_,_,rfl,?_⟩;refine Et (.inr ⟨by split <;> decide,by split <;> decide⟩) ?_
  walk_at "x1"
  generalize (1:Int)+((kind:Int)+3+(x:Int) * a * (if decide (1 < (w:Int))=true then 1 else 0)).fmod 12=hd;refine Jl ms Ao (fun y=>Bx to y hd) (by omega) ?_ ?_ ?_
  ·walk_at "x1"
   exact ⟨_,src_list g9,Ext.refl,Ku g9⟩
  ·intro y h10 R hy x10 hR;refine Ay ⟨rfl,?_⟩;dsimp only [Hl,Ao]
   walk_at "x1"
   refine Ek (j:=0) rfl ?_
   walk_at "x1"
   exact hR _ Ext.refl
  intro h10 x10
  walk_at "x1"
  refine Cu (Jj _ _) ?_;have x11:Ext [] h9 (h10++[MO.lst (ms.map fun y:Nat=>Bx to y hd)]):=x10.trans Ext.more;generalize h10++[MO.lst (ms.map fun y:Nat=>Bx to y hd)]=h11 at x11 ⊢;have s11:=s9.ext x11 (by simp);have b11:=x11.old _ _ (by simp) b9;have g11:=x11.old _ _ (by simp) g9
  walk_at "x1"
  refine ⟨ty_list b11,?_⟩
  walk_at "x1"
  refine Et (.inr ab) ?_
  walk_at "x1"
  refine L k src _ he s11 fun ds h12 dl dn x12 s12=>?_
  have b12:=x12.old _ _ nb b11;have g12:=x12.old _ _ nj g11;refine Bb (by rw [List.length_map];omega) ?_
  walk_at "x1"
  refine G9 b12 (by rw [List.length_map];omega) ?_
  walk_at "x1"
  refine ⟨br++[(kdF kind a x,(ms.map fun y:Nat=>Bx to y hd)++ds)],_,_,_,rfl,?_,fun p hp=>?_,?_,?_,?_,Gh g12 ljb⟩
  ·rw [List.map_append,kb,List.range_succ,List.map_append];rfl
  ·rcases List.mem_append.mp hp with hp|hp
   ·exact pb p hp
   ·rw [List.mem_singleton.mp hp];refine ⟨by rw [List.length_append,List.length_map];omega,fun z hz=>?_⟩;rcases List.mem_append.mp hz with hz|hz
    ·obtain ⟨y,hy,rfl⟩:=List.mem_map.mp hz;exact Wn _ _ _ t0 (m4 y hy)
    ·exact dn z hz
  ·exact ((x9.trans x11.weak).trans x12).setNew lmb
  ·obtain ⟨a,b,c,q,e,z⟩:=s12;exact ⟨a,b,c,q,e,Gh z lb⟩
  ·rw [Ew b12,List.map_append];rfl
 ·rintro l h9 ⟨br,y10,y11,y12,rfl,kb,pb,x9,s9,b9,g9⟩;rw [List.length_range] at kb;have lbr:br.length=2+am:=by have:=congrArg List.length kb;simpa using this
  walk_at "x1"
  refine Cu (El b9) ?_
  walk_at "x1"
  refine h _ _ ⟨.fork s to (tos.map fun x:Nat=>(x:Int)) br,?_,⟨fun x hx=>?_,?_,?_,by omega,?_,?_⟩,fun x hx=>?_⟩ x9 s9
  ·show _=D.tup [.str "fork",.int s,itD ((to:Int)::tos.map fun x:Nat=>(x:Int)),.tup (br.map brD)];have:Mw (to::tos)=itD ((to:Int)::tos.map fun x:Nat=>(x:Int)):=by
    show D.tup ((to::tos).map Ao)=D.tup (((to:Int)::tos.map fun x:Nat=>(x:Int)).map D.int);rw [Mx];rfl
   rw [this]
  ·have sl:=f.sl;rcases List.mem_cons.mp hx with hx|hx
   ·have hx:x=(s:Int):=hx;omega
   ·have hx:x∈((to:Int)::tos.map fun x:Nat=>(x:Int)):=hx;rcases List.mem_cons.mp hx with hx|hx
    ·omega
    ·obtain ⟨y,hy,rfl⟩:=List.mem_map.mp hx;have:=(f.tl y (List.mem_cons_of_mem _ hy)).1;omega
  ·show ((to:Int)::tos.map fun x:Nat=>(x:Int)).length<=3;have:=f.t3
   simpa using this
  ·show (br.map (·.2)).flatten.length<=20;rw [List.length_flatten,List.map_map];have:∀ l:List (Int×List D),(∀ p∈l,p.2.length<=4)->(l.map (List.length ∘ fun x=>x.2)).sum<=l.length * 4:=fun l=>by
    induction l with
    | nil=>intro _;simp
    | cons p r ih =>
     intro hl;have h1:=hl p List.mem_cons_self;have h2:=ih fun q hq=>hl q (List.mem_cons_of_mem _ hq)
     simp only [List.map_cons,List.sum_cons,List.length_cons,Function.comp_def] at h2 ⊢;omega
   have:=this br fun p hp=>(pb p hp).1
   omega
  ·intro z;rw [z] at lbr;simp at lbr;omega
  ·rw [kb];exact gF ha kind (by omega)
  ·obtain ⟨t,ht,hxt⟩:=List.mem_flatten.mp hx;obtain ⟨p,hp,rfl⟩:=List.mem_map.mp ht;exact (pb p hp).2 x hxt
theorem vY {H s:Nat}(h2:2<=H) (hs:s < H):((List.range H).filter fun x:Nat=>!((x:Int)==(s:Int)))≠[]:=by
 intro z;have:(if s=0 then 1 else 0)∈((List.range H).filter fun x:Nat=>!((x:Int)==(s:Int))):=by
  refine List.mem_filter.mpr ⟨List.mem_range.mpr (by split <;> omega),?_⟩
  by_cases e:s=0
  ·rw [if_pos e,e];decide
  ·rw [if_neg e,Bool.not_eq_true',beq_eq_false_iff_ne];omega
 rw [z] at this;cases this
theorem vZ {H s:Nat}(h4:H<=4) (hs:s < H):((List.range H).filter fun x:Nat=>!((x:Int)==(s:Int))).length<=3:=by
 have h:=Qo (l:=s::((List.range H).filter fun x:Nat=>!((x:Int)==(s:Int)))) (l':=List.range H) ?_ ?_
 ·rw [List.length_range,List.length_cons] at h;omega
 ·refine List.nodup_cons.mpr ⟨fun z=>?_,List.Pairwise.filter _ List.nodup_range⟩;have:=(List.mem_filter.mp z).2;simp at this
 ·intro x hx;rcases List.mem_cons.mp hx with rfl|hx
  ·exact List.mem_range.mpr hs
  ·exact (List.mem_filter.mp hx).1
theorem nT {H s x:Nat}(h:x∈((List.range H).filter fun x:Nat=>!((x:Int)==(s:Int)))):x < H/\x≠s:=by
 obtain ⟨h1,h2⟩:=List.mem_filter.mp h;refine ⟨List.mem_range.mp h1,fun z=>?_⟩;subst z;simp at h2
theorem Wo {H n:Nat}(h2:2<=H) (h4:H<=4) (hn:n<=5) (LI:1<=n->Ky H n) (LF:1<=n->gG H n):Qx H (n+1):=by
 intro k mh P src e he st h;refine Bd (uX (k+3 * n+3)) dH.1 dH.2 rfl ?_;show wS (b13 (k+3 * n+3)) [some (.ref src),some (.int e),none,none,none,none,none,none] mh _;unfold b13;obtain ⟨a0,b0,c0,q0,e0,gs⟩:=id st
 walk_at "x1"
 refine Bl (j:=4) gs rfl ?_
 walk_at "x1"
 refine Bo _ src H H st (by omega) (by omega) fun s h1 hs x1 l1 s1=>?_
 obtain ⟨a1,b1,c1,q1,e1,gs1⟩:=id s1
 walk_at "x1"
 refine Jk (List.range H) Ao (fun x:Nat=>!((x:Int)==(s:Int))) Ao (by rw [List.length_range];omega) ?_ ?_ ?_
 ·walk_at "x1"
  refine Bl (j:=4) gs1 rfl ?_
  walk_at "x1"
  exact ⟨_,Du (by omega),Hg rfl⟩
 ·intro x h3 R hx x3 hR;refine Ay ⟨rfl,?_⟩;dsimp only [Hl,Ao]
  walk_at "x1"
  refine ⟨rfl,rfl,fun _=>?_⟩
  walk_at "x1"
  exact hR _ Ext.refl
 intro h3 x3;have on:=vY h2 hs;have ol:=vZ h4 hs;have om:∀ x∈((List.range H).filter fun x:Nat=>!((x:Int)==(s:Int))),x < H/\x≠s:=fun x hx=>nT hx
 generalize ((List.range H).filter fun x:Nat=>!((x:Int)==(s:Int)))=os at on ol om ⊢;have op:0 < os.length:=List.length_pos_iff.mpr on;have x03:Ext [src] mh (h3++[.lst (os.map Ao)]):=(x1.trans x3.weak).trans Ext.more;have s3:St6 (h3++[.lst (os.map Ao)]) src H:=s1.ext ((x3.trans Ext.more:Ext [] h1 (h3++[.lst (os.map Ao)]))) (by simp);have g3:(h3++[MO.lst (os.map Ao)])[h3.length]?=some (.lst (os.map Ao)):=Ak;have hj:h3.length≠src:=by have:=s1.lt;have:=x3.len;omega
 show wG (Ag 3 (.ref h3.length) _ (h3++[.lst (os.map Ao)])) _;generalize h3++[MO.lst (os.map Ao)]=m3 at x03 s3 g3 ⊢;generalize h3.length=j at hj g3 ⊢;have nj:j ∉ [src]:=by intro z;exact hj (List.mem_singleton.mp z)
 walk_at "x1"
 refine Bo _ src 4 H s3 (by decide) (by decide) fun w h5 hw x5 l5 s5=>?_
 walk_at "x1"
 refine Bo _ src 12 H s5 (by decide) (by decide) fun c h6 hc x6 l6 s6=>?_
 have g6:=(x5.trans x6).old _ _ nj g3;have x06:=x03.trans (x5.trans x6)
 have sayc:∀ {Q:Fl->DL.Loc->MH->Prop} {l:DL.Loc},l=[some (.ref src),some (.int e),some (.int s),some (.ref j),some (.int w),some (.int c),none,none]->(∀ d h',P d h'->Q (.rt d) l h')->wS (Ab (retS (Bk (Aa (Zr (.str "say")) (Aa (vr 2) (Aa (dop ixD (vr 3) (Al (Af (Gk (k+3 * n+3)) fuel f10) (Aa (vr 0) (Aa (Al Es (Aa (vr 3) (Zr []))) (Zr []))))) (Aa (dop Aq (Zr (.int 1)) (vr 5)) (Zr [])))))))
 Zn) l h6 Q:=fun {Q l} el hQ=>by
  subst el
  walk_at "x1"
  refine Ge (by intro z z';cases z') (El g6) ?_;rw [List.length_map]
  walk_at "x1"
  refine Bo _ src os.length H s6 op (by omega) fun r h7 hr x7 l7 s7=>?_
  have g7:=x7.old _ _ nj g6;refine Bl (j:=r) g7 (by rw [List.getElem?_map,List.getElem?_eq_getElem hr];rfl) ?_
  walk_at "x1"
  have hm:=om _ (List.getElem_mem hr);exact hQ _ _ (h _ _ (Wn 20 n (1+(c:Int)) (by omega) (show os[r] < 4 by omega)) (x06.trans x7) s7)
 walk_at "x1"
 refine Ax (fun z=>U0 (sayc rfl fun d h' q=>q)) fun z=>?_
 walk_at "x1"
 refine Ax (fun z=>sayc rfl fun d h' q=>q) fun z2=>?_
 have hn1:1<=n:=by have:=of_decide_eq_false z2;omega
 walk_at "x1"
 refine nP (k+3 * n+1) src H j s6 os g6 hj on ol fun to tos h7 tm tl x7 s7=>?_
 have fk:Fk H n s to tos:=⟨h2,h4,hs,fun x hx=>om x (tm x hx),by omega⟩
 walk_at "x1"
 refine Ax (fun z3=>?_) fun z3=>?_
 ·walk_at "x1"
  refine Bo _ src 11 H s7 (by decide) (by decide) fun y h8 hy x8 l8 s8=>?_
  walk_at "x1"
  have L0:Ky H n:=LI hn1;have LI':=@L0 (k+1);rw [show k+1+3 * n+2=k+3 * n+3 from by omega] at LI';refine LI' src _ (by omega) s8 fun ds h9 dl dn x9 s9=>?_
  walk_at "x1"
  refine h _ _ ⟨.again s to (tos.map fun x:Nat=>(x:Int)) (1+(c:Int)) ds (1+((c:Int)+1+(y:Int)).fmod 12),?_,⟨fun x hx=>?_,?_,?_,?_⟩,fun x hx=>?_⟩ (((x06.trans x7).trans x8).trans x9) s9
  ·show _=D.tup [.str "again",.int s,itD ((to:Int)::tos.map fun x:Nat=>(x:Int)),.int (1+(c:Int)),.tup ds,.int (1+((c:Int)+1+(y:Int)).fmod 12)];have:Mw (to::tos)=itD ((to:Int)::tos.map fun x:Nat=>(x:Int)):=by
    show D.tup ((to::tos).map Ao)=D.tup (((to:Int)::tos.map fun x:Nat=>(x:Int)).map D.int);rw [Mx];rfl
   rw [this]
  ·rcases List.mem_cons.mp hx with hx|hx
   ·have hx:x=(s:Int):=hx;omega
   ·have hx:x∈((to:Int)::tos.map fun x:Nat=>(x:Int)):=hx;rcases List.mem_cons.mp hx with hx|hx
    ·have:=(fk.tl to List.mem_cons_self).1;omega
    ·obtain ⟨y,hy,rfl⟩:=List.mem_map.mp hx;have:=(fk.tl y (List.mem_cons_of_mem _ hy)).1;omega
  ·show ((to:Int)::tos.map fun x:Nat=>(x:Int)).length<=3;have:=fk.t3
   simpa using this
  ·show [ds].flatten.length<=20;simp;omega
  ·show (1+(c:Int))≠1+((c:Int)+1+(y:Int)).fmod 12;rw [Int.fmod_eq_emod_of_nonneg _ (by decide)];omega
  ·obtain ⟨t,ht,hxt⟩:=List.mem_flatten.mp hx;rw [List.mem_singleton.mp ht] at hxt;exact dn x hxt
 ·walk_at "x1"
  exact LF hn1 k src s to c tos e fk (by omega) s7 fun d h8 ld x8 s8=>h d h8 ld ((x06.trans x7).trans x8) s8
theorem Te {H:Nat}(h2:2<=H) (h4:H<=4):∀ n,n<=5->Qx H (n+1)
 | 0,_=>Wo h2 h4 (by decide) (fun z=>absurd z (by decide)) (fun z=>absurd z (by decide))
 | n+1,hn=>by
  have L:=Te h2 h4 n (by omega);exact Wo h2 h4 hn (fun _=>Td L) (fun _=>nR (Td L) (by omega))
section
variable {mh:MH}{P:D->MH->Prop}
theorem wA {ns:List Int}{lo hi:Option Int}(h:P (.ref mh.length) (mh++[.lst ((DL.cutD ns lo hi).map D.int)])):wV (slD (.rol (ns.map D.int)) lo hi mh) P:=by
 refine ⟨_,_,?_,h⟩;show some (D.ref mh.length,mh++[MO.lst (DL.cutD (ns.map D.int) lo hi)])=_;have:DL.cutD (ns.map D.int) lo hi=(DL.cutD ns lo hi).map D.int:=by
  unfold DL.cutD;rw [List.length_map,← List.map_drop,← List.map_take]
 rw [this]
theorem nU (ns:List Int):(DL.cutD ns (some 2) (some 8)).length<=6:=by
 unfold DL.cutD;rw [show HT.sIx ns.length 0 (some 2)=min 2 ns.length from HT.sIx_nat _ _ 2,show HT.sIx ns.length ns.length (some 8)=min 8 ns.length from HT.sIx_nat _ _ 8,List.length_take,List.length_drop];omega
theorem gH (k:Nat) (ns:List Int) (h:∀ t h',t.length<=6->(∀ x∈t,Ln 20 5 x)->Ext [] mh h'->P (.tup t) h'):wV (Af (Gk (k+17)) fuel f15 [.rol (ns.map D.int),.int 6] mh) P:=by
 refine Bd (uZ (k+16)) dJ.1 dJ.2 rfl ?_;show wS (b15 (k+16)) [some (.rol (ns.map D.int)),some (.int 6),none,none,none,none] mh _;unfold b15
 walk_at "x1"
 have x0:Ext [] mh (mh++[MO.lst []]):=Ext.more;have g0:(mh++[MO.lst []])[mh.length]?=some (.lst []):=Ak;have l0:mh.length < (mh++[MO.lst []]).length:=Eu g0;generalize mh++[MO.lst []]=m0 at x0 g0 l0 ⊢;refine Gx (k+15) ns 0 fun v=>?_
 walk_at "x1"
 obtain ⟨r,hr,er⟩:=My v 3 (by decide);have er:v.fmod 3=(r:Int):=er;rw [er,show (2+(r:Int))=((2+r:Nat):Int) from by omega];have h2:2<=2+r:=by omega
 have h4:2+r<=4:=by omega
 generalize 2+r=H at h2 h4 ⊢;have L:Qx H 5:=Te h2 h4 4 (by decide);refine Ig ?_
 walk_at "x1"
 refine wA ?_;rw [show ((2:Int)+6)=8 from rfl];have c6:=nU ns;generalize DL.cutD ns (some 2) (some 8)=cs at c6 ⊢;have g1:(m0++[MO.lst (cs.map D.int)])[m0.length]?=some (.lst (cs.map D.int)):=Ak;have x1:Ext [] m0 (m0++[MO.lst (cs.map D.int)]):=Ext.more;have gl:=x1.old _ _ (by simp) g0;generalize m0++[MO.lst (cs.map D.int)]=m1 at g1 x1 gl ⊢;refine ⟨_,src_list g1,Ez 0 (cs.map D.int),fun i l h'=>∃ (ds:List D) (y4 y5:Option D),l=[some (.rol (ns.map D.int)),some (.int 6),some (.ref mh.length),some (.int H),y4,y5]/\ds.length<=i/\(∀ x∈ds,Ln 20 5 x)/\Ext [] mh h'/\h'[mh.length]?=some (.lst ds)/\h'[m0.length]?=some (.lst (cs.map D.int)),⟨[],_,_,rfl,Nat.le_refl _,fun x hx=>(by cases hx),x0.trans x1,gl,g1⟩,fun i l h' ⟨_,_,_,_,_,_,_,_,q⟩=>?_,?_,?_⟩
 ·have:=Fo q;exact ⟨this.1,by show Ez 0 (Src.items (.lref m0.length) h')=_;rw [this.2]⟩
 ·rintro i d l h2 ed ⟨ds,y4,y5,rfl,dl,dn,x2,g2,q2⟩;rw [G3] at ed;obtain ⟨c',ec,rfl⟩:=Option.map_eq_some_iff.mp ed;rw [List.getElem?_map] at ec;obtain ⟨c,ec2,rfl⟩:=Option.map_eq_some_iff.mp ec;have hi:i < cs.length:=(List.getElem?_eq_some_iff.mp ec2).1;refine J0 rfl ?_;dsimp only [Fz]
  walk_at "x1"
  refine ⟨ty_list g2,?_⟩
  walk_at "x1"
  refine Gx (k+15) ns 1 fun v1=>?_
  walk_at "x1"
  refine Et (.inl ⟨by decide,by decide⟩) ?_
  walk_at "x1"
  have s3:St6 (h2++[MO.lst [.int c,.int v1,.int (61 * ((0+i:Nat):Int)),.int 5,.int H,.int c]]) h2.length H:=⟨_,_,_,_,_,Ak⟩;have x3:Ext [] h2 (h2++[MO.lst [.int c,.int v1,.int (61 * ((0+i:Nat):Int)),.int 5,.int H,.int c]]):=Ext.more;generalize h2++[MO.lst [D.int c,.int v1,.int (61 * ((0+i:Nat):Int)),.int 5,.int H,.int c]]=h3 at s3 x3 ⊢;refine L k h2.length 1 (by decide) s3 fun d h4 ld x4 s4=>?_
  have lg:=Eu g2;have lq:=Eu q2;have g4:=x4.old _ _ (by intro z;have:=List.mem_singleton.mp z;omega) (x3.old _ _ (by simp) g2);have q4:=x4.old _ _ (by intro z;have:=List.mem_singleton.mp z;omega) (x3.old _ _ (by simp) q2);have x24:Ext [] h2 h4:=⟨Nat.le_trans x3.len x4.len,fun a o _ e=>x4.old a o (by intro z;have:=List.mem_singleton.mp z;have:=Eu e;omega) (x3.old a o (by simp) e)⟩
  walk_at "x1"
  refine G9 g4 (by omega) ?_
  walk_at "x1"
  refine ⟨ds++[d],_,_,rfl,by rw [List.length_append,List.length_singleton];omega,fun x hx=>?_,(x2.trans x24).setNew (Nat.le_refl _),Ew g4,Gh q4 (by omega)⟩;rcases List.mem_append.mp hx with hx|hx
  ·exact dn x hx
  ·rw [List.mem_singleton.mp hx];exact ld
 ·rintro l h2 ⟨ds,y4,y5,rfl,dl,dn,x2,g2,q2⟩;rw [G4,List.length_map] at dl
  walk_at "x1"
  refine Cu (El g2) ?_;exact h ds _ (by omega) dn x2
theorem wB {j:Nat}{l:List Wy}{k:List Int}(d:Dst mh j (l.map wE)) (h:P (.bl (!(l.find? fun w=>w.1==k).isSome)) mh):wV (inD true (itD k) (.ref j) mh) P:=by
 refine ⟨_,_,?_,h⟩;have ek:=Mz k;have kn:Nh (itD k)=none:=rfl;rcases d with ⟨e,d⟩|d
 ·have e:l=[]:=by simpa using e
  subst e;unfold inD;rw [Oj d];dsimp only;unfold R4;rw [kn,ek];rfl
 ·unfold inD;rw [Jt d];dsimp only;rw [ek,Option.map_some,Qt];dsimp only;cases l.find? fun w=>w.1==k <;> rfl
theorem wC {j i:Nat}{l:List (PyData×D)}(d:Dst mh j l) (g:mh[i]?=some (.dct [])) (h:P (.bl (l.length==0)) mh):wV (eqD (.ref j) (.ref i) mh) P:=by
 refine ⟨_,_,?_,h⟩;have e1:eqB mh (.ref j) (.ref i)=none:=by
  unfold eqB;have:py mh 60 (.ref j)=none:=by
   rcases d with ⟨_,d⟩ | d <;>
   ·show (match mh[j]? with | some (.lst o)=>(match Bm (py mh 59) o with | some xs=>some (PyData.list xs) | none=>none) | _=>none)=_;rw [d]
  rw [this]
 have e2:dSz (.ref i) mh=some 0:=by unfold dSz;simp only [g];rfl
 unfold eqD;rw [e1];dsimp only;unfold eqE;rw [d.sz,e2];rfl
theorem Tf:∀ (l:List Wy),(∀ w∈l,w.1≠[])->Oo (l.map wE)=some (l.map (·.1))
 | [],_=>rfl
 | w::r,h=>by
  have e1:bH (kI w.1)=some w.1:=by
   have h0:=h w List.mem_cons_self;obtain ⟨k,t⟩:=w;cases k with
   | nil=>exact absurd rfl h0
   | cons a b =>
    show Ma ((a::b).map PyData.int)=_;have:∀ l:List Int,Ma (l.map PyData.int)=some l:=fun l=>by
     induction l with
     | nil=>rfl
     | cons x y ih =>
      show (match Ma (y.map PyData.int) with | some ns=>some (x::ns) | none=>none)=_;rw [ih]
    exact this _
  show (match bH (kI w.1) with | some n=>(match Oo (r.map wE) with | some ns=>some (n::ns) | none=>none) | none=>none)=_;rw [e1,Tf r fun v hv=>h v (List.mem_cons_of_mem _ hv)];rfl
theorem gJ {j:Nat}{l:List Wy}(g:mh[j]?=some (.dtk (l.map wE))) (h0:∀ w∈l,w.1≠[]) (hz:l.length < 64) (h:P (.ref mh.length) (mh++[.lst ((Ei (l.map (·.1))).map tnD)])):wV (Dk [.ref j] mh) P:=by
 refine ⟨_,_,?_,h⟩;unfold Dk;simp only [g,Tf l h0,List.length_map,if_pos hz]
theorem Wq {j:Nat}{l:List (PyData×D)}(d:Dst mh j l) (h:P (.int l.length) mh):wV (Es [.ref j] mh) P:=by
 refine ⟨_,_,?_,h⟩;rcases d with ⟨rfl,d⟩|d
 ·simp only [Es,d];rfl
 ·simp only [Es,d]
end
noncomputable def depth:Nat:=30
theorem Wr {B n m:Nat}{t:List D}(T:Tk B n m t) {w:Wy}(h:w∈due n t):∃ (a:Nat) (b c:Int),a < 4/\w.1=[(a:Int),b,c]:=by
 obtain ⟨a,ha,hw⟩:=List.mem_flatMap.mp h;refine ⟨a,?_⟩;have ha:=List.mem_range.mp ha;unfold Jm at hw;split at hw
 ·cases hw
 ·rename_i i ei;obtain ⟨hi,_⟩:=List.findIdx?_eq_some_iff_getElem.mp ei;have eg:t.getD i .non=t[i]:=by rw [List.getD_eq_getElem?_getD,List.getElem?_eq_getElem hi];rfl
  obtain ⟨m',s,rfl,es,so,sk⟩:=(T.ln _ (List.getElem_mem hi)).sh;rw [eg,es,Wg] at hw;dsimp only at hw;split at hw
  ·obtain ⟨v,hv,rfl⟩:=List.mem_map.mp hw;obtain ⟨_,b,c,e⟩:=Wj so sk hv;exact ⟨b,c,ha,by show (a:Int)::v.1=_;rw [e]⟩
  ·cases hw
theorem wF (n:Nat) (t:List D) (ls:List Lt) (l l2:Lt):lf n t (ls++[l,l2])=lf1 n (lf1 n (lf n t ls) l) l2:=by
 have:ls++[l,l2]=(ls++[l])++[l2]:=by simp
 rw [this,Ih,Ih]
theorem wH (ns:List Int):wV (Af (Gk depth) fuel f25 [.rol (ns.map D.int)] []) fun d _=>d=.bl true:=by
 refine Bd (vL 29) eF.1 eF.2 rfl ?_;show wS (b25 29) [some (.rol (ns.map D.int)),none,none,none,none,none,none,none,none,none,none,none] [] _;unfold b25
 walk_at "x1"
 refine Gx 28 ns 8 fun v8=>?_
 walk_at "x1"
 refine gC 24 v8 fun h1 x1=>?_
 walk_at "x1"
 refine gH 12 ns fun t0 h2 l6 ln0 x2=>?_
 have T0:Tk 20 5 6 t0:=⟨ln0,l6,by decide,by decide,by decide⟩
 walk_at "x1"
 have g3:(h2++[MO.lst []])[h2.length]?=some (.lst (([]:List Lt).map lD)):=Ak;generalize h2++[MO.lst []]=h3 at g3 ⊢;generalize h2.length=jl at g3 ⊢;refine Gx 28 ns 9 fun v9=>?_
 walk_at "x1"
 refine Ca (List.range 9) Ao (fun i l h'=>∃ (t:List D) (ls:List Lt) (cell:Int) (y5 y6 y7 y8 y9 y10 y11:Option D),l=[some (.rol (ns.map D.int)),some (.tup t0),some (.tup t),some (.ref jl),some (.int cell),y5,y6,y7,y8,y9,y10,y11]/\lf 5 t0 ls=some t/\ls.length=i/\h'[jl]?=some (.lst (ls.map lD))) ?_ ?_ ?_
 ·walk_at "x1"
  exact ⟨_,Du (m:=9) (by decide),rfl,_,[],_,_,_,_,_,_,_,_,rfl,rfl,rfl,g3⟩
 ·rintro i x l h4 ex ⟨t,ls,cell,y5,y6,y7,y8,y9,y10,y11,rfl,et,li,g4⟩;have hi:i < 9:=by have:=(List.getElem?_eq_some_iff.mp ex).1;rw [List.length_range] at this;exact this
  have ex:x=i:=by rw [List.getElem?_range hi] at ex;cases ex;rfl
  subst ex;have T:Tk 20 5 (6+ls.length * 24) t:=oZ (c:=0) T0 ls (by omega) et;have dt:=Ii T (by decide);refine Ay ?_;dsimp only [Ao]
  walk_at "x1"
  refine nF 21 20 5 _ t T (by omega) fun j6 h5 x5 lj d5=>?_
  have g5:=x5.old _ _ (by simp) g4
  walk_at "x1"
  refine Gw 25 20 5 6 t0 T0 (.ref jl) ls ⟨_,src_list g5,Ku g5⟩ (by omega) fun h6 x6=>?_
  have g6:=x6.old _ _ (by simp) g5;have d6:=d5.ext x6;rw [et]
  walk_at "x1"
  refine Ji rfl dt ?_
  walk_at "x1"
  refine Ni 24 20 5 _ t T (by decide) (by omega) j6 d6 fun h7 x7=>?_
  have g7:=x7.old _ _ (by simp) g6;have d7:=d6.ext x7
  walk_at "x1"
  refine Gx 28 ns 8 fun v8=>?_
  walk_at "x1"
  refine Jg (by omega) (by omega) ?_
  walk_at "x1"
  generalize (1:Int)+(v8.fdiv (1+(x:Int))).fmod 12=kd;obtain ⟨a,ha,ea⟩:=My (x:Int) 4 (by decide);have ea:(x:Int).fmod 4=(a:Int):=ea;rw [ea];generalize ((x:Int)+1).fmod 4=b
  walk_at "x1"
  refine Ks ((Ext.more (W:=[])).old _ _ (by simp) g7) Ak (by rw [List.length_map];simp;omega) ?_;have eL:ls.map lD++[D.tup [.int a,.int b,.int kd],D.tup [.int 0,.int 1,.int 2]]=(ls++[((a:Int),b,kd),(0,1,2)]).map lD:=by rw [List.map_append];rfl
  rw [eL];have x8:Ext [] h7 (h7++[MO.lst [D.tup [.int a,.int b,.int kd],D.tup [.int 0,.int 1,.int 2]]]++[MO.lst ((ls++[((a:Int),b,kd),(0,1,2)]).map lD)]):=Ext.more.trans Ext.more;have gL:(h7++[MO.lst [D.tup [.int a,.int b,.int kd],D.tup [.int 0,.int 1,.int 2]]]++[MO.lst ((ls++[((a:Int),b,kd),(0,1,2)]).map lD)])[(h7++[MO.lst [D.tup [.int a,.int b,.int kd],D.tup [.int 0,.int 1,.int 2]]]).length]?=some (.lst ((ls++[((a:Int),b,kd),(0,1,2)]).map lD)):=Ak;generalize (h7++[MO.lst [D.tup [.int a,.int b,.int kd],D.tup [.int 0,.int 1,.int 2]]]).length=jL at gL ⊢;generalize h7++[MO.lst [D.tup [.int a,.int b,.int kd],D.tup [.int 0,.int 1,.int 2]]]++[MO.lst ((ls++[((a:Int),b,kd),(0,1,2)]).map lD)]=h8 at x8 gL ⊢
  walk_at "x1"
  refine Gw 25 20 5 6 t0 T0 (.ref jL) _ ⟨_,src_list gL,Ku gL⟩ (by rw [List.length_append];simp;omega) fun h9 x9=>?_
  have g9:=(x8.trans x9).old _ _ (by simp) g7;have d9:=(d7.ext x8).ext x9;have fd:=M5 T ha b kd;refine Ay (Bp (Gv (V8 (P:=fun f l h'=>f=.nx/\l=[some (.rol (ns.map D.int)),some (.tup t0),some (.tup t),some (.ref jl),some (.int cell),some (.int x),some (.ref j6),some (oD (lf 5 t0 (ls++[((a:Int),b,kd),(0,1,2)]))),some (.int kd),some (.tup [.int a,.int b,.int kd]),some (.ref jL),y11]/\h'=h9) ?_ ?_)))
  ·walk_at "x1"
   refine wB (k:=[(a:Int),b,kd]) d9 ?_
   walk_at "x1"
   refine Ax (fun q=>?_) fun q=>?_
   ·have q2:(due 5 t).find? (fun w=>w.1==[(a:Int),b,kd])=none:=by
     cases e:(due 5 t).find? (fun w=>w.1==[(a:Int),b,kd]) with
     | none=>rfl
     | some w=>rw [e] at q;cases q
    have q3:lf 5 t0 (ls++[((a:Int),b,kd),(0,1,2)])=none:=by
     rw [q2] at fd;rw [wF,et];show lf1 5 (flw 5 t a b kd) _=none;rw [← fd];rfl
    rw [q3]
    walk_at "x1"
    refine ⟨_,_,rfl,?_⟩
    walk_at "x1"
    exact ⟨rfl,rfl,rfl⟩
   ·walk_at "x1"
    exact ⟨rfl,rfl,rfl⟩
  rintro fl l h10 ⟨rfl,rfl,rfl⟩;have dl:(due 5 t).length<=20:=Qu T 4;refine Bp (Gv (oN ?_));refine V7 (cO (cN rfl (Je ?_)));have d11:=d9.ext (Ext.more (g:=[.dct []]));have g11:=(Ext.more (W:=[]) (g:=[.dct []])).old _ _ (by simp) g9;refine wC d11 Ak ?_;rw [List.length_map];generalize h10++[MO.dct []]=h11 at d11 g11 ⊢
  walk_at "x1"
  refine Ax (fun q=>?_) fun q=>?_
  ·walk_at "x1"
   refine Cu (El g11) ?_
   walk_at "x1"
   refine Gw 25 20 5 6 t0 T0 (.tup (ls.map lD)) ls ⟨_,rfl,fun h' _=>⟨rfl,rfl⟩⟩ (by omega) fun h12 x12=>?_
   rw [et]
   walk_at "x1"
   exact eq_refl rfl dt rfl
  ·have dp:0 < (due 5 t).length:=by
    have:(due 5 t).length≠0:=fun z=>by rw [z] at q;cases q
    omega
   have g12:h11[j6]?=some (.dtk ((due 5 t).map wE)):=by
    rcases d11 with ⟨e,_⟩|e
    ·have:(due 5 t)=[]:=by simpa using e
     rw [this] at dp;simp at dp
    ·exact e
   walk_at "x1"
   refine gJ g12 (fun w hw=>by obtain ⟨a,b,c,_,e⟩:=Wr T hw;rw [e];exact fun z=>by cases z) (by omega) ?_;have x13:Ext [] h11 (h11++[MO.lst ((Ei ((due 5 t).map (·.1))).map tnD)]):=Ext.more;have g13:(h11++[MO.lst ((Ei ((due 5 t).map (·.1))).map tnD)])[h11.length]?=some (.lst ((Ei ((due 5 t).map (·.1))).map tnD)):=Ak;generalize h11.length=j13 at g13 ⊢;generalize h11++[MO.lst ((Ei ((due 5 t).map (·.1))).map tnD)]=h13 at x13 g13 ⊢;have d13:=d11.ext x13;have gl13:=x13.old _ _ (by simp) g11
   walk_at "x1"
   refine Wq d13 ?_;rw [List.length_map];refine J1 (by omega) ?_;obtain ⟨r,hr,er⟩:=My cell (due 5 t).length dp;rw [er];have sl:(Ei ((due 5 t).map (·.1))).length=(due 5 t).length:=by rw [(Ib _).length_eq,List.length_map]
   obtain ⟨key,ek⟩:∃ key,(Ei ((due 5 t).map (·.1)))[r]?=some key:=⟨_,List.getElem?_eq_getElem (by omega)⟩;have km:key∈(due 5 t).map (·.1):=(Ib _).mem_iff.mp (List.mem_of_getElem? ek);obtain ⟨w,hw,rfl⟩:=List.mem_map.mp km;obtain ⟨a2,b2,c2,ha2,ew⟩:=Wr T hw;refine Bl (j:=r) g13 (by rw [List.getElem?_map,ek];rfl) ?_;rw [ew]
   walk_at "x1"
   refine Wq d13 ?_;rw [List.length_map];refine Jg (by omega) (by omega) ?_
   walk_at "x1"
   refine ⟨ty_list gl13,?_⟩
   walk_at "x1"
   refine G9 gl13 (by rw [List.length_map];omega) ?_;have gl14:=Ew (o:=.lst (ls.map lD++[tnD [(a2:Int),b2,c2]])) gl13;have nej:jl≠j6:=fun z=>by
    rw [z,g12] at g11;cases g11
   have g14:=Gh (o:=.lst (ls.map lD++[tnD [(a2:Int),b2,c2]])) (x13.old _ _ (by simp) g12) nej;generalize h13.set jl (.lst (ls.map lD++[tnD [(a2:Int),b2,c2]]))=h14 at gl14 g14 ⊢
   walk_at "x1"
   have fd2:=M5 T ha2 b2 c2;cases ef:(due 5 t).find? (fun w=>w.1==[(a2:Int),b2,c2]) with
   | none =>
    have:=List.find?_eq_none.mp ef w hw;rw [ew,beq_self_eq_true] at this;exact absurd rfl this
   | some w2 =>
    rw [ef] at fd2;refine mU (k:=kI [(a2:Int),b2,c2]) (d:=.tup w2.2) g14 (Mz _) (by rw [Qt,ef];rfl) ?_
    walk_at "x1"
    refine ⟨w2.2,ls++[((a2:Int),b2,c2)],_,_,_,_,_,_,_,_,rfl,?_,by rw [List.length_append,li];rfl,?_⟩
    ·rw [Ih,et];exact fd2.symm
    ·rw [gl14,List.map_append];rfl
 ·rintro l h4 ⟨t,ls,cell,y5,y6,y7,y8,y9,y10,y11,rfl,et,li,g4⟩
  walk_at "x1"
  refine Gw 25 20 5 6 t0 T0 (.ref h4.length) [] ⟨_,src_list Ak,Ku (F:=lD) Ak⟩ (by decide) fun h6 x6=>?_
  walk_at "x1"
  exact eq_refl rfl (Ii T0 (by decide)) rfl
theorem main:∀ ns:List Int,ns.length<=63->∃ mh',Af (GkN Tt depth) fuel f25 [.rol (ns.map D.int)] []=some (.bl true,mh'):=fun ns _=>by
 obtain ⟨d,h,e,rfl⟩:=wH ns;exact ⟨h,e⟩
end Lw
open PySem PySem.W PyProof.Rows
namespace PySem.W.Fast
def tw2576384920171295202:Unit:=()
def tw3185560332569853011:Unit:=()
def tw13193576920556826601:Unit:=()
def tw4670080804693002088:Unit:=()
def tw14511181679545497431:Unit:=()
def tw8788747361125888235:Unit:=()
def tw2564241295152136940:Unit:=()
def tw3491148025188275528:Unit:=()
def tw16210098346428617107:Unit:=()
def tw15922910925562693753:Unit:=()
def tw17549736665148552354:Unit:=()
def tw10121459121035061100:Unit:=()
def tw18188151893269667157:Unit:=()
def tw6113828744172375351:Unit:=()
def tw742252238518781292:Unit:=()
def tw12514670492913966449:Unit:=()
def tw3956286273665438439:Unit:=()
def tw809837679475609360:Unit:=()
def tw9094660270019241476:Unit:=()
def tw314391569489417867:Unit:=()
def tw11294763540990329936:Unit:=()
def tw1159860544955762605:Unit:=()
def tw8116257897542881911:Unit:=()
def tw17507737772929210105:Unit:=()
def tw11088405114505777663:Unit:=()
def tw10865115724064735729:Unit:=()
def tw10779367642144824388:Unit:=()
def tw2040897842246679821:Unit:=()
def tw744763580321721689:Unit:=()
def tw7074192735747559134:Unit:=()
def tw2374611691625509719:Unit:=()
def tw3806954488524763245:Unit:=()
def tw5402734915608998801:Unit:=()
def tw14738584610026420224:Unit:=()
def tw18097490687071206932:Unit:=()
def tw5156228030043952387:Unit:=()
def tw4745907493839130272:Unit:=()
def tw3156861737161722994:Unit:=()
def tw8398269370051241990:Unit:=()
def tw17143399366414559631:Unit:=()
def tw748027301458353524:Unit:=()
def tw9016957423582103416:Unit:=()
def tw18242033495403151745:Unit:=()
def tw17699949107966665788:Unit:=()
def tw6884241705814702137:Unit:=()
def tw13188223407613092769:Unit:=()
def tw17709855677432880178:Unit:=()
def tw3815628756332396341:Unit:=()
def tw13093761398109280179:Unit:=()
def tw3022432483835793284:Unit:=()
def tw1909874025269015585:Unit:=()
def tw5408392046336339521:Unit:=()
def tw9490444847634316726:Unit:=()
def tw6479563051819833497:Unit:=()
def tw1621350257165304725:Unit:=()
def tw10072601313746902277:Unit:=()
def tw14516023063550836844:Unit:=()
def tw6248604964329241533:Unit:=()
def tw3082359446196122851:Unit:=()
def tw519626778398807495:Unit:=()
def tw1568065003113484337:Unit:=()
def tw14292730548175551456:Unit:=()
def tw16038989955876399068:Unit:=()
def tw1269131612665808654:Unit:=()
def tw7182560077062317708:Unit:=()
def tw4635817249561028956:Unit:=()
def tw16380690275150221391:Unit:=()
def tw10963268510082500387:Unit:=()
def tw16851127925659669790:Unit:=()
def tw4451248607337124402:Unit:=()
def tw3700657969734481285:Unit:=()
def tw5405423339718047978:Unit:=()
def tw792844821340700044:Unit:=()
def tw17532585330635410473:Unit:=()
def tw14448979965341047892:Unit:=()
def tw6718171400634444497:Unit:=()
def tw6635910453577034371:Unit:=()
def tw14141636443755319185:Unit:=()
def tw7333666057424037227:Unit:=()
def tw3230959177178587624:Unit:=()
def tw11228995573596509836:Unit:=()
def tw599689706979435277:Unit:=()
def tw5883300261684262435:Unit:=()
def tw17427743638736704019:Unit:=()
def tw7508090387829651548:Unit:=()
def tw1258616467264078739:Unit:=()
def tw9722742052836691282:Unit:=()
def tw7362708201158163120:Unit:=()
def tw7329901087656715939:Unit:=()
def tw7035628366540538792:Unit:=()
def tw3074766854796887232:Unit:=()
def tw14611492908818523307:Unit:=()
def tw1432001280762424077:Unit:=()
def tw13839371322079981587:Unit:=()
def tw13218403496699628811:Unit:=()
def tw12777893518187930305:Unit:=()
def tw1177562586588330257:Unit:=()
def tw1086578636306305966:Unit:=()
def tw4695533385844621444:Unit:=()
def tw6659524789597281938:Unit:=()
def tw18284853383359221482:Unit:=()
def tw2860199627260873550:Unit:=()
end PySem.W.Fast
set_option maxRecDepth 100000 in
set_option maxHeartbeats 0 in
theorem PySem.Challenge.cw_letterall_k85_what_is_left_of_a_talk_holds : PySem.Challenge.rw_letterall_k85_what_is_left_of_a_talk.Holds := by
 w_on; o_law; z_head; (case hw => w_witness2)
 k_fill
 refine DL.bW (fun _ => by kernel_rfl) (DL.walk (l := PySem.Challenge.rw_letterall_k85_what_is_left_of_a_talk) (Tt := Lw.Tt) (I := Lw.f25) (x := "_law_script") Lw.depth rfl rfl (fun w h Y => Y) ⟨rfl, by decide, by decide⟩ (by kernel_rfl) (by decide +kernel) ?T Lw.main)
 case T =>
  intro w mg h KX G;refine' Lw.Abl KX G ?rf ?rb
  (case rf => (repeat (apply DL.bY; (focus k_is); (focus k_is); (focus k_is); (focus k_is))); exact trivial)
  (case rb => (repeat (apply DL.cA; (focus k_is))); exact trivial)
#print axioms PySem.Challenge.cw_letterall_k85_what_is_left_of_a_talk_holds
