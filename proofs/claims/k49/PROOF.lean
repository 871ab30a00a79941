import PyProof.Rows.All
import Wide.All
import OpenK.AllK
import Wide.FinOn
import Lean
import PyProof.EqAt
import PyProof.EqKinds
import PyProof.TupleCall
import KE.BitLaws
import PySem.Challenge.RW_letterall_k49_patterns_told
open PySem.W renaming Frag→aj, nsIn→gn, tabObj→jc, keepIn→jm, emptyDict→pq, cellsFrom_some→qm, kia_one→uq, mg_of→ux, codeIn→vh, kla_fn→vm, fnOf→vq, codeHdIn→vz, instObj→wu, CodeHd→xq, kla_makeFunctionHit→xr, callWith_K→za, findIn→zp, codeHd_of_K→DN, methodObj→GJ, kla_makeFunction→IW, kla_eval→JB, kla_callFunE→LR, kla_codeExpr→MF, callWith_K0→NK, codeRec_of→PK, envX→QF, kitx_list→QL
open PySem.Heap renaming get?_push_of_some→ak, get?_push_size→dh, size_push→ji, SameBut→HD, get?_update_other→JT, ExtBut→JW, get?_update_self→JZ, get?_push_ne→QM
open PySem renaming wpAny_bind→ao, wpAny_pure→cu, mem_of_lookup→ir, wpAny_newObj_type→jo, wpAny_field→ju, Spec→jy, wpAny_callSpecial?_slot→nq, wpAny_truthy_bool→ou, wpAny_mono→qb, wpAny_Call_Name_kw→qd, wpAny_call_entry→qz, wpAny_seqItems→su, wpAny_setField_rec→ud, wpAny_holding→ye, wpAny_newFunctionEnv_cells→yg, sizeLine_eq→yj, wpAny_passesOwn→yu, pushCells_keeps→CJ, wpAny_updateSeq_pair→CN, wpAny_pyIter_tuple→FN, wpAny_standAt→GD, wpAny_onRaise→GF, wpAny_pyIter_list→GK, wpAny_sequenceKey→GP, wpAny_rule→GX, codeAny_mono→HJ, noFill_tuple_add→HS, wpAny_typeOf→HW, wpAny_getItem_list_slice→HX, wpAny_comprehension_free→HY, wpAny_pyNext_range_end→JP, wpAny_pyIter_rangeiter→JQ, codeAny_call_function→JX, TriplesOk_snoc→KQ, call_meets→LK, seq_tuple_add→MN, evalPart_none→MT, wpAny_functionCodeX→NT, wpAny_Constant_int→OD, wpAny_pyIter_range→OJ, concat_meets→PL, seqIndex_neg→QB, wpAny_builtinsFor→QS, seqIndex_of→QV, wpAny_letGo→QW, wpAny_Name→QZ
open List renaming length_map→aq, getElem?_eq_some_iff→bf, length_append→bh, getElem?_eq_getElem→bw, mem_cons→dg, mem_of_getElem?→di, getElem?_map→dj, size_toArray→dm, getElem?_append_left→dw, getElem?_append_right→gb, mem_map→gj, getElem?_set_ne→gk, mem_append_right→gm, zipWith→gw, mem_cons_of_mem→iu, length_set→iw, mem_cons_self→iy, replicate→iz, map_append→jb, mem_singleton→jg, mem_nil_iff→jh, length_take→jj, length_cons→jk, mem_append→jl, lookup_cons→jt, map_map→kh, all_eq_true→kj, take_add_one→mj, map_cons→mq, append_nil→ni, of_mem_zip→nj, take_length→nu, flatten_append→ql, getElem_mem→qp, take_append_drop→qt, append_assoc→qu, filterMap_cons→qy, all_map→ug, nodup_cons→uh, length_singleton→um, nodup_append→vd, getElem?_inj→vf, range→vg, length_drop→vy, countP_cons→wg, getElem_of_mem→wj, getElem?_replicate→wk, take_of_length_le→wz, getElem?_set→xg, zipWith_self→xj, mem_append_left→xu, map_zipWith→yd, lookup→yo, getElem?_range→yq, length_zipWith→yr, filterMap_nil→zc, pairwise_singleton→zx, reverse_cons→BK, all_cons→BP, prefix_refl→BR, mem_flatten→BW, length_tail→BX, length_replicate→BZ, getElem?_zipWith→CG, mem_of_mem_take→CV, length_reverse→DK, map_congr_left→DP, mem_range→DQ, forIn_nil→DX, filter_append→FZ, flatten_cons→GR, getElem?_take_of_lt→HN, filter_cons→JF, mem_filter→JG, forIn_cons→JH, zip_append→JK, all_append→JM, getElem?_set_self→JN, filterMap_append→KD, getElem?_reverse→KH, getElem?_eq_none→KJ, length_filter_le→KZ, mem_of_mem_drop→MK, filter_eq_self→NZ, mem_filterMap→PB, map_nil→PX, take_sublist→QH, all_eq_false→QT
open Bool renaming and_eq_true→au, true_and→gh, false_and→jf, false_ne_true→qe, not_eq_true'→qx, false_eq_true→zj, or_eq_true→CQ, or_eq_false_iff→MJ
open Nat renaming le_refl→cg, lt_of_lt_of_le→fj, ne_of_lt→fu, le_trans→ig, lt_succ_self→jq, lt_irrefl→jw, ne_of_gt→jz, lt_succ_of_lt→lq, zero_le→oh, le_succ→sy, add_mul→yp, le_of_lt→yx, lt_add_of_pos_right→zy, le_add_right→BV, sub_self→CT, mul_le_mul_right→CW, mul_le_mul→EY, lt_of_le_of_lt→FW, le_of_eq→HF, add_lt_add_left→NQ, le_succ_of_le→QJ
open LawfulBEq renaming eq_of_beq→cj
open PySem.Builtin.Range renaming rangeSize→je, small→yt, rangeFitsLong→FT
open PySem.Builtin.SmallTypes renaming nextOf→jn, ownedTupleIsFree→qg, ownedTupleHandOut→zf
open PySem.Builtin.Tuple renaming tupleExact→jx, tupleItemsOf→yh
open PySem.Builtin.Slice renaming slicePlaces→lg, sliceApplied→ur, sliceAdjust→yw, sliceFields→GZ
open PySem.F renaming plainAttrs_list→qi, slot_tuple_iterator_next→uw, args_tuple_add_2→zb, plainAttrs_tuple→zm, entry_tuple_add→zu, slot_list_count→BJ, slot_tuple_add→BL, slot_zip_next→CP, args_tuple_iterator_next_1→DY, entry_tuple_iterator_next→FQ, args_list_count_2→HB, entry_list_count→IK, slot_tuple_index→JC, type_tuple_index→JD, slot_list_pop→KR, type_list_pop→KY, args_zip_next_1→QR
open Array renaming length_toList→qj, getElem?_toList→KC
open PySem.PyData renaming strOk→uc, canLay0→zq, eqv→CK, str→LQ, canLayAll0→QK
open Option renaming map_some→uo, isSome_iff_exists→vo, toList_some→QC
open Int renaming toNat_natCast→uy, fdiv_nonneg→JL, ediv_one→PN
open PySem.Obj renaming mapSeq→yc, data_mapFields→QD
open PyProof.Rows renaming entry_tuple_getitem→CZ, slicePart_none→DR, assignInOrder_cons→FJ, args_tuple_getitem→FP, subscriptTail_builtinR→JS, tupleItemsOf_→MP, assignInOrder_nil→QG, tail_any→QX, Subscript_→RB
open PySem.Calls renaming Name_function_global→GC, callWith_builtin→JV
open Option.some renaming injEq→GQ
open PySem.SeqAt renaming list_countAt→IV
open PySem.Around renaming frames_deeper→LC, under→PJ
open PySem.Heap.SameBut renaming update→NP
set_option bootstrap.genMatcherCode false
set_option compiler.extract_closed false
noncomputable section
set_option Elab.async false
set_option linter.all false
set_option maxRecDepth 100000
set_option maxHeartbeats 8000000
namespace L2
open PySem PySem.Spec PyProof.Rows
noncomputable def isB:PyData->Bool
 | .bool _=>true
 | _=>false
noncomputable def isI:PyData->Bool
 | .int _=>true
 | _=>false
noncomputable def isT:PyData->Bool
 | .tuple _=>true
 | _=>false
noncomputable def kSh:List PyData->Bool
 | [a,b]=>!isB a&&(if isT a then !isI b else !isB b)
 | [a,b,c,d,e]=>!isB a&&(!isB b&&(!isB c&&(!isB d&&!isI e)))
 | xs=>xs.all λx=>!isB x
mutual
noncomputable def kCl:PyData->Bool
 | .int _=>true
 | .str _=>true
 | .bool _=>true
 | .tuple xs=>kSh xs&&Abw xs
 | _=>false
noncomputable def Abw:List PyData->Bool
 | []=>true
 | x::r=>kCl x&&Abw r
end
section
variable {prog:Program}{w:World}{E:Value->Shared->Prop}
end
section
variable {prog:Program}{w:World}{E:Value->Shared->Prop}{A:Around}
end
noncomputable instance:DecidableEq PyData:=λa b=>Classical.propDecidable (a=b)
noncomputable def bF (prog:Program) (w:World):HeapKind prog w PyData where
 is:=λ_ _ _=>False
 hash:=λ_=>0
 draws:=λ_=>0
 room:=λ_=>True
 inj:=λx _=>x.elim
 keeps:=λx _ _ _=>x.elim
 pyHash:=λ_ x _=>x.elim
 eqBool:=λ_ x _ _=>x.elim
 quiet:=λx _=>x.elim
noncomputable abbrev Key:=Sum Int Str
noncomputable def tW:Key->Value->Bool
 | .inl k,v=>Value.isInt k v
 | .inr x,v=>Value.isStrOf x v
noncomputable def Aen (w:World):Key->Int
 | .inl k=>hashInt k
 | .inr x=>hashStr w x
theorem Cg:∀ {k:Key}{v:Value},tW k v=true->(∃ i t,k=Sum.inl i/\v=Value.int i t)\/(∃ x t,k=Sum.inr x/\v=Value.str x t)
 | .inl i,v,h=>by
  obtain ⟨t,e⟩:=Value.isInt_shape (k:=i) (v:=v) h;exact .inl ⟨i,t,rfl,e⟩
 | .inr x,v,h=>by
  obtain ⟨t,e⟩:=Value.isStrOf_shape (x:=x) (v:=v) h;exact .inr ⟨x,t,rfl,e⟩
theorem uZ (a b:Int):decide ((Sum.inl a:Key)=Sum.inl b)=(a==b):=by
 by_cases e:a=b
 ·subst e;simp
 ·have h:¬ (Sum.inl a:Key)=Sum.inl b:=λq=>e (Sum.inl.inj q)
  rw [decide_eq_false h];exact (beq_eq_false_iff_ne.mpr e).symm
theorem vA (a b:Str):decide ((Sum.inr a:Key)=Sum.inr b)=decide (a=b):=by
 by_cases e:a=b
 ·subst e;simp
 ·have h:¬ (Sum.inr a:Key)=Sum.inr b:=λq=>e (Sum.inr.inj q)
  rw [decide_eq_false h,decide_eq_false e]
theorem vB (a:Int) (b:Str):decide ((Sum.inl a:Key)=Sum.inr b)=false:=decide_eq_false (λq=>nomatch q)
theorem vC (a:Str) (b:Int):decide ((Sum.inr a:Key)=Sum.inl b)=false:=decide_eq_false (λq=>nomatch q)
noncomputable def Qa (prog:Program) (w:World):PySem.KeyKind prog w Key where
 is:=tW
 hash:=Aen w
 inj:=λv a b ha hb=>by
  rcases Cg ha with ⟨i,t,rfl,rfl⟩|⟨x,t,rfl,rfl⟩
  ·rcases Cg hb with ⟨j,u,rfl,e⟩|⟨y,u,rfl,e⟩
   ·injection e with e1 _;rw [e1]
   ·exact nomatch e
  ·rcases Cg hb with ⟨j,u,rfl,e⟩|⟨y,u,rfl,e⟩
   ·exact nomatch e
   ·injection e with e1 _;rw [e1]
 byValue:=λk v h=>by
  rcases Cg h with ⟨i,t,rfl,rfl⟩ | ⟨x,t,rfl,rfl⟩ <;> rfl
 pyHash:=λhv h=>by
  rcases Cg hv with ⟨i,t,rfl,rfl⟩|⟨x,t,rfl,rfl⟩
  ·exact wpAny_pyHash_int h
  ·exact wpAny_pyHash_str h
 eqBool:=λhu hv h=>by
  rcases Cg hu with ⟨i,t,rfl,rfl⟩|⟨x,t,rfl,rfl⟩
  ·rcases Cg hv with ⟨j,u,rfl,rfl⟩|⟨y,u,rfl,rfl⟩
   ·rw [uZ] at h;exact wpAny_eqBool_int h
   ·rw [vB] at h;exact SeqAt.EqAt.int_str i t y u _ _ _ _ h
  ·rcases Cg hv with ⟨j,u,rfl,rfl⟩|⟨y,u,rfl,rfl⟩
   ·rw [vC] at h;exact SeqAt.EqAt.str_int x t j u _ _ _ _ h
   ·rw [vA] at h;exact wpAny_eqBool_str h
 «strs»:=λk x t v h=>by
  rcases Cg h with ⟨i,u,rfl,e⟩|⟨y,u,rfl,e⟩
  ·exact nomatch e
  ·injection e with e1 _
   subst e1;cases v <;> rfl
inductive V where
 | non | bl (b:Bool) | int (i:Int) | str (x:Str) | byt (b:Array UInt8) | flt (b:UInt64) | ref (a:Addr) | ty (n:String)
 deriving DecidableEq
noncomputable def RelV:V->Value->Prop
 | .non,u=>u=Value.none
 | .bl b,u=>u=Value.bool b
 | .int i,u=>∃ t,u=Value.int i t
 | .str x,u=>∃ t,u=Value.str x t
 | .byt b,u=>∃ t,u=Value.bytes b t
 | .flt b,u=>∃ t,u=Value.float b t
 | .ref a,u=>u=Value.ref a
 | .ty n,u=>u=Value.type n
noncomputable abbrev Vals:List V->List Value->Prop:=Paired RelV
theorem Vals.length {xs:List V}{us:List Value}(r:Vals xs us):xs.length=us.length:=Paired.length r
theorem Vals.get:∀ {xs:List V}{us:List Value}{i:Nat}{x:V},Vals xs us->xs[i]?=some x->∃ u,us[i]?=some u/\RelV x u
 | _,_,_,_,.nil,e=>by simp at e
 | _,_,0,_,.cons r _,e=>by simp at e;subst e;exact ⟨_,rfl,r⟩
 | _,_,i+1,x,.cons _ t,e=>by
  obtain ⟨u,h1,h2⟩:=Vals.get (i:=i) (x:=x) t (by simpa using e);exact ⟨u,by simpa using h1,h2⟩
theorem Vals.set {x:V}{u:Value}(r:RelV x u):∀ {xs:List V}{us:List Value}(i:Nat),Vals xs us->Vals (xs.set i x) (us.set i u)
 | _,_,_,.nil=>.nil
 | _,_,0,.cons _ t=>.cons r t
 | _,_,i+1,.cons q t=>.cons q (Vals.set r i t)
theorem Vals.append:∀ {xs ys:List V}{us ws:List Value},Vals xs us->Vals ys ws->Vals (xs++ys) (us++ws)
 | _,_,_,_,.nil,s=>s
 | _,_,_,_,.cons r t,s=>.cons r (Vals.append t s)
theorem Vals.take:∀ {xs:List V}{us:List Value}(n:Nat),Vals xs us->Vals (xs.take n) (us.take n)
 | _,_,0,_=>.nil
 | _,_,_+1,.nil=>.nil
 | _,_,n+1,.cons r t=>.cons r (Vals.take n t)
theorem Vals.drop:∀ {xs:List V}{us:List Value}(n:Nat),Vals xs us->Vals (xs.drop n) (us.drop n)
 | _,_,0,r=>r
 | _,_,_+1,.nil=>.nil
 | _,_,n+1,.cons _ t=>Vals.drop n t
noncomputable def Abx:Option V->Option Value->Prop
 | some v,some u=>RelV v u
 | none,none=>True
 | _,_=>False
noncomputable def KV {κ:Type}:List (κ×V)->List (κ×Value)->Prop:=Paired λ(p:κ×V) (q:κ×Value)=>p.1=q.1/\RelV p.2 q.2
noncomputable def kV:Key->V
 | .inl i=>.int i
 | .inr x=>.str x
inductive HO where
 | lst (xs:List V)
 | tup (xs:List V)
 | dK (kvs:List (Key×V)) | dT (kvs:List (List Key×V)) | dN (kvs:List (PyData×Addr×V))
 | set (S:Int->Bool) (n:Nat)
 | ins (C dx:Addr) (fs:List (Str×V))
 | own (x:Addr)
 | xd (fs:List (Str×V))
 | met (f x:Addr)
 | rng (lo hi:Int)
 | frz (o:Obj) (u:HO)
 | tbl (ps:Array Value)
 | ext (φ:Heap->Prop)
noncomputable abbrev Hp:=Addr->Option HO
noncomputable def upd (H:Hp) (a:Addr) (o:HO):Hp:=λb=>if b=a then some o else H b
theorem Ai {H:Hp}{a:Addr}{o:HO}:upd H a o a=some o:=by unfold upd;rw [if_pos rfl]
theorem Ac {H:Hp}{a b:Addr}{o:HO}(h:b≠a):upd H a o b=H b:=by unfold upd;rw [if_neg h]
theorem nM {H:Hp}{a:Addr}{o u:HO}:upd (upd H a o) a u=upd H a u:=by
 funext b;unfold upd;split <;> rfl
theorem Ju {H:Hp}{a b:Addr}{o u:HO}(h:H a=some o) (h':H b=some u) (d:o≠u):a≠b:=by
 intro e;subst e;rw [h] at h';exact d (Option.some.inj h')
theorem Ad {H:Hp}{a b:Addr}{o:HO}(h:H a=some o) (h':H b=none):a≠b:=by
 intro e;subst e;rw [h] at h';cases h'
section
variable (P:Program) (w:World)
noncomputable def Mu (h:Heap) (a:Addr) (its:Array Value):Prop:=∃ o,h.get? a=some o/\o.cls=.type "tuple"/\o.dict=none/\∃ n,o.data=.seq its n
theorem Mu.to {h:Heap}{a:Addr}{its:Array Value}(x:Mu h a its):IsTup h a its:=let ⟨o,e,c,_,n,d⟩:=x;⟨o,e,c,n,d⟩
theorem Mu.new (h:Heap) (its:Array Value):Mu (h.push { cls:=.type "tuple",data:=.seq its }) h.objs.size its:=⟨_,dh _ rfl,rfl,rfl,_,rfl⟩
noncomputable def Fj (H:Hp) (h:Heap) (a:Addr):HO->Prop
 | .lst xs=>xs.length<=sizeLine/\∃ (its:List Value) (n:Nat),Vals xs its/\h.get? a=some { cls:=.type "list",data:=.seq its.toArray n }
 | .tup xs=>xs.length<=sizeLine/\∃ its:List Value,Vals xs its/\Mu h a its.toArray
 | .dK kvs=>kvs.length<=sizeLine/\(a==sysModules)=false/\∃ vs,KV kvs vs/\h.DictOf (Qa P w) a vs
 | .dT kvs=>kvs.length<=sizeLine/\(a==sysModules)=false/\∃ xs:List (List Key×Addr×Value),
   Paired (λ(p:List Key×V) (q:List Key×Addr×Value)=>p.1=q.1/\H q.2.1=some (.tup (p.1.map kV))/\RelV p.2 q.2.2) kvs xs /\
   ∃ o es ep,h.get? a=some o/\o.ExactDict/\o.data=.dict es ep/\es.toList=xs.map (entryOfKey (tupleKind (Qa P w)))/\(xs.map (·.1)).Nodup
 | .dN kvs=>kvs.length<=sizeLine/\(a==sysModules)=false/\∃ xs:List (PyData×Addr×Value),
   Paired (λ(p:PyData×Addr×V) (q:PyData×Addr×Value)=>p.1=q.1/\p.2.1=q.2.1/\RelV p.2.2 q.2.2) kvs xs /\
   ∃ o es ep,h.get? a=some o/\o.ExactDict/\o.data=.dict es ep/\es.toList=xs.map (entryOfKey (bF P w))/\(xs.map (·.1)).Nodup
 | .set S n=>h.SetOf (intKind P w) a S n
 | .ins C dx fs=>H dx=some (.own a)/\fs.length<=1000/\dx≠a/\h.get? a=some (wu C dx) /\
   ∃ mA,h.Ns1 dx mA/\(∀ f,Abx (fs.lookup f) (mA f))/\PySem.Within mA (fs.map (·.1))
 | .own _=>∃ o,h.get? a=some o
 | .xd fs=>∃ mA,h.Ns1 a mA/\∀ f,Abx (fs.lookup f) (mA f)
 | .rng lo hi=>∃ t u v,h.get? a=some { cls:=.type "range",data:=.fields #[.int lo t,.int hi u,.int 1 v] }
 | .frz o u=>h.get? a=some o/\Fj H h a u
 | .tbl ps=>h.get? a=some { cls:=.none,data:=.fields ps }
 | .met f x=>h.get? a=some (GJ (.ref f) (.ref x))
 | .ext φ=>φ h/\(∃ o,h.get? a=some o)/\∀ h1 h2:Heap,φ h1->(∀ o,h1.get? a=some o->h2.get? a=some o)->φ h2
noncomputable def HOk (H:Hp) (h:Heap):Prop:=∀ a o,H a=some o->Fj P w H h a o
end
section
variable {P:Program}{w:World}{H H':Hp}{h h':Heap}{a:Addr}{o:HO}
theorem Fj.lt (x:Fj P w H h a o):a < h.objs.size:=by
 cases o with
 | lst xs=>obtain ⟨_,_,_,_,e⟩:=x;exact Heap.lt_size e
 | tup xs=>obtain ⟨_,_,_,p⟩:=x;exact p.to.lt
 | dK kvs=>obtain ⟨_,_,_,_,o,_,_,e,_⟩:=x;exact Heap.lt_size e
 | dT kvs=>obtain ⟨_,_,_,_,o,_,_,e,_⟩:=x;exact Heap.lt_size e
 | dN kvs=>obtain ⟨_,_,_,_,o,_,_,e,_⟩:=x;exact Heap.lt_size e
 | set S n=>obtain ⟨o,_,_,_,e,_⟩:=x;exact Heap.lt_size e
 | ins C dx fs=>obtain ⟨_,_,_,e,_⟩:=x;exact Heap.lt_size e
 | own y=>obtain ⟨_,e⟩:=x;exact Heap.lt_size e
 | xd fs=>obtain ⟨_,⟨_,_,_,e,_⟩,_⟩:=x;exact Heap.lt_size e
 | rng lo hi=>obtain ⟨_,_,_,e⟩:=x;exact Heap.lt_size e
 | frz ob u=>obtain ⟨e,_⟩:=x;exact Heap.lt_size e
 | tbl ps=>exact Heap.lt_size (show h.get? a=some _ from x)
 | met f y=>exact Heap.lt_size (show h.get? a=some _ from x)
 | ext φ=>obtain ⟨_,⟨_,e⟩,_⟩:=x;exact Heap.lt_size e
theorem Paired.mapP {α β:Type}{F G:α->β->Prop}:∀ {l₁:List α}{l₂:List β},Paired F l₁ l₂->(∀ a b,F a b->G a b)->Paired G l₁ l₂
 | _,_,.nil,_=>.nil
 | _,_,.cons r t,f=>.cons (f _ _ r) (Paired.mapP t f)
theorem Fj.stay (x:Fj P w H h a o) (k:∀ b u,(b=a\/H b=some (.own a))->h.get? b=some u->h'.get? b=some u)
  (ho:∀ b,H b=some (.own a)->H' b=some (.own a)) (ht:∀ b xs,H b=some (.tup xs)->H' b=some (.tup xs)):Fj P w H' h' a o:=by
 induction o with
 | lst xs=>obtain ⟨z,its,n,r,e⟩:=x;exact ⟨z,its,n,r,k _ _ (.inl rfl) e⟩
 | tup xs=>obtain ⟨z,its,r,ob,e,c⟩:=x;exact ⟨z,its,r,ob,k _ _ (.inl rfl) e,c⟩
 | dK kvs=>obtain ⟨z,y,vs,r,ob,es,ep,e,c⟩:=x;exact ⟨z,y,vs,r,ob,es,ep,k _ _ (.inl rfl) e,c⟩
 | dT kvs =>
  obtain ⟨z,y,xs,r,ob,es,ep,e,c⟩:=x;exact ⟨z,y,xs,Paired.mapP r λp q z=>⟨z.1,ht _ _ z.2.1,z.2.2⟩,ob,es,ep,k _ _ (.inl rfl) e,c⟩
 | dN kvs=>obtain ⟨z,y,xs,r,ob,es,ep,e,c⟩:=x;exact ⟨z,y,xs,r,ob,es,ep,k _ _ (.inl rfl) e,c⟩
 | set S n=>obtain ⟨ob,es,ep,t,e,c⟩:=x;exact ⟨ob,es,ep,t,k _ _ (.inl rfl) e,c⟩
 | ins C dx fs =>
  obtain ⟨d,z,ne,e,mA,⟨od,es,ep,e2,c⟩,r⟩:=x;exact ⟨ho _ d,z,ne,k _ _ (.inl rfl) e,mA,⟨od,es,ep,k _ _ (.inr d) e2,c⟩,r⟩
 | own y=>obtain ⟨ob,e⟩:=x;exact ⟨ob,k _ _ (.inl rfl) e⟩
 | xd fs=>obtain ⟨mA,⟨od,es,ep,e,c⟩,r⟩:=x;exact ⟨mA,⟨od,es,ep,k _ _ (.inl rfl) e,c⟩,r⟩
 | rng lo hi=>obtain ⟨t,u,v,e⟩:=x;exact ⟨t,u,v,k _ _ (.inl rfl) e⟩
 | frz ob u ih=>obtain ⟨e,q⟩:=x;exact ⟨k _ _ (.inl rfl) e,ih q⟩
 | tbl ps =>
  have e:h.get? a=some { cls:=.none,data:=.fields ps }:=x;show h'.get? a=some { cls:=.none,data:=.fields ps };exact k a _ (.inl rfl) e
 | met f y =>
  have e:h.get? a=some (GJ (.ref f) (.ref y)):=x;show h'.get? a=some (GJ (.ref f) (.ref y));exact k a _ (.inl rfl) e
 | ext φ=>obtain ⟨p,⟨o,e⟩,st⟩:=x;exact ⟨st _ _ p λo q=>k _ _ (.inl rfl) q,⟨o,k _ _ (.inl rfl) e⟩,st⟩
theorem HOk.lt (x:HOk P w H h) (e:H a=some o):a < h.objs.size:=(x a o e).lt
theorem HOk.fresh (x:HOk P w H h) (e:h.objs.size<=a):H a=none:=by
 cases q:H a with
 | none=>rfl
 | some u=>exact absurd (fj (x.lt q) e) (jw _)
theorem HOk.kept (x:HOk P w H h) (k:∀ b u,h.get? b=some u->h'.get? b=some u):HOk P w H h':=λa o e =>
 (x a o e).stay (λb u _ q=>k b u q) (λ_ q=>q) λ_ _ q=>q
theorem HOk.laid (x:HOk P w H h) (k:∀ b u,h.get? b=some u->h'.get? b=some u) (hp:h.objs.size<=a) (new:Fj P w (upd H a o) h' a o):HOk P w (upd H a o) h':=λb u e=>by
 have hn:=x.fresh hp
 by_cases hb:b=a
 ·subst hb;rw [Ai] at e;cases e;exact new
 ·rw [Ac hb] at e;exact (x b u e).stay (λc v _ q=>k c v q) (λc q=>by rw [Ac (Ad q hn)];exact q) λc xs q=>by rw [Ac (Ad q hn)];exact q
end
noncomputable def Rd (H:Hp) (a:Addr) (u:HO):Prop:=H a=some u\/∃ o,H a=some (.frz o u)
theorem Rd.ok {P:Program}{w:World}{H:Hp}{h:Heap}{a:Addr}{u:HO}(r:Rd H a u) (x:HOk P w H h):Fj P w H h a u:=by
 rcases r with r|⟨o,r⟩
 ·exact x a u r
 ·obtain ⟨_,q⟩:=x a _ r;exact q
noncomputable def Mut:Option HO->Prop
 | some (.lst _)=>True
 | some (.dK _)=>True
 | some (.dT _)=>True
 | some (.dN _)=>True
 | some (.set _ _)=>True
 | some (.ins _ _ _)=>True
 | some (.ext _)=>True
 | _=>False
section
variable {P:Program}{w:World}{H:Hp}{h h':Heap}{x e:Addr}{o':HO}
theorem HOk.write (ok:HOk P w H h) (mu:Mut (H x)) (he:e=x\/H e=some (.own x)) (k:∀ b u,b≠e->h.get? b=some u->h'.get? b=some u) (heo:∃ u,h'.get? e=some u)
  (new:Fj P w (upd H x o') h' x o'):HOk P w (upd H x o') h':=λb u q=>by
 have nown:∀ c y,H c=some (.own y)->c≠x:=λc y r z=>by subst z;rw [r] at mu;exact mu
 have ntup:∀ c xs,H c=some (.tup xs)->c≠x:=λc xs r z=>by subst z;rw [r] at mu;exact mu
 by_cases hb:b=x
 ·subst hb;rw [Ai] at q;cases q;exact new
 ·rw [Ac hb] at q
  by_cases hbe:b=e
  ·have q':H b=some (.own x):=by
    rcases he with z|z
    ·exact absurd (hbe.trans z) hb
    ·rw [hbe];exact z
   rw [q] at q';cases q';obtain ⟨v,hv⟩:=heo;exact ⟨v,by rw [hbe];exact hv⟩
  ·refine (ok b u q).stay (λc v hc r=>k c v ?_ r) (λc r=>by rw [Ac (nown c b r)];exact r) λc xs r=>by rw [Ac (ntup c xs r)];exact r
   rcases hc with rfl|hc
   ·exact hbe
   ·rintro rfl;rcases he with z|z
    ·exact nown c b hc z
    ·rw [hc] at z;cases z;exact hb rfl
end
structure Un (fs ex:List Addr) (H H':Hp) (h h':Heap):Prop where
 keep:∀ b o,h.get? b=some o->H b=none->b ∉ fs->b ∉ ex->h'.get? b=some o
 slot:∀ b o,h.get? b=some o->H b=none->b∈fs->b ∉ ex->∃ sl,h'.get? b=some { o with slots:=sl }
 free:∀ b o,h.get? b=some o->H b=none->b ∉ ex->H' b=none
 there:∀ b o,h.get? b=some o->b ∉ ex->∃ o',h'.get? b=some o'
 tups:∀ b xs,H b=some (.tup xs)->H' b=some (.tup xs)
 frzs:∀ b o u,H b=some (.frz o u)->H' b=some (.frz o u)
 tbls:∀ b ps,H b=some (.tbl ps)->∃ more,H' b=some (.tbl (ps++more))
section
variable {fs fs' ex ex':List Addr}{H H1 H2:Hp}{h h1 h2 h':Heap}{a x e:Addr}{o:HO}
theorem Un.any (u:Un fs ex H H1 h h1) {b:Addr}{ob:Obj}(q:h.get? b=some ob) (n:H b=none) (hx:b ∉ ex):∃ sl,h1.get? b=some { ob with slots:=sl }:=by
 by_cases hb:b∈fs
 ·exact u.slot b ob q n hb hx
 ·exact ⟨ob.slots,u.keep b ob q n hb hx⟩
theorem Un.kept (k:∀ b u,h.get? b=some u->h'.get? b=some u):Un fs ex H H h h' :=
 ⟨λb ob q _ _ _=>k b ob q,λb ob q _ _ _=>⟨ob.slots,k b ob q⟩,λ_ _ _ n _=>n,λb ob q _=>⟨ob,k b ob q⟩,λ_ _ q=>q,λ_ _ _ q=>q,λ_ ps q=>⟨#[],by rw [q];simp⟩⟩
theorem Un.refl:Un fs ex H H h h:=Un.kept λ_ _ q=>q
theorem Un.laid (k:∀ b u,h.get? b=some u->h'.get? b=some u) (hp:h.objs.size<=a) (hn:H a=none):Un fs ex H (upd H a o) h h' where
 keep:=λb u q _ _ _=>k b u q
 slot:=λb u q _ _ _=>⟨u.slots,k b u q⟩
 free:=λb u q n _=>by rw [Ac (fu (fj (Heap.lt_size q) hp))];exact n
 there:=λb u q _=>⟨u,k b u q⟩
 tups:=λb xs q=>by rw [Ac (Ad q hn)];exact q
 frzs:=λb u xs q=>by rw [Ac (Ad q hn)];exact q
 tbls:=λb ps q=>⟨#[],by rw [Ac (Ad q hn),q];simp⟩
theorem Un.write (mu:Mut (H x)) (he:e=x\/H e=some (.own x)) (k:∀ b u,b≠e->h.get? b=some u->h'.get? b=some u) (heo:∃ u,h'.get? e=some u):Un fs ex H (upd H x o) h h':=by
 have hx:∀ b,H b=none->b≠x:=λb n z=>by subst z;rw [n] at mu;exact mu
 have hb:∀ b,H b=none->b≠e:=λb n z=>by
  subst z;rcases he with r|r
  ·exact hx b n r
  ·rw [n] at r;cases r
 have hm:∀ b u,H b=some u->¬ Mut (some u)->b≠x:=λb u q nm z=>by subst z;rw [q] at mu;exact nm mu
 refine ⟨λb u q n _ _=>k b u (hb b n) q,λb u q n _ _=>⟨u.slots,k b u (hb b n) q⟩,λb u q n _=>by rw [Ac (hx b n)];exact n,λb u q _=>?_,
  λb xs q=>by rw [Ac (hm b _ q λz=>z)];exact q,λb u xs q=>by rw [Ac (hm b _ q λz=>z)];exact q,λb ps q=>⟨#[],by rw [Ac (hm b _ q λz=>z),q];simp⟩⟩
 by_cases hbe:b=e
 ·subst hbe;exact heo
 ·exact ⟨u,k b u hbe q⟩
end
noncomputable def trk (h:Heap) (H:Hp):List Addr:=(vg h.objs.size).filter λa=>(H a).isSome
noncomputable def Qc (h:Heap) (H:Hp):Heap:=PySem.W.hideAll h (trk h H)
theorem Yw (h:Heap) (H:Hp):(Qc h H).objs.size=h.objs.size:=PySem.W.hideAll_size _ _
theorem bH {h:Heap}{H:Hp}{b:Addr}{o:Obj}(e:h.get? b=some o) (n:H b=none):(Qc h H).get? b=some o :=
 PySem.W.hideAll_get _ e λhm=>by
  have q:(H b).isSome=true:=(JG.mp hm).2;rw [n] at q;simp at q
theorem nO {h:Heap}{H:Hp}{b:Addr}{o:Obj}(e:(Qc h H).get? b=some o):h.get? b=some o/\H b=none:=by
 have e':h.get? b=some o:=PySem.W.of_hideAll (trk h H) e;refine ⟨e',?_⟩;cases q:H b with
 | none=>rfl
 | some x =>
  have hm:b∈trk h H:=JG.mpr ⟨DQ.mpr (Heap.lt_size e'),by simp [q]⟩;have z:(Qc h H).get? b=none:=PySem.W.hideAll_none (trk h H) hm;rw [z] at e;cases e
structure Mod (K:aj) (mg:Str->Option Value) (base:Heap):Prop where
 kin:K.In base
 glob:base.Ns mainGlobals mg
 blt:∃ mb,base.Ns builtinsNs mb/\∀ x:Str,x ≠ "__name__"->mb x=bootBuiltins x
 nolimit:base.NoLimit
structure Cx where
 prog:Program
 w:World
 K:aj
 mg:Str->Option Value
 base:Heap
 A:Around
 N:List Str
 s₀:Shared
 H₀:Hp
 env:Env
 outer:List Env
 stack:List Env
 ex:List Addr
 fn:Str->Bool
 calm:Bool
 pn:List (Addr×Obj)
 xe:Value->Shared->Prop
noncomputable def frs (l:List Env):List Addr:=l.filterMap (·.frame)
noncomputable abbrev Cx.fs (X:Cx):List Addr:=frs X.outer
noncomputable def Vis (sc:Scope) (x:Str):Prop:=sc.names.lookup x=some .local\/sc.names.lookup x=some .cell\/sc.names.lookup x=some .free
noncomputable def Loc (sc:Scope) (x:Str):Prop:=sc.names.lookup x=some .local\/sc.names.lookup x=some .cell
noncomputable def Look (env:Env) (h:Heap) (m:Str->Option Value) (x:Str) (u:Value):Prop :=
 (env.kindOf x=some .local/\m x=some u)\/((env.kindOf x=some .cell\/env.kindOf x=some .free)/\∃ c,env.cells.lookup x=some c/\h.IsCell c (some u))
structure Cx.Ok (X:Cx):Prop where
 mod:Mod X.K X.mg X.base
 kind:X.env.scope.kind=.function
 glob:X.env.globals=mainGlobals
 blt:X.env.builtins=builtinsNs
 above:X.s₀.heap.objs.size<=X.env.locals
 inj:∀ x y c,X.env.cells.lookup x=some c->X.env.cells.lookup y=some c->x=y
 has:∀ x,(X.env.kindOf x=some .cell\/X.env.kindOf x=some .free)->∃ c,X.env.cells.lookup x=some c
 cab:∀ x c,X.fn x=true->X.env.cells.lookup x=some c->X.s₀.heap.objs.size<=c
 hd:X.calm=true->X.A.handled=none
 frames:X.A.frames=some X.stack
 stk:X.stack=X.outer\/(X.stack=X.env::X.outer/\X.env.frame=some X.env.locals)
 exf:∀ b∈X.ex,b≠X.env.locals/\∀ x c,X.env.cells.lookup x=some c->c≠b
 bs:∀ b o,X.base.get? b=some o->X.s₀.heap.get? b=some o/\X.H₀ b=none
 bsz:X.base.objs.size<=X.s₀.heap.objs.size
 noex:∀ b o,X.base.get? b=some o->b ∉ X.ex
 exfs:∀ b∈X.ex,b ∉ X.fs
 funs:X.s₀.heap.FunFrames X.base X.outer
 frf:∀ b∈X.fs,X.H₀ b=none
structure Inv (X:Cx) (pins:List (Addr×Obj)) (σ:List (Option V)) (H:Hp) (s:Shared):Prop where
 ok:X.Ok
 os:s.os=X.s₀.os
 bare:AllBare s.gens
 base:Un X.fs X.ex X.H₀ H X.s₀.heap s.heap
 loc:∃ m,s.heap.Ns X.env.locals m/\∀ (i:Nat) (x:Str) (v:V),X.N[i]?=some x->σ[i]?=some (some v)->Vis X.env.scope x->∃ u,RelV v u/\Look X.env s.heap m x u
 cell:∀ x c,X.env.cells.lookup x=some c->∃ v,s.heap.IsCell c v
 free:H X.env.locals=none
 freeC:∀ x c,X.env.cells.lookup x=some c->H c=none\/(X.fn x=false/\∃ o u,H c=some (.frz o u))
 pin:∀ p∈X.pn++pins,s.heap.get? p.1=some p.2/\H p.1=none/\p.1≠X.env.locals/\p.1 ∉ X.fs/\∀ v,p.2.data≠.cell v
 hok:HOk X.prog X.w H s.heap
 len:σ.length=X.N.length
section
variable {X:Cx}{pins:List (Addr×Obj)}{σ:List (Option V)}{H H':Hp}{s:Shared}{h':Heap}
theorem Cx.Ok.nofr (ok:X.Ok) {b:Addr}{o:Obj}(e:X.base.get? b=some o):b ∉ X.fs:=λhb=>by
 have:=(ok.funs.mem hb).1;rw [e] at this;cases this
theorem Inv.bs (I:Inv X pins σ H s):∀ b o,X.base.get? b=some o->s.heap.get? b=some o/\H b=none:=λb o e =>
 ⟨I.base.keep b o (I.ok.bs b o e).1 (I.ok.bs b o e).2 (I.ok.nofr e) (I.ok.noex b o e),I.base.free b o (I.ok.bs b o e).1 (I.ok.bs b o e).2 (I.ok.noex b o e)⟩
theorem Inv.bk (I:Inv X pins σ H s):∀ b o,X.base.get? b=some o->s.heap.get? b=some o:=λb o e=>(I.bs b o e).1
theorem Inv.mod (I:Inv X pins σ H s):Mod X.K X.mg X.base:=I.ok.mod
theorem Inv.kIn (I:Inv X pins σ H s):X.K.In s.heap:=I.ok.mod.kin.keeps I.bk
theorem Inv.lt (I:Inv X pins σ H s):X.env.locals < s.heap.objs.size:=let ⟨_,hn,_⟩:=I.loc;hn.lt
theorem Inv.sz (I:Inv X pins σ H s):X.s₀.heap.objs.size<=s.heap.objs.size:=ig I.ok.above (yx I.lt)
theorem Inv.nofs (I:Inv X pins σ H s) {a:Addr}(h:s.heap.objs.size<=a):a ∉ X.fs:=λhb=>by
 obtain ⟨_,o,ho,_⟩:=I.ok.funs.mem hb;exact absurd (fj (Heap.lt_size ho) (ig I.sz h)) (jw _)
theorem Inv.cne (I:Inv X pins σ H s):∀ x c,X.env.cells.lookup x=some c->c≠X.env.locals:=λx c e z=>by
 obtain ⟨v,o,ho,hd⟩:=I.cell x c e;obtain ⟨m,⟨o',es,ep,ho',hd',_⟩,_⟩:=I.loc;rw [z,ho'] at ho;cases ho;rw [hd'] at hd;cases hd
theorem Inv.funs (I:Inv X pins σ H s):s.heap.FunFrames X.base X.outer:=by
 have all:∀ (l:List Env),(∀ b∈frs l,b∈X.fs)->X.s₀.heap.FunFrames X.base l->s.heap.FunFrames X.base l:=by
  intro l
  induction l with
  | nil=>intro _ _;trivial
  | cons env r ih =>
   intro hs hl;obtain ⟨hk,⟨L,o,hf,hn,ho,hd⟩,hr⟩:=hl;have hL:L∈X.fs:=hs L (by unfold frs;rw [qy,hf];exact iy);obtain ⟨sl,e⟩:=I.base.slot L o ho (I.ok.frf L hL) hL λz=>I.ok.exfs L z hL
   exact ⟨hk,⟨L,_,hf,hn,e,hd⟩,ih (λb hb=>hs b (by unfold frs;rw [qy,hf];exact iu _ hb)) hr⟩
 exact all X.outer (λ_ hb=>hb) I.ok.funs
theorem Inv.stack (I:Inv X pins σ H s):s.heap.FunFrames X.base X.stack:=by
 rcases I.ok.stk with e|⟨e,hf⟩
 ·rw [e];exact I.funs
 ·rw [e];obtain ⟨m,hn,_⟩:=I.loc;refine .cons (by rw [I.ok.kind];decide) hf hn ?_ I.funs;exact Heap.get?_none_of_le (ig I.ok.bsz I.ok.above)
theorem Inv.stkSub (I:Inv X pins σ H s):∀ b∈frs X.stack,b∈X.env.locals::X.fs:=λb hb=>by
 rcases I.ok.stk with e|⟨e,hf⟩
 ·rw [e] at hb;exact iu _ hb
 ·rw [e] at hb;unfold frs at hb;rw [qy,hf] at hb;exact hb
theorem Inv.stkFree (I:Inv X pins σ H s):∀ b∈frs X.stack,H b=none:=λb hb=>by
 rcases dg.mp (I.stkSub b hb) with e|hb
 ·rw [e];exact I.free
 ·obtain ⟨_,o,ho,_⟩:=I.ok.funs.mem hb;exact I.base.free b o ho (I.ok.frf b hb) λz=>I.ok.exfs b z hb
theorem Inv.step {g':Array GenState}{t':Nat}{d':Drawn}{ch:List Addr}(I:Inv X pins σ H s)
  (hch:∀ b∈ch,(b∈X.ex\/X.s₀.heap.objs.size<=b)/\b≠X.env.locals/\(∀ x c,X.env.cells.lookup x=some c->c≠b)/\∀ p∈X.pn++pins,p.1≠b)
  (keep:∀ b o,b≠X.env.locals->b ∉ X.fs->b ∉ ch->s.heap.get? b=some o->H b=none->h'.get? b=some o)
  (slot:∀ b o,b≠X.env.locals->b∈X.fs->b ∉ ch->s.heap.get? b=some o->H b=none->∃ sl,h'.get? b=some { o with slots:=sl }) (free:∀ b o,b ∉ ch->s.heap.get? b=some o->H b=none->H' b=none)
  (there:∀ b o,b ∉ ch->s.heap.get? b=some o->∃ o',h'.get? b=some o')
  (tups:∀ b xs,H b=some (.tup xs)->H' b=some (.tup xs)) (frzs:∀ b o u,H b=some (.frz o u)->H' b=some (.frz o u)) (tbls:∀ b ps,H b=some (.tbl ps)->∃ more,H' b=some (.tbl (ps++more)))
  (ns:∀ m,s.heap.Ns X.env.locals m->h'.Ns X.env.locals m) (hok:HOk X.prog X.w H' h') (hg:AllBare g') :
  Inv X pins σ H' { s with heap:=h',gens:=g',drawn:=d',toks:=t' }:=by
 have neL:∀ b o,X.s₀.heap.get? b=some o->b≠X.env.locals:=λb o e=>fu (fj (Heap.lt_size e) I.ok.above)
 have neC:∀ b o,X.s₀.heap.get? b=some o->b ∉ X.ex->b ∉ ch:=λb o e hx hb=>by
  rcases (hch b hb).1 with z|z
  ·exact hx z
  ·exact absurd (fj (Heap.lt_size e) z) (jw _)
 have cellK:∀ x c,X.env.cells.lookup x=some c->∀ v,s.heap.IsCell c v->h'.IsCell c v:=by
  rintro x c e v ⟨o,ho,hd⟩;have nch:c ∉ ch:=λz=>(hch c z).2.2.1 x c e rfl
  rcases I.freeC x c e with fc|⟨_,oz,uz,fz⟩
  ·by_cases hc:c∈X.fs
   ·obtain ⟨sl,q⟩:=slot c o (I.cne x c e) hc nch ho fc;exact ⟨_,q,hd⟩
   ·exact ⟨o,keep c o (I.cne x c e) hc nch ho fc,hd⟩
  ·obtain ⟨e1,_⟩:=I.hok c _ fz;obtain ⟨e2,_⟩:=hok c _ (frzs c _ _ fz);rw [ho] at e1;cases e1;exact ⟨_,e2,hd⟩
 refine ⟨I.ok,I.os,hg,⟨λb o e n hb hx=>?_,λb o e n hb hx=>?_,λb o e n hx=>?_,λb o e hx=>?_,λb xs e=>tups b xs (I.base.tups b xs e),λb o xs e=>frzs b o xs (I.base.frzs b o xs e),λb ps e=>?_⟩,?_,λx c e=>?_,?_,λx c e=>?_,λp hp=>?_,hok,I.len⟩
 ·exact keep b o (neL b o e) hb (neC b o e hx) (I.base.keep b o e n hb hx) (I.base.free b o e n hx)
 ·obtain ⟨sl,e1⟩:=I.base.slot b o e n hb hx;obtain ⟨sl',e2⟩:=slot b _ (neL b o e) hb (neC b o e hx) e1 (I.base.free b o e n hx);exact ⟨sl',e2⟩
 ·obtain ⟨o',e1⟩:=I.base.there b o e hx;exact free b o' (neC b o e hx) e1 (I.base.free b o e n hx)
 ·obtain ⟨o',e1⟩:=I.base.there b o e hx;exact there b o' (neC b o e hx) e1
 ·obtain ⟨m1,e1⟩:=I.base.tbls b ps e;obtain ⟨m2,e2⟩:=tbls b _ e1;exact ⟨m1++m2,by rw [e2,Array.append_assoc]⟩
 ·obtain ⟨m,hn,hl⟩:=I.loc;refine ⟨m,ns m hn,λi x v e1 e2 e3=>?_⟩;obtain ⟨u,r,l⟩:=hl i x v e1 e2 e3;refine ⟨u,r,?_⟩;rcases l with l|⟨k,c,e,z⟩
  ·exact .inl l
  ·exact .inr ⟨k,c,e,cellK x c e _ z⟩
 ·obtain ⟨v,z⟩:=I.cell x c e;exact ⟨v,cellK x c e v z⟩
 ·obtain ⟨m,⟨o,_,_,ho,_⟩,_⟩:=I.loc;exact free _ o (λz=>(hch _ z).2.1 rfl) ho I.free
 ·obtain ⟨v,o,ho,hd⟩:=I.cell x c e;rcases I.freeC x c e with fc|⟨fx,oz,uz,fz⟩
  ·exact .inl (free c o (λz=>(hch c z).2.2.1 x c e rfl) ho fc)
  ·exact .inr ⟨fx,oz,uz,frzs c _ _ fz⟩
 ·obtain ⟨e,n,ne,nf,d⟩:=I.pin p hp;have nch:p.1 ∉ ch:=λz=>(hch p.1 z).2.2.2 p hp rfl
  exact ⟨keep p.1 p.2 ne nf nch e n,free p.1 p.2 nch e n,ne,nf,d⟩
theorem Inv.un {t':Nat}(I:Inv X pins σ H s) (u:Un X.fs [] H H' s.heap h') (hok:HOk X.prog X.w H' h'):Inv X pins σ H' { s with heap:=h',toks:=t' }:=by
 obtain ⟨m,⟨o,es,ep,ho,r⟩,_⟩:=id I.loc;obtain ⟨sl,hL⟩:=u.any ho I.free (by simp)
 exact I.step (g':=s.gens) (d':=s.drawn) (ch:=[]) (λ_ z=>nomatch z) (λb o _ hb _ e n=>u.keep b o e n hb (by simp)) (λb o _ hb _ e n=>u.slot b o e n hb (by simp)) (λb o _ e n=>u.free b o e n (by simp)) (λb o _ e=>u.there b o e (by simp)) u.tups u.frzs u.tbls (λm' hm=>by
  obtain ⟨o',es',ep',ho',r'⟩:=hm;rw [ho] at ho';cases ho'
  exact ⟨_,es',ep',hL,r'⟩) hok I.bare
theorem Inv.call {g':Array GenState}{t':Nat}{d':Drawn}{ch:List Addr}(I:Inv X pins σ H s) (u:Un (frs X.stack) ch H H' s.heap h') (hok:HOk X.prog X.w H' h') (hg:AllBare g')
  (hch:∀ b∈ch,(b∈X.ex\/X.s₀.heap.objs.size<=b)/\b≠X.env.locals/\(∀ x c,X.env.cells.lookup x=some c->c≠b)/\∀ p∈X.pn++pins,p.1≠b) :
  Inv X pins σ H' { s with heap:=h',gens:=g',drawn:=d',toks:=t' }:=by
 obtain ⟨m,⟨o,es,ep,ho,r⟩,_⟩:=id I.loc;obtain ⟨sl,hL⟩:=u.any ho I.free λz=>(hch _ z).2.1 rfl
 exact I.step (ch:=ch) hch (λb o hL hb hc e n=>u.keep b o e n (λz=>(dg.mp (I.stkSub b z)).elim hL hb) hc) (λb o _ _ hc e n=>u.any e n hc) (λb o hc e n=>u.free b o e n hc) (λb o hc e=>u.there b o e hc) u.tups u.frzs u.tbls (λm' hm=>by
  obtain ⟨o',es',ep',ho',r'⟩:=hm;rw [ho] at ho';cases ho'
  exact ⟨_,es',ep',hL,r'⟩) hok hg
theorem Inv.turned {t':Nat}{it:Addr}(I:Inv X pins σ H s) (k:∀ b o,b≠it->s.heap.get? b=some o->h'.get? b=some o) (hn:H it=none) (hL:it≠X.env.locals)
  (h1:it∈X.ex\/X.s₀.heap.objs.size<=it) (h2:∀ x c,X.env.cells.lookup x=some c->c≠it) (h3:∀ p∈X.pn++pins,p.1≠it):Inv X pins σ H { s with heap:=h',toks:=t' }:=by
 have nit:∀ b u,H b=some u->b≠it:=λb u e z=>by rw [z,hn] at e;cases e
 refine I.step (g':=s.gens) (d':=s.drawn) (ch:=[it]) (λb hb=>?_) (λb o _ _ hc e _=>k b o (λz=>hc (by simp [z])) e) (λb o _ _ hc e _=>⟨o.slots,k b o (λz=>hc (by simp [z])) e⟩) (λ_ _ _ _ n=>n)
  (λb o hc e=>⟨o,k b o (λz=>hc (by simp [z])) e⟩) (λ_ _ e=>e) (λ_ _ _ e=>e) (λb ps e=>⟨#[],by rw [e];simp⟩) (λm hm=>?_) (λb u e=>?_) I.bare
 ·have e:b=it:=by simpa using hb
  subst e;exact ⟨h1,hL,h2,h3⟩
 ·obtain ⟨o,es,ep,ho,r⟩:=hm;exact ⟨o,es,ep,k _ o (Ne.symm hL) ho,r⟩
 ·refine (I.hok b u e).stay (λc v hc q=>k c v ?_ q) (λ_ q=>q) λ_ _ q=>q
  rcases hc with z|z
  ·rw [z];exact nit b u e
  ·exact nit c _ z
theorem Inv.tok (I:Inv X pins σ H s) (t:Nat):Inv X pins σ H { s with toks:=t }:=I.un (h':=s.heap) (t':=t) Un.refl I.hok
theorem Inv.kept {t':Nat}(I:Inv X pins σ H s) (k:∀ b u,s.heap.get? b=some u->h'.get? b=some u):Inv X pins σ H { s with heap:=h',toks:=t' }:=I.un (Un.kept k) (I.hok.kept k)
theorem Inv.laid {a:Addr}{o:HO}{t':Nat}(I:Inv X pins σ H s) (k:∀ b u,s.heap.get? b=some u->h'.get? b=some u) (hp:s.heap.objs.size<=a) (new:Fj X.prog X.w (upd H a o) h' a o) :
  Inv X pins σ (upd H a o) { s with heap:=h',toks:=t' }:=I.un (Un.laid k hp (I.hok.fresh hp)) (I.hok.laid k hp new)
theorem Inv.write {x e:Addr}{o:HO}{t':Nat}(I:Inv X pins σ H s) (mu:Mut (H x)) (he:e=x\/H e=some (.own x)) (k:∀ b u,b≠e->s.heap.get? b=some u->h'.get? b=some u) (heo:∃ u,h'.get? e=some u)
  (new:Fj X.prog X.w (upd H x o) h' x o):Inv X pins σ (upd H x o) { s with heap:=h',toks:=t' }:=I.un (Un.write mu he k heo) (I.hok.write mu he k heo new)
theorem Inv.weak {σ':List (Option V)}(I:Inv X pins σ H s) (hl:σ'.length=σ.length) (w:∀ (i:Nat) v,σ'[i]?=some (some v)->σ[i]?=some (some v)):Inv X pins σ' H s :=
 ⟨I.ok,I.os,I.bare,I.base,let ⟨m,hn,hl'⟩:=I.loc;⟨m,hn,λi x v e1 e2 e3=>hl' i x v e1 (w i v e2) e3⟩,I.cell,I.free,I.freeC,I.pin,I.hok,hl.trans I.len⟩
theorem Inv.pins_of {pins':List (Addr×Obj)}(I:Inv X pins σ H s) (h:∀ p∈pins',s.heap.get? p.1=some p.2/\H p.1=none/\p.1≠X.env.locals/\p.1 ∉ X.fs/\∀ v,p.2.data≠.cell v):Inv X pins' σ H s :=
 ⟨I.ok,I.os,I.bare,I.base,I.loc,I.cell,I.free,I.freeC,λp hp=>(jl.mp hp).elim (λz=>I.pin p (xu _ z)) (h p),I.hok,I.len⟩
theorem Sq {N:List Str}(hN:N.Nodup) {i j:Nat}{x:Str}(a:N[i]?=some x) (b:N[j]?=some x):i=j:=by
 obtain ⟨h1,e1⟩:=bf.mp a;obtain ⟨h2,e2⟩:=bf.mp b;exact (List.getElem_inj hN).mp (e1.trans e2.symm)
theorem Yx {M:Model}{A:Around}{E:Value->Shared->Prop}{i:Nat}{x:Str}{v:V}{u:Value}{Q:Unit->Shared->Prop}(I:Inv X pins σ H s) (hN:X.N.Nodup) (hi:X.N[i]?=some x) (hx:Loc X.env.scope x) (r:RelV v u)
  (h:∀ s',Inv X pins (σ.set i (some v)) H s'->(∃ a,HD a s.heap s'.heap/\(a=X.env.locals\/X.env.cells.lookup x=some a))->Q () s') (hf:X.fn x=true\/X.env.scope.names.lookup x=some .local:=by first | exact .inl rfl | exact .inr rfl | assumption):wpAny M A (storeName X.env x u) Q E s:=by
 obtain ⟨m,hn,hl⟩:=id I.loc;have hcls:(X.env.scope.kind==.class || (X.env.scope.kind==.module&&X.env.locals != X.env.globals))=false:=by rw [I.ok.kind];rfl
 have hiσ:i < σ.length:=by rw [I.len];exact (bf.mp hi).1
 have cne:=I.cne;have tracked:∀ {a:Addr} {h':Heap},(∃ o,s.heap.get? a=some o/\H a=none)->HD a s.heap h'->HOk X.prog X.w H h':=λ{a h'} ha hs b ob e=>by
  obtain ⟨_,_,hfree⟩:=ha;refine (I.hok b ob e).stay (λc w' hc q=>(hs.2 c ?_).trans q) (λ_ q=>q) λ_ _ q=>q
  rintro rfl;rcases hc with rfl|hc
  ·rw [hfree] at e;cases e
  ·rw [hfree] at hc;cases hc
 rcases hx with hk|hk
 ·refine wpAny_storeName_local hk hn (λh' hn' hs=>?_) hcls;obtain ⟨oL,_,_,hoL,_⟩:=id hn;refine h _ ⟨I.ok,I.os,I.bare,⟨λb o e n hb hx=>?_,λb o e n hb hx=>?_,I.base.free,λb o e hx=>?_,I.base.tups,I.base.frzs,I.base.tbls⟩,⟨_,hn',λj y v' e1 e2 e3=>?_⟩,λy c e=>?_,I.free,I.freeC,λp hp=>?_,tracked ⟨oL,hoL,I.free⟩ hs,by simpa using I.len⟩ ⟨_,hs,.inl rfl⟩
  ·exact (hs.2 b (fu (fj (Heap.lt_size e) I.ok.above))).trans (I.base.keep b o e n hb hx)
  ·obtain ⟨sl,e1⟩:=I.base.slot b o e n hb hx;exact ⟨sl,(hs.2 b (fu (fj (Heap.lt_size e) I.ok.above))).trans e1⟩
  ·obtain ⟨o',e1⟩:=I.base.there b o e hx;exact ⟨o',(hs.2 b (fu (fj (Heap.lt_size e) I.ok.above))).trans e1⟩
  ·by_cases hj:j=i
   ·subst hj;rw [hi] at e1;cases e1;rw [JN hiσ] at e2;cases e2;exact ⟨u,r,.inl ⟨hk,by simp⟩⟩
   ·rw [gk (Ne.symm hj)] at e2;obtain ⟨u',r',q⟩:=hl j y v' e1 e2 e3;refine ⟨u',r',?_⟩;rcases q with ⟨k,e⟩|⟨k,c,e,z⟩
    ·refine .inl ⟨k,?_⟩;have:y≠x:=λe=>hj (Sq hN e1 (e ▸ hi))
     simp [this,e]
    ·exact .inr ⟨k,c,e,z.sameBut hs (cne y c e)⟩
  ·obtain ⟨w',z⟩:=I.cell y c e;exact ⟨w',z.sameBut hs (cne y c e)⟩
  ·obtain ⟨e,n,ne,nf,d⟩:=I.pin p hp;exact ⟨(hs.2 p.1 ne).trans e,n,ne,nf,d⟩
 ·have hfn:X.fn x=true:=by
   rcases hf with z|z
   ·exact z
   ·rw [z] at hk;cases hk
  obtain ⟨c,hc⟩:=I.ok.has x (.inl hk);obtain ⟨w',z⟩:=I.cell x c hc;refine wpAny_storeName_cell I.ok.kind hk hc z (λh' hc' hs=>?_);obtain ⟨oc,hoc,hocd⟩:=id z;refine h { s with heap:=h' } ⟨I.ok,I.os,I.bare,⟨λb o e n hb hx=>?_,λb o e n hb hx=>?_,I.base.free,λb o e hx=>?_,I.base.tups,I.base.frzs,I.base.tbls⟩,⟨m,hn.sameBut hs (Ne.symm (cne x c hc)),λj y v' e1 e2 e3=>?_⟩,λy c' e=>?_,I.free,I.freeC,λp hp=>?_,tracked ⟨oc,hoc,(I.freeC x c hc).resolve_right λz=>by rw [hfn] at z;cases z.1⟩ hs,by simpa using I.len⟩ ⟨c,hs,.inr hc⟩
  ·exact (hs.2 b (fu (fj (Heap.lt_size e) (I.ok.cab x c hfn hc)))).trans (I.base.keep b o e n hb hx)
  ·obtain ⟨sl,e1⟩:=I.base.slot b o e n hb hx;exact ⟨sl,(hs.2 b (fu (fj (Heap.lt_size e) (I.ok.cab x c hfn hc)))).trans e1⟩
  ·obtain ⟨o',e1⟩:=I.base.there b o e hx;exact ⟨o',(hs.2 b (fu (fj (Heap.lt_size e) (I.ok.cab x c hfn hc)))).trans e1⟩
  ·by_cases hj:j=i
   ·subst hj;rw [hi] at e1;cases e1;rw [JN hiσ] at e2;cases e2;exact ⟨u,r,.inr ⟨.inl hk,c,hc,hc'⟩⟩
   ·rw [gk (Ne.symm hj)] at e2;obtain ⟨u',r',q⟩:=hl j y v' e1 e2 e3;refine ⟨u',r',?_⟩;rcases q with q|⟨k,c',e,z'⟩
    ·exact .inl q
    ·refine .inr ⟨k,c',e,z'.sameBut hs ?_⟩;rintro rfl;exact hj (Sq hN e1 (I.ok.inj _ _ _ e hc ▸ hi))
  ·by_cases hcc:c'=c
   ·subst hcc;exact ⟨_,hc'⟩
   ·obtain ⟨w2,z2⟩:=I.cell y c' e;exact ⟨w2,z2.sameBut hs hcc⟩
  ·obtain ⟨e,n,ne,nf,d⟩:=I.pin p hp;refine ⟨(hs.2 p.1 ?_).trans e,n,ne,nf,d⟩;intro q;rw [q,hoc] at e;have q':oc=p.2:=Option.some.inj e;exact d w' (by rw [← q'];exact hocd)
theorem Mv {M:Model}{A:Around}{E:Value->Shared->Prop}{i:Nat}{x:Str}{v:V}{u:Value}{Q:Unit->Shared->Prop}(I:Inv X pins σ H s) (hN:X.N.Nodup) (hi:X.N[i]?=some x) (hx:Loc X.env.scope x) (r:RelV v u)
  (h:∀ s',Inv X pins (σ.set i (some v)) H s'->Q () s') (hf:X.fn x=true\/X.env.scope.names.lookup x=some .local:=by first | exact .inl rfl | exact .inr rfl | assumption):wpAny M A (storeName X.env x u) Q E s :=
 Yx I hN hi hx r (λs' I' _=>h s' I') hf
theorem Inv.call' {s':Shared}{ch:List Addr}(I:Inv X pins σ H s) (ho:s'.os=s.os) (u:Un (frs X.stack) ch H H' s.heap s'.heap) (hok:HOk X.prog X.w H' s'.heap) (hg:AllBare s'.gens)
  (hch:∀ b∈ch,(b∈X.ex\/X.s₀.heap.objs.size<=b)/\b≠X.env.locals/\(∀ x c,X.env.cells.lookup x=some c->c≠b)/\∀ p∈X.pn++pins,p.1≠b):Inv X pins σ H' s':=by
 obtain ⟨h',g',d',t',o'⟩:=s';have e:o'=s.os:=ho;subst e;exact I.call (g':=g') (t':=t') (d':=d') u hok hg hch
end
noncomputable abbrev XK:=Value->Option Addr->Hp->Prop
noncomputable abbrev St:=List (Option V)
noncomputable abbrev VK:=V->Hp->Prop
noncomputable abbrev TE:=St->Hp->VK->Prop
noncomputable abbrev TT:=St->Hp->(Bool->Hp->Prop)->Prop
noncomputable abbrev TA:=St->Hp->(List V->Hp->Prop)->Prop
structure Ends where
 nx:St->Hp->Prop
 rt:VK
 bk:St->Hp->Prop:=λ_ _=>False
 ct:St->Hp->Prop:=λ_ _=>False
noncomputable abbrev TS:=Ends->St->Hp->Prop
noncomputable def EP (X:Cx) (pins:List (Addr×Obj)) (σ:St) (Q:VK) (u:Value) (s':Shared):Prop:=∃ v H',Inv X pins σ H' s'/\RelV v u/\Q v H'
noncomputable def TP (X:Cx) (pins:List (Addr×Obj)) (σ:St) (Q:Bool->Hp->Prop) (b:Bool) (s':Shared):Prop:=∃ H',Inv X pins σ H' s'/\Q b H'
noncomputable def AP (X:Cx) (pins:List (Addr×Obj)) (σ:St) (Q:List V->Hp->Prop) (us:List Value) (s':Shared):Prop:=∃ vs H',Inv X pins σ H' s'/\Vals vs us/\Q vs H'
noncomputable def SP (X:Cx) (pins:List (Addr×Obj)) (D:Ends) (f:Flow) (s':Shared):Prop :=
 match f with
 | .next=>∃ σ' H',Inv X pins σ' H' s'/\D.nx σ' H'
 | .brk=>∃ σ' H',Inv X pins σ' H' s'/\D.bk σ' H'
 | .cont=>∃ σ' H',Inv X pins σ' H' s'/\D.ct σ' H'
 | .ret u=>∃ v σ' H',Inv X pins σ' H' s'/\RelV v u/\D.rt v H'
noncomputable def PE (X:Cx) (e:Expr) (t:TE):Prop :=
 ∀ (pins:List (Addr×Obj)) (s:Shared) (σ:St) (H:Hp) (Q:VK),Inv X pins σ H s->t σ H Q->wpAny (model X.prog X.w) X.A (eval e X.env) (EP X pins σ Q) X.xe s
noncomputable def PT (X:Cx) (e:Expr) (t:TT):Prop :=
 ∀ (pins:List (Addr×Obj)) (s:Shared) (σ:St) (H:Hp) (Q:Bool->Hp->Prop),Inv X pins σ H s->t σ H Q->wpAny (model X.prog X.w) X.A (isTrue e X.env (eval e X.env)) (TP X pins σ Q) X.xe s
noncomputable def PW (X:Cx) (e:Expr) (t:TT):Prop :=
 ∀ (whole:Sem Value) (pins:List (Addr×Obj)) (s:Shared) (σ:St) (H:Hp) (Q:Bool->Hp->Prop),Inv X pins σ H s->t σ H Q->wpAny (model X.prog X.w) X.A (isTrue e X.env whole) (TP X pins σ Q) X.xe s
theorem PW.pt {X:Cx}{e:Expr}{t:TT}(h:PW X e t):PT X e t:=h _
noncomputable def PA (X:Cx) (es:List Expr) (t:TA):Prop :=
 ∀ (pos:Pos) (pins:List (Addr×Obj)) (s:Shared) (σ:St) (H:Hp) (Q:List V->Hp->Prop),Inv X pins σ H s->t σ H Q->wpAny (model X.prog X.w) X.A (spliced (backTo pos (starEach es X.env))) (AP X pins σ Q) X.xe s
noncomputable def PS (X:Cx) (st:Stmt) (t:TS):Prop :=
 ∀ (pins:List (Addr×Obj)) (s:Shared) (σ:St) (H:Hp) (D:Ends),Inv X pins σ H s->t D σ H->wpAny (model X.prog X.w) X.A (exec st X.env) (SP X pins D) X.xe s
noncomputable def PSs (X:Cx) (st:List Stmt) (t:TS):Prop :=
 ∀ (pins:List (Addr×Obj)) (s:Shared) (σ:St) (H:Hp) (D:Ends),Inv X pins σ H s->t D σ H->wpAny (model X.prog X.w) X.A (execs st X.env) (SP X pins D) X.xe s
theorem thn {α:Type}{t:Sem α}{Q Q':α->Shared->Prop}{M:Model}{A:Around}{E:Value->Shared->Prop}{s:Shared}(h:wpAny M A t Q E s) (hQ:∀ a s,Q a s->Q' a s):wpAny M A t Q' E s:=qb h hQ λ_ _ x=>x
section
variable {X:Cx}
noncomputable def vD (i:Nat):TE:=λσ H Q=>∃ v,σ[i]?=some (some v)/\Q v H
noncomputable def tC (v:V):TE:=λ_ H Q=>Q v H
theorem Kq {i:Nat}{x:Str}{pos:Pos}(hN:X.N[i]?=some x) (hv:Vis X.env.scope x) (hd:(x==("__debug__":Str))=false:=by decide) (hcd:(x==("__classdict__":Str))=false:=by decide):PE X (.Name x pos) (vD i):=by
 intro pins s σ H Q I h;obtain ⟨v,e,h⟩:=h;obtain ⟨m,hn,hl⟩:=I.loc;obtain ⟨u,r,l⟩:=hl i x v hN e hv;have fin:EP X pins σ Q u s:=⟨v,H,I,r,h⟩;rcases l with ⟨hk,hm⟩|⟨hk,c,hc,hcell⟩
 ·exact QZ (wpAny_loadName_local I.ok.kind hk hn hm fin) hd
 ·rcases hk with hk|hk
  ·exact QZ (wpAny_loadName_cell I.ok.kind hk hc hcell fin) hd
  ·exact QZ (wpAny_loadName_free I.ok.kind hk hc hcell fin hcd) hd
theorem vG {i j pos}:PE X (.Constant (.int i) j pos) (tC (.int i)):=λ_ _ _ H _ I h=>OD ⟨.int i,H,I.tok _,⟨_,rfl⟩,h⟩
theorem Aby {b j pos}:PE X (.Constant (.bool b) j pos) (tC (.bl b)):=λ_ _ _ H _ I h=>Constant_bool ⟨.bl b,H,I,rfl,h⟩
theorem vH {j pos}:PE X (.Constant .none j pos) (tC .non):=λ_ _ _ H _ I h=>Constant_none ⟨.non,H,I,rfl,h⟩
theorem vI {x j pos}:PE X (.Constant (.str x) j pos) (tC (.str x)):=λ_ _ _ H _ I h=>Calls.Constant_str ⟨.str x,H,I.tok _,⟨_,rfl⟩,h⟩
noncomputable def Gl (X:Cx) (x:Str):Prop:=X.env.kindOf x=some .globalImplicit
theorem Mh {E:Value->Shared->Prop}{pins:List (Addr×Obj)}{s:Shared}{σ:St}{H:Hp}{x:Str}{u:Value}{pos:Pos}{Q:Value->Shared->Prop}(I:Inv X pins σ H s) (hg:Gl X x) (hm:X.mg x=some u) (h:Q u s)
  (hd:(x==("__debug__":Str))=false:=by decide):wpAny (model X.prog X.w) X.A (eval (.Name x pos) X.env) Q E s :=
 GC I.ok.kind hg (Calls.loadGlobal_global (by rw [I.ok.glob];exact I.mod.glob.keeps I.bk) hm h) hd
theorem Kr {E:Value->Shared->Prop}{pins:List (Addr×Obj)}{s:Shared}{σ:St}{H:Hp}{x:Str}{u:Value}{pos:Pos}{Q:Value->Shared->Prop}(I:Inv X pins σ H s) (hg:Gl X x) (hm:X.mg x=none) (hv:bootBuiltins x=some u) (h:Q u s)
  (hn:x ≠ "__name__":=by decide) (hd:(x==("__debug__":Str))=false:=by decide):wpAny (model X.prog X.w) X.A (eval (.Name x pos) X.env) Q E s:=by
 obtain ⟨mb,h1,h2⟩:=I.mod.blt;exact GC I.ok.kind hg (Calls.loadGlobal_builtin (by rw [I.ok.glob];exact I.mod.glob.keeps I.bk) hm (by rw [I.ok.blt];exact h1.keeps I.bk) ((h2 x hn).trans hv) h) hd
theorem nP {x:Str}{v:V}{u:Value}{pos:Pos}(hg:Gl X x) (hm:X.mg x=some u) (r:RelV v u) (hd:(x==("__debug__":Str))=false:=by decide):PE X (.Name x pos) (tC v) :=
 λ_ _ _ H _ I h=>Mh I hg hm ⟨v,H,I,r,h⟩ hd
theorem nQ {x:Str}{v:V}{u:Value}{pos:Pos}(hg:Gl X x) (hm:X.mg x=none) (hv:bootBuiltins x=some u) (r:RelV v u) (hn:x ≠ "__name__":=by decide) (hd:(x==("__debug__":Str))=false:=by decide):PE X (.Name x pos) (tC v) :=
 λ_ _ _ H _ I h=>Kr I hg hm hv ⟨v,H,I,r,h⟩ hn hd
variable {a b:Expr}{ta tb:TE}{pos:Pos}
theorem RelV.none_iff {x:V}{v:Value}(r:RelV x v):(v==Value.none)=decide (x=.non):=by
 cases x with
 | non=>cases r;rfl
 | bl _=>cases r;rfl
 | int _=>obtain ⟨t,rfl⟩:=r;rfl
 | str _=>obtain ⟨t,rfl⟩:=r;rfl
 | byt _=>obtain ⟨t,rfl⟩:=r;rfl
 | flt _=>obtain ⟨t,rfl⟩:=r;rfl
 | ref _=>cases r;rfl
 | ty _=>cases r;rfl
variable {tA tB':TT}{rest:List Expr}
noncomputable def Aeo (t u:TT):TT:=λσ H Q=>t σ H λc H1=>if c=true then u σ H1 Q else Q false H1
noncomputable def tOr (t u:TT):TT:=λσ H Q=>t σ H λc H1=>if c=true then Q true H1 else u σ H1 Q
noncomputable def Aep (t:TT):TT:=λσ H Q=>t σ H λc H1=>Q (!c) H1
theorem nR (ha:PT X a tA):PW X (.BoolOp .And [a] pos) tA:=by
 intro wh pins s σ H Q I h;refine isTrue_and (thn (ha pins s σ H Q I h) λc s1 e=>?_);cases c with
 | true=>exact isTrue_and_nil e
 | false=>exact e
theorem vJ (ha:PT X a tA):PW X (.BoolOp .Or [a] pos) tA:=by
 intro wh pins s σ H Q I h;refine isTrue_or (thn (ha pins s σ H Q I h) λc s1 e=>?_);cases c with
 | false=>exact isTrue_or_nil e
 | true=>exact e
theorem vK (ha:PT X a tA) (hb:PW X (.BoolOp .And (b::rest) pos) tB'):PW X (.BoolOp .And (a::b::rest) pos) (Aeo tA tB'):=by
 intro wh pins s σ H Q I h;refine isTrue_and (thn (ha pins s σ H _ I h) ?_);rintro c s1 ⟨H1,I1,q1⟩;cases c with
 | true=>exact hb wh pins s1 σ H1 Q I1 q1
 | false=>exact ⟨H1,I1,q1⟩
theorem Abz (ha:PT X a tA) (hb:PW X (.BoolOp .Or (b::rest) pos) tB'):PW X (.BoolOp .Or (a::b::rest) pos) (tOr tA tB'):=by
 intro wh pins s σ H Q I h;refine isTrue_or (thn (ha pins s σ H _ I h) ?_);rintro c s1 ⟨H1,I1,q1⟩;cases c with
 | true=>exact ⟨H1,I1,q1⟩
 | false=>exact hb wh pins s1 σ H1 Q I1 q1
theorem vL (ha:PT X a tA):PT X (.UnaryOp .Not a pos) (Aep tA):=by
 intro pins s σ H Q I h;exact isTrue_not (ha pins s σ H (λc H1=>Q (!c) H1) I h)
noncomputable def Ab0 (ta tb:TE):TE:=λσ H Q=>ta σ H λx H1=>∃ c,x=.bl c/\if c=true then tb σ H1 Q else Q (.bl false) H1
noncomputable def Aeq (ta tb:TE):TE:=λσ H Q=>ta σ H λx H1=>∃ c,x=.bl c/\if c=true then Q (.bl true) H1 else tb σ H1 Q
noncomputable def Ab1 (ta:TE):TE:=λσ H Q=>ta σ H λx H1=>∃ c,x=.bl c/\Q (.bl (!c)) H1
theorem vM {op}{t:TE}(h:PE X a t):PE X (.BoolOp op [a] pos) t:=λpins s σ H Q I hw=>BoolOp_one (h pins s σ H Q I hw)
theorem vN (ha:PE X a ta) (hb:PE X (.BoolOp .And (b::rest) pos) tb):PE X (.BoolOp .And (a::b::rest) pos) (Ab0 ta tb):=by
 intro pins s σ H Q I h;refine BoolOp_and (thn (ha pins s σ H _ I h) ?_);rintro v s1 ⟨x,H1,I1,r1,q1⟩;obtain ⟨c,rfl,q1⟩:=q1;cases r1;refine ou ?_;cases c with
 | true=>exact hb pins s1 σ H1 Q I1 q1
 | false=>exact ⟨.bl false,H1,I1,rfl,q1⟩
theorem Ab2 (ha:PE X a ta) (hb:PE X (.BoolOp .Or (b::rest) pos) tb):PE X (.BoolOp .Or (a::b::rest) pos) (Aeq ta tb):=by
 intro pins s σ H Q I h;refine BoolOp_or (thn (ha pins s σ H _ I h) ?_);rintro v s1 ⟨x,H1,I1,r1,q1⟩;obtain ⟨c,rfl,q1⟩:=q1;cases r1;refine ou ?_;cases c with
 | false=>exact hb pins s1 σ H1 Q I1 q1
 | true=>exact ⟨.bl true,H1,I1,rfl,q1⟩
theorem vO (ha:PE X a ta):PE X (.UnaryOp .Not a pos) (Ab1 ta):=by
 intro pins s σ H Q I h;refine UnaryOp_ (thn (ha pins s σ H _ I h) ?_);rintro v s1 ⟨x,H1,I1,r1,q1⟩;obtain ⟨c,rfl,q1⟩:=q1;cases r1;exact not_of (ou ⟨.bl (!c),H1,I1,rfl,q1⟩)
noncomputable def tIf (t:TT) (ta tb:TE):TE:=λσ H Q=>t σ H λc H1=>if c=true then ta σ H1 Q else tb σ H1 Q
theorem bI {c:Expr}(hc:PT X c tA) (ha:PE X a ta) (hb:PE X b tb):PE X (.IfExp c a b pos) (tIf tA ta tb):=by
 intro pins s σ H Q I h;refine wpAny_IfExp (thn (hc pins s σ H _ I h) ?_);rintro d s1 ⟨H1,I1,q1⟩;cases d with
 | true=>exact ha pins s1 σ H1 Q I1 q1
 | false=>exact hb pins s1 σ H1 Q I1 q1
end
noncomputable def SqL (K:aj) (H:Hp) (a:Addr) (xs:List V):Prop :=
 Rd H a (.lst xs) \/
  ∃ (o:Obj) (its:Array Value) (n:Nat),K.lookup a=some o/\o.cls=.type "list"/\o.dict=none/\o.data=.seq its n/\its.size<=sizeLine/\Vals xs its.toList
noncomputable def SqT (K:aj) (H:Hp) (a:Addr) (xs:List V):Prop :=
 Rd H a (.tup xs) \/
  ∃ (o:Obj) (its:Array Value) (n:Nat),K.lookup a=some o/\o.cls=.type "tuple"/\o.dict=none/\o.data=.seq its n/\its.size<=sizeLine/\Vals xs its.toList
noncomputable def Aer:Value->Option V
 | .none=>some .non
 | .bool b=>some (.bl b)
 | .int i _=>some (.int i)
 | .str x _=>some (.str x)
 | .bytes b _=>some (.byt b)
 | .float b _=>some (.flt b)
 | .ref a=>some (.ref a)
 | .type n=>some (.ty n)
 | _=>none
theorem RelV.abs {x:V}{u:Value}(r:RelV x u):Aer u=some x:=by
 cases x with
 | non=>cases r;rfl
 | bl _=>cases r;rfl
 | int _=>obtain ⟨t,rfl⟩:=r;rfl
 | str _=>obtain ⟨t,rfl⟩:=r;rfl
 | byt _=>obtain ⟨t,rfl⟩:=r;rfl
 | flt _=>obtain ⟨t,rfl⟩:=r;rfl
 | ref _=>cases r;rfl
 | ty _=>cases r;rfl
theorem RelV.inj {x y:V}{u:Value}(r:RelV x u) (q:RelV y u):x=y:=Option.some.inj (r.abs.symm.trans q.abs)
theorem Vals.inj {xs ys:List V}{us:List Value}(a:Vals xs us) (b:Vals ys us):xs=ys:=by
 induction a generalizing ys with
 | nil=>cases b;rfl
 | cons r t ih =>
  cases b with
  | cons r' t'=>rw [r.inj r',ih t']
section
variable {X:Cx}{pins:List (Addr×Obj)}{σ:St}{H:Hp}{s:Shared}{a:Addr}{xs ys:List V}
theorem Inv.list (I:Inv X pins σ H s) (h:SqL X.K H a xs):∃ its:List Value,Vals xs its/\PlainL s.heap a its.toArray/\xs.length<=sizeLine:=by
 rcases h with h|⟨o,its,n,hk,hc,hd,hs,hz,r⟩
 ·obtain ⟨z,its,n,r,e⟩:=h.ok I.hok;exact ⟨its,r,⟨_,n,e,rfl,rfl,rfl⟩,z⟩
 ·refine ⟨its.toList,r,⟨o,n,I.kIn a o hk,hc,hd,by simpa using hs⟩,?_⟩;have e:=r.length;simp only [qj] at e;omega
theorem Inv.tuple (I:Inv X pins σ H s) (h:SqT X.K H a xs):∃ its:List Value,Vals xs its/\IsTup s.heap a its.toArray/\xs.length<=sizeLine:=by
 rcases h with h|⟨o,its,n,hk,hc,hd,hs,hz,r⟩
 ·obtain ⟨z,its,r,p⟩:=h.ok I.hok;exact ⟨its,r,p.to,z⟩
 ·refine ⟨its.toList,r,⟨o,I.kIn a o hk,hc,n,by simpa using hs⟩,?_⟩;have e:=r.length;simp only [qj] at e;omega
theorem Inv.tupleP (I:Inv X pins σ H s) (h:SqT X.K H a xs):∃ its:List Value,Vals xs its/\Mu s.heap a its.toArray/\xs.length<=sizeLine:=by
 rcases h with h|⟨o,its,n,hk,hc,hd,hs,hz,r⟩
 ·obtain ⟨z,its,r,p⟩:=h.ok I.hok;exact ⟨its,r,p,z⟩
 ·refine ⟨its.toList,r,⟨o,I.kIn a o hk,hc,hd,n,by simpa using hs⟩,?_⟩;have e:=r.length;simp only [qj] at e;omega
theorem Inv.list_inj (I:Inv X pins σ H s) (h:SqL X.K H a xs) (h':SqL X.K H a ys):xs=ys:=by
 obtain ⟨its,r,⟨o,n,e,_,_,d⟩,_⟩:=I.list h;obtain ⟨its',r',⟨o',n',e',_,_,d'⟩,_⟩:=I.list h';rw [e] at e';cases e';rw [d] at d';injection d' with d1 _
 have:its=its':=by simpa using congrArg Array.toList d1
 subst this;exact r.inj r'
theorem Inv.tuple_inj (I:Inv X pins σ H s) (h:SqT X.K H a xs) (h':SqT X.K H a ys):xs=ys:=by
 obtain ⟨its,r,⟨o,e,_,n,d⟩,_⟩:=I.tuple h;obtain ⟨its',r',⟨o',e',_,n',d'⟩,_⟩:=I.tuple h';rw [e] at e';cases e';rw [d] at d';injection d' with d1 _
 have:its=its':=by simpa using congrArg Array.toList d1
 subst this;exact r.inj r'
end
noncomputable abbrev Cx.wish (X:Cx) (E:Value->Shared->Prop):Cx:={ X with xe:=E }
noncomputable abbrev Cx.nox (X:Cx):Cx:=X.wish λ_ _=>False
theorem Cx.Ok.wish {X:Cx}(ok:X.Ok) (E:Value->Shared->Prop):(X.wish E).Ok :=
 ⟨ok.mod,ok.kind,ok.glob,ok.blt,ok.above,ok.inj,ok.has,ok.cab,ok.hd,ok.frames,ok.stk,ok.exf,ok.bs,ok.bsz,ok.noex,ok.exfs,ok.funs,ok.frf⟩
theorem Cx.Ok.unwish {X:Cx}{E:Value->Shared->Prop}(ok:(X.wish E).Ok):X.Ok :=
 ⟨ok.mod,ok.kind,ok.glob,ok.blt,ok.above,ok.inj,ok.has,ok.cab,ok.hd,ok.frames,ok.stk,ok.exf,ok.bs,ok.bsz,ok.noex,ok.exfs,ok.funs,ok.frf⟩
section
variable {X:Cx}{pins:List (Addr×Obj)}{σ:St}{H:Hp}{s:Shared}{E:Value->Shared->Prop}
theorem Inv.wish (I:Inv X pins σ H s) (E:Value->Shared->Prop):Inv (X.wish E) pins σ H s:=⟨I.ok.wish E,I.os,I.bare,I.base,I.loc,I.cell,I.free,I.freeC,I.pin,I.hok,I.len⟩
theorem Inv.unwish (I:Inv (X.wish E) pins σ H s):Inv X pins σ H s:=⟨I.ok.unwish,I.os,I.bare,I.base,I.loc,I.cell,I.free,I.freeC,I.pin,I.hok,I.len⟩
theorem SP.unwish {D:Ends}{f:Flow}{s':Shared}(h:SP (X.wish E) pins D f s'):SP X pins D f s':=by
 cases f with
 | next=>obtain ⟨σ',H',I,q⟩:=h;exact ⟨σ',H',I.unwish,q⟩
 | brk=>obtain ⟨σ',H',I,q⟩:=h;exact ⟨σ',H',I.unwish,q⟩
 | cont=>obtain ⟨σ',H',I,q⟩:=h;exact ⟨σ',H',I.unwish,q⟩
 | ret u=>obtain ⟨v,σ',H',I,r,q⟩:=h;exact ⟨v,σ',H',I.unwish,r,q⟩
theorem PSs.nox {st:List Stmt}{t:TS}(h:PSs X.nox st t):PSs X st t:=λpins s σ H D I hw =>
 qb (h pins s σ H D (I.wish _) hw) (λ_ _ q=>q.unwish) λ_ _ z=>False.elim z
end
section
variable {X:Cx}{st:Stmt}{rest:List Stmt}{t u:TS}{e:Expr}{te:TE}{pos:Pos}
noncomputable def tX:TS:=λD σ H=>D.nx σ H
noncomputable def Aes (t u:TS):TS:=λD σ H=>t { D with nx:=u D } σ H
theorem nT:PSs X [] tX:=λ_ _ σ H _ I h=>wpAny_execs_nil ⟨σ,H,I,h⟩
theorem bJ (h1:PS X st t) (h2:PSs X rest u):PSs X (st::rest) (Aes t u):=by
 intro pins s σ H D I h;refine wpAny_execs_cons (thn (h1 pins s σ H { D with nx:=u D } I h) λf s1 q=>?_);cases f with
 | next =>
  obtain ⟨σ',H',I',q⟩:=q;exact h2 pins s1 σ' H' D I' q
 | ret v=>exact q
 | brk=>exact q
 | cont=>exact q
noncomputable def vP:TS:=λD σ H=>D.bk σ H
noncomputable def Ab3:TS:=λD σ H=>D.ct σ H
theorem nU:PS X (.Pass pos) tX:=λ_ _ σ H _ I h=>wpAny_Pass ⟨σ,H,I,h⟩
theorem bK:PS X (.Break pos) vP:=λ_ _ σ H _ I h=>wpAny_Break ⟨σ,H,I,h⟩
theorem Ss:PS X (.Continue pos) Ab3:=λ_ _ σ H _ I h=>wpAny_Continue ⟨σ,H,I,h⟩
theorem Inv.quiet {pins:List (Addr×Obj)}{σ:St}{H:Hp}{s:Shared}(I:Inv X pins σ H s):interactive X.env=false:=by simp [interactive,I.ok.kind]
noncomputable def Ab4 (te:TE):TS:=λD σ H=>te σ H λ_ H1=>D.nx σ H1
theorem nW (he:PE X e te) (hs:swapsWith e none pos.line X.env=pure false:=by rfl):PS X (.Expr e pos) (Ab4 te):=by
 intro pins s σ H D I h;exact wpAny_Expr_any (thn (he pins s σ H _ I h) λv s1 ⟨x,H1,I1,r1,q1⟩=>⟨σ,H1,I1,q1⟩) I.quiet hs
noncomputable def Aet (te:TE):TS:=λD σ H=>te σ H D.rt
theorem vQ (he:PE X e te):PS X (.Return (some e) pos) (Aet te):=by
 intro pins s σ H D I h;refine wpAny_Return_some (thn (he pins s σ H _ I h) ?_);rintro v s1 ⟨x,H1,I1,r1,q1⟩;exact ⟨x,σ,H1,I1,r1,q1⟩
noncomputable def Ab5:TS:=λD _ H=>D.rt .non H
theorem nY:PS X (.Return none pos) Ab5:=λ_ _ σ H _ I h=>wpAny_Return_none ⟨.non,σ,H,I,rfl,h⟩
noncomputable def Aeu (c:TT) (t u:TS):TS:=λD σ H=>c σ H λb H1=>if b=true then t D σ H1 else u D σ H1
theorem Ab6 {c:Expr}{a b:List Stmt}{tc:TT}(hc:PT X c tc) (ha:PSs X a t) (hb:PSs X b u):PS X (.If c a b pos) (Aeu tc t u):=by
 intro pins s σ H D I h;refine wpAny_If (thn (hc pins s σ H _ I h) ?_);rintro d s1 ⟨H1,I1,q1⟩;cases d with
 | true=>exact ha pins s1 σ H1 D I1 q1
 | false=>exact hb pins s1 σ H1 D I1 q1
end
noncomputable abbrev TG:=V->St->Hp->(St->Hp->Prop)->Prop
noncomputable abbrev TGs:=List V->St->Hp->(St->Hp->Prop)->Prop
noncomputable def PG (X:Cx) (target:Expr) (t:TG):Prop :=
 ∀ (pins:List (Addr×Obj)) (s:Shared) (σ:St) (H:Hp) (v:V) (u:Value) (Q:St->Hp->Prop),Inv X pins σ H s->RelV v u->t v σ H Q ->
  wpAny (model X.prog X.w) X.A (assign target X.env u) (λ_ s'=>∃ σ' H',Inv X pins σ' H' s'/\Q σ' H') X.xe s
noncomputable def PGs (X:Cx) (ts:List Expr) (t:TGs):Prop :=
 ∀ (pins:List (Addr×Obj)) (s:Shared) (σ:St) (H:Hp) (vs:List V) (us:List Value) (Q:St->Hp->Prop),Inv X pins σ H s->Vals vs us->t vs σ H Q ->
  wpAny (model X.prog X.w) X.A (assignInOrder ((assignEach ts X.env).map (·.2)) us) (λ_ s'=>∃ σ' H',Inv X pins σ' H' s'/\Q σ' H') X.xe s
noncomputable abbrev vR:=V->V->V->Hp->(Hp->Prop)->Prop
noncomputable def Ab7 (X:Cx) (t:vR):Prop :=
 ∀ (pins:List (Addr×Obj)) (s:Shared) (σ:St) (H:Hp) (o i v:V) (ov iv u:Value) (Q:Hp->Prop),Inv X pins σ H s->RelV o ov->RelV i iv->RelV v u->t o i v H Q ->
  wpAny (model X.prog X.w) X.A (setItem ov iv u) (λ_ s'=>∃ H',Inv X pins σ H' s'/\Q H') X.xe s
section
variable {X:Cx}{pos:Pos}
noncomputable def bL (i:Nat):TG:=λv σ H Q=>Q (σ.set i (some v)) H
theorem W9 {i:Nat}{x:Str}(hN:X.N.Nodup) (hi:X.N[i]?=some x) (hx:Loc X.env.scope x) (hf:X.fn x=true\/X.env.scope.names.lookup x=some .local:=by first | exact .inl rfl | exact .inr rfl | assumption):PG X (.Name x pos) (bL i):=by
 intro pins s σ H v u Q I r h;exact wpAny_assign_Name (Mv I hN hi hx r (λs' I'=>⟨_,H,I',h⟩) hf)
noncomputable def Ab8:TGs:=λvs σ H Q=>vs=[]/\Q σ H
noncomputable def tY (t:TG) (u:TGs):TGs:=λvs σ H Q=>∃ v r,vs=v::r/\t v σ H λσ' H'=>u r σ' H' Q
theorem nZ:PGs X [] Ab8:=by
 intro pins s σ H vs us Q I r h;obtain ⟨e,h⟩:=h;subst e;cases r;exact QG ⟨σ,H,I,h⟩
theorem bO {e:Expr}{es:List Expr}{t:TG}{u:TGs}(h1:PG X e t) (h2:PGs X es u)
  (hs:(assignEach (e::es) X.env).map (·.2)=assign e X.env::(assignEach es X.env).map (·.2):=by rfl):PGs X (e::es) (tY t u):=by
 intro pins s σ H vs us Q I r h;obtain ⟨v,vr,e1,h⟩:=h;subst e1;cases r with
 | cons r rr =>
  rw [hs];refine FJ (thn (h1 pins s σ H _ _ _ I r h) ?_);rintro _ s1 ⟨σ1,H1,I1,q1⟩;exact h2 pins s1 σ1 H1 _ _ Q I1 rr q1
noncomputable def Aev (K:aj) (n:Nat) (t:TGs):TG:=λv σ H Q=>∃ a xs,v=.ref a/\SqT K H a xs/\xs.length=n/\t xs σ H Q
theorem vU {es:List Expr}{k:Nat}{t:TGs}{n:Nat}(hc:X.calm=true) (h:PGs X es t)
  (hn:(assignEach es X.env).length=n:=by rfl) (hst:(assignEach es X.env).findIdx? (·.1)=none:=by rfl):PG X (.Tuple es k pos) (Aev X.K n t):=by
 intro pins s σ H v u Q I r hw;obtain ⟨a,xs,e1,hq,hl,hw⟩:=hw;subst e1;cases r;obtain ⟨its,rv,ht,hz⟩:=I.tuple hq;refine assign_Tuple_tuple (I.ok.hd hc) ht (by simp [hn,← hl,rv.length]) hst λh' hx=>?_
 have I1:Inv X pins σ H { s with heap:=h' }:=I.kept (t':=s.toks) λb o e=>hx b o (fu (Heap.lt_size e)) e
 exact h pins _ σ H xs _ Q I1 (by simpa using rv) hw
noncomputable def Aew (to ti:TE) (t:vR):TG:=λv σ H Q=>to σ H λo H1=>ti σ H1 λi H2=>t o i v H2 λH3=>Q σ H3
theorem vV {o i:Expr}{to ti:TE}{t:vR}(ho:PE X o to) (hi:PE X i ti) (hs:Ab7 X t)
  (ha:∀ v,assign (.Subscript o i pos) X.env v=(do
   let ov ← holding [v] (eval o X.env)
   let iv ← holding [v,ov] (eval i X.env)
   standAt pos
   holding [v,ov,iv] (setItem ov iv v)
   release [v,ov,iv] []):=by intro _;rfl):PG X (.Subscript o i pos) (Aew to ti t):=by
 intro pins s σ H v u Q I r h;rw [ha];refine ao (ye (thn (ho pins s σ H _ I h) ?_));rintro ov s1 ⟨x,H1,I1,r1,q1⟩;refine ao (ye (thn (hi pins s1 σ H1 _ I1 q1) ?_));rintro iv s2 ⟨y,H2,I2,r2,q2⟩;refine ao (GD (ao (ye (thn (hs pins s2 σ H2 x y v ov iv u _ I2 r1 r2 r q2) ?_))));rintro _ s3 ⟨H3,I3,q3⟩;exact wpAny_release ⟨σ,H3,I3,q3⟩
noncomputable def vW (te:TE) (g:TG):TS:=λD σ H=>te σ H λx H1=>g x σ H1 D.nx
theorem vX {tg e:Expr}{te:TE}{g:TG}(he:PE X e te) (hg:PG X tg g) (hs:swapsWithSole [tg] e pos.line X.env=pure false:=by rfl) (hw:swappedStores [tg] e X.env=pure none:=by rfl)
  (h1:(assignEach [tg] X.env).map (·.2)=[assign tg X.env]:=by rfl):PS X (.Assign [tg] e pos) (vW te g):=by
 intro pins s σ H D I h;refine wpAny_Assign_stores (thn (he pins s σ H _ I h) ?_) hs hw;rintro v s1 ⟨x,H1,I1,r1,q1⟩;rw [h1];exact thn (hg pins s1 σ H1 x v _ I1 r1 q1) λ_ s2 q=>q
noncomputable def Aex (i j:Nat) (ta:TA):TS:=λD σ H=>ta σ H λvs H1=>∃ v w,vs=[v,w]/\D.nx ((σ.set i (some v)).set j (some w)) H1
theorem vY {i j:Nat}{x y:Str}{a b:Expr}{ta:TA}{px py pt:Pos}{kt k2 pt2}(hc:X.calm=true) (hN:X.N.Nodup) (hi:X.N[i]?=some x) (hj:X.N[j]?=some y) (hij:i≠j)
  (hx:X.env.scope.names.lookup x=some .local) (hy:X.env.scope.names.lookup y=some .local) (ha:PA X [a,b] ta)
  (hw:swappedStores [.Tuple [.Name x px,.Name y py] kt pt] (.Tuple [a,b] k2 pt2) X.env=pure (some [x,y]))
  (hs:swapsWithSole [.Tuple [.Name x px,.Name y py] kt pt] (.Tuple [a,b] k2 pt2) pos.line X.env=pure false:=by rfl) :
  PS X (.Assign [.Tuple [.Name x px,.Name y py] kt pt] (.Tuple [a,b] k2 pt2) pos) (Aex i j ta):=by
 intro pins s σ H D I h;rw [exec_Assign_arm];refine ao (GD ?_);rw [hs];refine ao (cu ?_);rw [if_neg (by decide)];refine ao (Tuple_ (thn (ha _ pins s σ H _ I h) ?_));rintro us s1 ⟨vs,H1,I1,r1,q1⟩;obtain ⟨v,w,e1,q1⟩:=q1;subst e1;obtain ⟨u1,u2,rfl,rv,rw'⟩:∃ u1 u2,us=[u1,u2]/\RelV v u1/\RelV w u2:=by
  cases r1 with
  | cons p q =>
   cases q with
   | cons p' q' =>
    cases q';exact ⟨_,_,rfl,p,p'⟩
 refine jo ?_ (by show 2<=sizeLine;decide)
 have I2:Inv X pins σ H1 { s1 with heap:=s1.heap.push { cls:=.type "tuple",data:=.seq [u1,u2].toArray } }:=I1.kept (t':=s1.toks) λb o e=>ak _ e
 rw [hw];refine ao (cu ?_)
 show wpAny (model X.prog X.w) X.A (do rule "assign.swapped-stores";let items ← unpackItems (.ref s1.heap.objs.size) 2 none;assignInOrder [λv=>bindName X.env y v,λv=>bindName X.env x v] items.reverse;pure Flow.next) _ _ _;refine ao (GX (ao (unpackItems_tuple (items:=#[u1,u2]) (I.ok.hd hc) (IsTup.new s1.heap _) λh' hx'=>?_)));have I3:=I2.kept (h':=h') (t':=s1.toks) λb o e=>hx' b o (fu (Heap.lt_size e)) e
 show wpAny _ _ (assignInOrder [λv=>bindName X.env y v,λv=>bindName X.env x v] [u2,u1] >>= λ_=>pure Flow.next) _ _ _;refine ao (FJ (wpAny_bindName (Mv I3 hN hj (.inl hy) rw' (λs2 I4=>?_) (.inr hy))));refine FJ (wpAny_bindName (Mv I4 hN hi (.inl hx) rv (λs3 I5=>QG (cu ?_)) (.inr hx)));rw [List.set_comm _ _ (Ne.symm hij)] at I5;exact ⟨_,H1,I5,q1⟩
end
section
variable {X:Cx}{pos:Pos}
end
structure It where
 go:Nat->Hp->Prop
 yld:Nat->Hp->V->Hp->Prop
 stop:Nat->Hp->Prop
noncomputable def Jv (X:Cx) (pins:List (Addr×Obj)) (H:Hp) (b:Addr):Prop :=
 H b=none/\b≠X.env.locals/\b ∉ X.fs/\(b∈X.ex\/X.s₀.heap.objs.size<=b)/\(∀ x c,X.env.cells.lookup x=some c->c≠b)/\∀ p∈X.pn++pins,p.1≠b
theorem Inv.fpOk {X:Cx}{pins:List (Addr×Obj)}{σ:St}{H H':Hp}{s:Shared}{b:Addr}(I:Inv X pins σ H s) (hb:s.heap.objs.size<=b) (hn:H' b=none):Jv X pins H' b:=by
 refine ⟨hn,jz (fj I.lt hb),I.nofs hb,.inr (ig I.sz hb),λx c e z=>?_,λp hp z=>?_⟩
 ·obtain ⟨v,q⟩:=I.cell x c e;exact absurd (fj q.lt (by rw [z];exact hb)) (jw _)
 ·exact absurd (fj (Heap.lt_size (I.pin p hp).1) (by rw [z];exact hb)) (jw _)
structure Turn (P:Program) (w:World) (K:aj) (tg:Expr) (J:It) (fp:List Addr) (it:Addr) (tn:Nat->Heap->Prop):Prop where
 mem:it∈fp
 obj:∀ i h,tn i h->∀ b∈fp,∃ o,h.get? b=some o/\∀ v,o.data≠.cell v
 keep:∀ i h h',tn i h->(∀ b∈fp,∀ o,h.get? b=some o->h'.get? b=some o)->tn i h'
 item:∀ (X:Cx),X.prog=P->X.w=w->X.K=K->X.calm=true->∀ (i:Nat) (pins:List (Addr×Obj)) (s:Shared) (σ:St) (H:Hp) (E:Value->Shared->Prop),Inv X pins σ H s->(∀ b∈fp,Jv X pins H b)->tn i s.heap->J.go i H ->
  wpAny (model P w) X.A (pyNext (.ref it)) (λr s1=>∃ u,r=some u /\
   wpAny (model P w) X.A (letOwnedTupleGo tg (.ref it) u) (λ_ s2=>∃ x H',Inv X pins σ H' s2/\RelV x u/\J.yld i H x H'/\tn (i+1) s2.heap/\∀ b∈fp,H' b=none) E s1) E s
 done:∀ (X:Cx),X.prog=P->X.w=w->X.K=K->X.calm=true->∀ (i:Nat) (pins:List (Addr×Obj)) (s:Shared) (σ:St) (H:Hp) (E:Value->Shared->Prop),Inv X pins σ H s->(∀ b∈fp,Jv X pins H b)->tn i s.heap->J.stop i H ->
  wpAny (model P w) X.A (pyNext (.ref it)) (λr s1=>r=none/\Inv X pins σ H s1) E s
 self:∀ (A:Around) (i:Nat) (s:Shared) (Q:Value->Shared->Prop) (E:Value->Shared->Prop),tn i s.heap->Q (.ref it) s->wpAny (model P w) A (pyIter (.ref it)) Q E s
noncomputable abbrev TI:=St->Hp->(It->Hp->Prop)->Prop
noncomputable def PIE (X:Cx) (pins:List (Addr×Obj)) (σ:St) (tg:Expr) (R:It->Hp->Prop) (itv:Value) (s2:Shared):Prop :=
 ∃ (it:Addr) (fp:List Addr) (tn:Nat->Heap->Prop) (J:It) (H':Hp),itv=.ref it/\Inv X pins σ H' s2/\Turn X.prog X.w X.K tg J fp it tn/\tn 0 s2.heap/\(∀ b∈fp,Jv X pins H' b)/\R J H'
noncomputable def PI (X:Cx) (tg iter:Expr) (wi:TI):Prop :=
 ∀ (pins:List (Addr×Obj)) (s:Shared) (σ:St) (H:Hp) (R:It->Hp->Prop),Inv X pins σ H s->wi σ H R ->
  wpAny (model X.prog X.w) X.A (eval iter X.env) (λv s1=>wpAny (model X.prog X.w) X.A (pyIter v) (PIE X pins σ tg R) X.xe s1) X.xe s
theorem Xa {M:Model}{A:Around}{E:Value->Shared->Prop}{s:Shared}{tg:Expr}{it:Addr}{u:Value}{o:Obj}{n:String}{vs:Array Value}{Q:Unit->Shared->Prop}(ho:s.heap.get? it=some o) (hc:o.cls=.type n) (hd:o.data=.fields vs)
    (hn:["enumerate", "zip", "dict_itemiterator", "dict_reverseitemiterator", "odict_iterator", "itertools.zip_longest", "itertools.pairwise"].contains n=false) (hQ:Q () s):wpAny M A (letOwnedTupleGo tg (.ref it) u) Q E s:=by
  unfold letOwnedTupleGo;cases tg <;> first
    | exact cu hQ
    | (cases u <;> first
        | exact cu hQ
        | (refine ao (wpAny_load ho ?_)
           rw [hc,hd]
           show wpAny M A (if (["enumerate", "zip", "dict_itemiterator", "dict_reverseitemiterator", "odict_iterator", "itertools.zip_longest", "itertools.pairwise"].contains n&&vs[0]?==some (rawInt _))=true then _ else _) Q E s;rw [if_neg (by intro h;rw [hn,jf] at h;cases h)]
           exact cu hQ))
noncomputable def Itl (K:aj) (a:Addr):It :=
 ⟨λi H=>∃ xs x,SqL K H a xs/\xs[i]?=some x,λi H x H'=>H'=H/\∀ xs,SqL K H a xs->xs[i]?=some x,λi H=>∃ xs,SqL K H a xs/\xs.length<=i⟩
noncomputable def Itt (K:aj) (a:Addr):It :=
 ⟨λi H=>∃ xs x,SqT K H a xs/\xs[i]?=some x,λi H x H'=>H'=H/\∀ xs,SqT K H a xs->xs[i]?=some x,λi H=>∃ xs,SqT K H a xs/\xs.length<=i⟩
noncomputable def Itr (lo:Int) (n:Nat):It:=⟨λi _=>i < n,λi H x H'=>H'=H/\x=.int (lo+i),λi _=>n<=i⟩
theorem Yy {P:Program}{w:World}{K:aj}{tg:Expr}(a it:Addr):Turn P w K tg (Itl K a) [it] it (λi h=>h.IsListIter it a i) where
 mem:=by simp
 obj:=λi h st b hb=>by
  have e:b=it:=by simpa using hb
  subst e;obtain ⟨o,e,c,d⟩:=st;exact ⟨o,e,λv z=>by rw [d] at z;cases z⟩
 keep:=λi h h' st k=>st.at λo e=>k it (by simp) o e
 item:=by
  intro X hP hw hK hc i pins s σ H E I hf st hg;subst hP hw hK;obtain ⟨xs,x,hq,hx⟩:=hg;obtain ⟨its,rv,p,hz⟩:=I.list hq;obtain ⟨u,hu,ru⟩:=rv.get hx;obtain ⟨f0,f1,f2,f3,f4,f5⟩:=hf it (by simp);refine wpAny_pyNext_list_item st p.isList (x:=u) (by simpa using hu) λh' st' sb=>?_
  have I1:Inv X pins σ H { s with heap:=h' }:=I.turned (t':=s.toks) (λb o hb e=>(sb.2 b hb).trans e) f0 f1 f3 f4 f5;obtain ⟨o,e,c,d⟩:=id st';exact ⟨u,rfl,Xa (s:={ s with heap:=h' }) e c d (by decide) ⟨x,H,I1,ru,⟨rfl,λys hy=>by rw [I.list_inj hy hq];exact hx⟩,st',λb hb=>(hf b hb).1⟩⟩
 done:=by
  intro X hP hw hK hc i pins s σ H E I hf st hg;subst hP hw hK;obtain ⟨xs,hq,hx⟩:=hg;obtain ⟨its,rv,p,hz⟩:=I.list hq;obtain ⟨f0,f1,f2,f3,f4,f5⟩:=hf it (by simp);have hl:=rv.length;exact wpAny_pyNext_list_end (I.ok.hd hc) st p.isList (by simp;omega) λh' eb=>⟨rfl,I.turned (t':=s.toks) (λb o hb e=>eb b o hb e) f0 f1 f3 f4 f5⟩
 self:=λ_ _ _ _ _ st h=>wpAny_pyIter_listiter st h
theorem Vb {P:Program}{w:World}{K:aj}{tg:Expr}(a it:Addr):Turn P w K tg (Itt K a) [it] it (λi h=>h.IsTupleIter it a i) where
 mem:=by simp
 obj:=λi h st b hb=>by
  have e:b=it:=by simpa using hb
  subst e;obtain ⟨o,e,c,d⟩:=st;exact ⟨o,e,λv z=>by rw [d] at z;cases z⟩
 keep:=λi h h' st k=>st.at λo e=>k it (by simp) o e
 item:=by
  intro X hP hw hK hc i pins s σ H E I hf st hg;subst hP hw hK;obtain ⟨xs,x,hq,hx⟩:=hg;obtain ⟨its,rv,p,hz⟩:=I.tuple hq;obtain ⟨u,hu,ru⟩:=rv.get hx;obtain ⟨f0,f1,f2,f3,f4,f5⟩:=hf it (by simp);refine wpAny_pyNext_tuple_item st (show s.heap.IsTuple a its.toArray from p) (x:=u) (by simpa using hu) λh' st' sb=>?_
  have I1:Inv X pins σ H { s with heap:=h' }:=I.turned (t':=s.toks) (λb o hb e=>(sb.2 b hb).trans e) f0 f1 f3 f4 f5;obtain ⟨o,e,c,d⟩:=id st';exact ⟨u,rfl,Xa (s:={ s with heap:=h' }) e c d (by decide) ⟨x,H,I1,ru,⟨rfl,λys hy=>by rw [I.tuple_inj hy hq];exact hx⟩,st',λb hb=>(hf b hb).1⟩⟩
 done:=by
  intro X hP hw hK hc i pins s σ H E I hf st hg;subst hP hw hK;obtain ⟨xs,hq,hx⟩:=hg;obtain ⟨its,rv,p,hz⟩:=I.tuple hq;obtain ⟨f0,f1,f2,f3,f4,f5⟩:=hf it (by simp);have hl:=rv.length;exact wpAny_pyNext_tuple_end (I.ok.hd hc) st (show s.heap.IsTuple a its.toArray from p) (by simp;omega) λh' eb=>⟨rfl,I.turned (t':=s.toks) (λb o hb e=>eb b o hb e) f0 f1 f3 f4 f5⟩
 self:=λ_ _ _ _ _ st h=>wpAny_pyIter_tupleiter st h
theorem Vc {P:Program}{w:World}{K:aj}{tg:Expr}(it:Addr) (lo:Int) (n:Nat):Turn P w K tg (Itr lo n) [it] it (λi h=>IsRangeIter h it (lo+(i:Nat) * 1) ((n:Int) - (i:Nat)) 1) where
 mem:=by simp
 obj:=λi h st b hb=>by
  have e:b=it:=by simpa using hb
  subst e
  exact ⟨_,st,λv z=>by
   have z':Data.fields _=Data.cell v:=z
   cases z'⟩
 keep:=λi h h' st k=>k it (by simp) _ st
 item:=by
  intro X hP hw hK hc i pins s σ H E I hf st hg;subst hP hw hK;obtain ⟨f0,f1,f2,f3,f4,f5⟩:=hf it (by simp);have W:=Walks.range (prog:=X.prog) (w:=X.w) (I.ok.hd hc) it lo 1 n;refine W.item i s _ _ hg st λv h' tk hv st' kk=>?_
  obtain ⟨t,rfl⟩:=hv;have I1:Inv X pins σ H { s with heap:=h',toks:=tk }:=I.turned (λb o hb e=>kk b o (by simpa using hb) e) f0 f1 f3 f4 f5
  refine ⟨_,rfl,Xa (s:={ s with heap:=h',toks:=tk }) (n := "range_iterator") st' rfl rfl (by decide) ⟨.int (lo+i),H,I1,⟨t,?_⟩,⟨rfl,rfl⟩,st',λb hb=>(hf b hb).1⟩⟩;rw [Int.mul_one]
 done:=by
  intro X hP hw hK hc i pins s σ H E I hf st hg;subst hP hw hK;obtain ⟨f0,f1,f2,f3,f4,f5⟩:=hf it (by simp);exact JP (I.ok.hd hc) st (by have:n<=i:=hg;omega) λh' eb=>⟨rfl,I.turned (t':=s.toks) (λb o hb e=>eb b o hb e) f0 f1 f3 f4 f5⟩
 self:=λ_ _ _ _ _ st h=>JQ st h
section
variable {X:Cx}{tg:Expr}
noncomputable def Ab9 (K:aj) (tl:TE):TI:=λσ H R=>tl σ H λx H1=>∃ a,x=.ref a/\(∃ xs,SqL K H1 a xs)/\R (Itl K a) H1
noncomputable def Aey (K:aj) (tl:TE):TI:=λσ H R=>tl σ H λx H1=>∃ a,x=.ref a/\(∃ xs,SqT K H1 a xs)/\R (Itt K a) H1
theorem Xb {l:Expr}{tl:TE}(hl:PE X l tl):PI X tg l (Ab9 X.K tl):=by
 intro pins s σ H R I h;refine thn (hl pins s σ H _ I h) ?_;rintro v s1 ⟨x,H1,I1,r1,q1⟩;obtain ⟨a,e,⟨xs,hq⟩,q⟩:=q1;subst e;cases r1;obtain ⟨its,rv,p,hz⟩:=I1.list hq;refine GK p.isList ?_;refine ⟨s1.heap.objs.size,[s1.heap.objs.size],_,_,H1,rfl,I1.kept (t':=s1.toks) λb o e=>ak _ e,Yy a _,⟨_,dh _ rfl,rfl,rfl⟩,λb hb=>?_,q⟩;have e:b=s1.heap.objs.size:=by simpa using hb
 subst e;exact I1.fpOk (cg _) (I1.hok.fresh (cg _))
theorem vZ {l:Expr}{tl:TE}(hl:PE X l tl):PI X tg l (Aey X.K tl):=by
 intro pins s σ H R I h;refine thn (hl pins s σ H _ I h) ?_;rintro v s1 ⟨x,H1,I1,r1,q1⟩;obtain ⟨a,e,⟨xs,hq⟩,q⟩:=q1;subst e;cases r1;obtain ⟨its,rv,p,hz⟩:=I1.tuple hq;refine FN (show s1.heap.IsTuple a its.toArray from p) ?_;refine ⟨s1.heap.objs.size,[s1.heap.objs.size],_,_,H1,rfl,I1.kept (t':=s1.toks) λb o e=>ak _ e,Vb a _,⟨_,dh _ rfl,rfl,rfl⟩,λb hb=>?_,q⟩;have e:b=s1.heap.objs.size:=by simpa using hb
 subst e;exact I1.fpOk (cg _) (I1.hok.fresh (cg _))
theorem bQ {pins:List (Addr×Obj)}{σ:St}{H:Hp}{s:Shared}{R:It->Hp->Prop}{E:Value->Shared->Prop}{lo hi:Int}{t u v:Tok}{tk:Nat}(I:Inv X pins σ H s) (h1:-(2 ^ 62)<=lo) (h2:lo < 2 ^ 62) (h3:-(2 ^ 62)<=hi) (h4:hi < 2 ^ 62)
  (q:R (Itr lo (hi - lo).toNat) H):wpAny (model X.prog X.w) X.A (pyIter (.ref s.heap.objs.size)) (PIE X pins σ tg R) E { s with heap:=s.heap.push { cls:=.type "range",data:=.fields #[.int lo t,.int hi u,.int 1 v] },toks:=tk }:=by
 refine OJ (IsRange.new ..) (small_one h1 h2 h3 h4) ?_
 have I1:Inv X pins σ H { s with heap:=s.heap.push { cls:=.type "range",data:=.fields #[.int lo t,.int hi u,.int 1 v] },toks:=tk }:=I.kept λb o e=>ak _ e
 refine ⟨(s.heap.push { cls:=.type "range",data:=.fields #[.int lo t,.int hi u,.int 1 v] }).objs.size,[(s.heap.push { cls:=.type "range",data:=.fields #[.int lo t,.int hi u,.int 1 v] }).objs.size],_,_,H,rfl,
  I1.kept (t':=tk) λb o e=>ak _ e,Vc _ lo (hi - lo).toNat,?_,λb hb=>?_,q⟩
 ·have e1:lo+((0:Nat):Int) * 1=lo:=by simp
  have e2:(((hi - lo).toNat:Nat):Int) - ((0:Nat):Int)=je lo hi 1:=by rw [rangeSize_one];split <;> omega
  show IsRangeIter _ _ (lo+((0:Nat):Int) * 1) ((((hi - lo).toNat:Nat):Int) - ((0:Nat):Int)) 1;rw [e1,e2];exact dh _ rfl
 ·have e:b=(s.heap.push { cls:=.type "range",data:=.fields #[.int lo t,.int hi u,.int 1 v] }).objs.size:=by simpa using hb
  subst e;exact I1.fpOk (cg _) (I1.hok.fresh (cg _))
noncomputable def Aca (ta:TA):TI:=λσ H R=>ta σ H λvs H1=>∃ j:Int,vs=[.int j]/\-(2 ^ 62)<=j/\j < 2 ^ 62/\R (Itr 0 j.toNat) H1
theorem Yz {a:Expr}{ta:TA}{p pos:Pos}(hg:Gl X "range") (hm:X.mg "range"=none) (ha:PA X [a] ta) (hs:starEach [a] X.env=[(false,eval a X.env)]:=by rfl):PI X tg (.Call (.Name "range" p) [a] [] pos) (Aca ta):=by
 intro pins s σ H R I h;refine Call_ (Kr I hg hm boot_range (PyProof.Rows.callWith_type1 (thn (ha pos pins s σ H _ I h) ?_) hs rfl));rintro us s1 ⟨vs,H1,I1,r1,q1⟩;obtain ⟨j,e,q1,q2,q⟩:=q1;subst e;cases r1 with
 | cons r rr =>
  cases rr;obtain ⟨t,rfl⟩:=r;exact call_range_1 (bQ I1 (by omega) (by omega) q1 q2 (by simpa using q))
noncomputable def Aez (wi:TI) (g:TG) (tb:TS):TS:=λD σ H=>wi σ H λJ H1=>∃ W:Nat->Nat->St->Hp->Prop,(∃ m,W 0 m σ H1)/\∀ i m σ H,W i m σ H ->
 (J.stop i H/\D.nx σ H)\/(J.go i H/\∃ N:St->Hp->Prop,(∀ σ' H',N σ' H'->∃ m',m' < m/\W (i+1) m' σ' H')/\∀ x H',J.yld i H x H'->g x σ H' λσ2 H2=>tb { D with nx:=N,ct:=N,bk:=D.nx } σ2 H2)
noncomputable def Jk (fp:List Addr) (h:Heap):List (Addr×Obj):=fp.filterMap λb=>(h.get? b).map λo=>(b,o)
theorem G7 {fp:List Addr}{h:Heap}{b:Addr}{o:Obj}(hb:b∈fp) (e:h.get? b=some o):(b,o)∈Jk fp h:=PB.mpr ⟨b,hb,by rw [e];rfl⟩
theorem Ol {fp:List Addr}{h:Heap}{p:Addr×Obj}(hp:p∈Jk fp h):p.1∈fp/\h.get? p.1=some p.2:=by
 obtain ⟨b,hb,e⟩:=PB.mp hp;cases q:h.get? b with
 | none=>rw [q] at e;cases e
 | some o =>
  rw [q] at e;have e':(b,o)=p:=Option.some.inj e;subst e';exact ⟨hb,q⟩
theorem Inv.pinned {pins:List (Addr×Obj)}{σ:St}{H:Hp}{s:Shared}{fp:List Addr}(I:Inv X pins σ H s) (hf:∀ b∈fp,Jv X pins H b) (ho:∀ b∈fp,∃ o,s.heap.get? b=some o/\∀ v,o.data≠.cell v):Inv X (pins++Jk fp s.heap) σ H s :=
 I.pins_of λp hp=>(jl.mp hp).elim (λz=>I.pin p (gm _ z)) λz=>by
  obtain ⟨hb,e⟩:=Ol z;obtain ⟨f0,f1,f2,_⟩:=hf p.1 hb;obtain ⟨o,e',d⟩:=ho p.1 hb;rw [e] at e';cases e';exact ⟨e,f0,f1,f2,d⟩
theorem Inv.unpinned {pins pl:List (Addr×Obj)}{σ:St}{H:Hp}{s:Shared}(I:Inv X (pins++pl) σ H s):Inv X pins σ H s:=I.pins_of λp hp=>I.pin p (gm _ (xu _ hp))
theorem wA {iter:Expr}{body:List Stmt}{wi:TI}{g:TG}{tb:TS}{pos:Pos}(hp:PassesOwn (model X.prog X.w) X.A X.env X.xe) (hc:X.calm=true) (hi:PI X tg iter wi) (hg:PG X tg g) (hb:PSs X body tb)
  (hs:∀ x,foldedSetIterable iter X.env x=pure x:=by intro _;rfl):PS X (.For tg iter body [] pos) (Aez wi g tb):=by
 intro pins s σ H D I h;refine wpAny_For (thn (hi pins s σ H _ I h) λv s1 h1=>thn h1 λitv s2 h2=>?_) hs;obtain ⟨it,fp,tn,J,H2,e,I2,T,st2,f2,W,⟨m0,w0⟩,turn⟩:=h2;subst e
 -- what stays true of the iterator's objects through the loop
 have stat:∀ {H':Hp},(∀ b∈fp,H' b=none)->∀ b∈fp,Jv X pins H' b:=λhn b hb=>⟨hn b hb,(f2 b hb).2⟩
 refine codeAny_forLoop_any (λn s'=>∃ i σ' H',Inv X pins σ' H' s'/\tn i s'.heap/\(∀ b∈fp,H' b=none)/\W i n σ' H') ?_ m0 ⟨0,σ,H2,I2,st2,λb hb=>(f2 b hb).1,w0⟩;rintro n s3 ⟨i,σ3,H3,I3,st3,fr3,w3⟩;rcases turn i n σ3 H3 w3 with ⟨stop,qn⟩|⟨go,N,hN,step⟩
 ·refine yu hp (thn (T.done X rfl rfl rfl hc i pins s3 σ3 H3 X.xe I3 (stat fr3) st3 stop) ?_);rintro r s4 ⟨hr,I4⟩;subst hr;exact wpAny_execs_nil ⟨σ3,H3,I4,qn⟩
 ·refine yu hp (thn (T.item X rfl rfl rfl hc i pins s3 σ3 H3 X.xe I3 (stat fr3) st3 go) ?_);rintro r s4 ⟨u,hr,h4⟩;subst hr;refine yu hp (thn h4 ?_);rintro _ s5 ⟨x,H5,I5,r5,y5,st5,fr5⟩;have I5':=I5.pinned (stat fr5) (T.obj _ _ st5);refine yu hp (thn (hg _ s5 σ3 H5 x u _ I5' r5 (step x H5 y5)) ?_);rintro _ s6 ⟨σ6,H6,I6,q6⟩;refine yu hp (thn (hb _ s6 σ6 H6 _ I6 q6) λf s7 q7=>?_);have again:∀ {σ7:St} {H7:Hp},Inv X (pins++Jk fp s5.heap) σ7 H7 s7->N σ7 H7->∃ m,m < n/\∃ i σ' H',Inv X pins σ' H' s7/\tn i s7.heap/\(∀ b∈fp,H' b=none)/\W i m σ' H':=λ{σ7 H7} I7 n7=>by
   obtain ⟨m',hm,w7⟩:=hN σ7 H7 n7;refine ⟨m',hm,i+1,σ7,H7,I7.unpinned,T.keep _ _ _ st5 λb hb o e=>(I7.pin (b,o) (gm _ (gm _ (G7 hb e)))).1,λb hb=>?_,w7⟩;obtain ⟨o,e,d⟩:=T.obj _ _ st5 b hb;exact (I7.pin (b,o) (gm _ (gm _ (G7 hb e)))).2.1
  cases f with
  | next=>obtain ⟨σ7,H7,I7,n7⟩:=q7;exact again I7 n7
  | cont=>obtain ⟨σ7,H7,I7,n7⟩:=q7;exact again I7 n7
  | brk=>obtain ⟨σ7,H7,I7,q7⟩:=q7;exact ⟨σ7,H7,I7.unpinned,q7⟩
  | ret v=>obtain ⟨x7,σ7,H7,I7,r7,q7⟩:=q7;exact ⟨x7,σ7,H7,I7.unpinned,r7,q7⟩
end
noncomputable abbrev R2:=V->V->Hp->VK->Prop
noncomputable def OpR (X:Cx) (f:Value->Value->Sem Value) (r:R2):Prop :=
 ∀ (pins:List (Addr×Obj)) (s:Shared) (σ:St) (H:Hp) (x y:V) (v u:Value) (Q:VK),Inv X pins σ H s->RelV x v->RelV y u->r x y H Q ->
  wpAny (model X.prog X.w) X.A (f v u) (EP X pins σ Q) X.xe s
noncomputable def UnR (X:Cx) (f:Value->Sem Value) (r:V->Hp->VK->Prop):Prop :=
 ∀ (pins:List (Addr×Obj)) (s:Shared) (σ:St) (H:Hp) (x:V) (v:Value) (Q:VK),Inv X pins σ H s->RelV x v->r x H Q ->
  wpAny (model X.prog X.w) X.A (f v) (EP X pins σ Q) X.xe s
noncomputable def Br (X:Cx) (f:Value) (r:List V->Hp->VK->Prop):Prop :=
 ∀ (pins:List (Addr×Obj)) (s:Shared) (σ:St) (H:Hp) (xs:List V) (us:List Value) (Q:VK),Inv X pins σ H s->Vals xs us->r xs H Q ->
  wpAny (model X.prog X.w) X.A (call f us) (EP X pins σ Q) X.xe s
noncomputable def Ae0 (X:Cx) (r:V->Hp->(Bool->Hp->Prop)->Prop):Prop :=
 ∀ (pins:List (Addr×Obj)) (s:Shared) (σ:St) (H:Hp) (x:V) (v:Value) (Q:Bool->Hp->Prop),Inv X pins σ H s->RelV x v->r x H Q ->
  wpAny (model X.prog X.w) X.A (truthy v) (TP X pins σ Q) X.xe s
noncomputable def tOp (r:R2) (ta tb:TE):TE:=λσ H Q=>ta σ H λx H1=>tb σ H1 λy H2=>r x y H2 Q
noncomputable def tUn (r:V->Hp->VK->Prop) (ta:TE):TE:=λσ H Q=>ta σ H λx H1=>r x H1 Q
noncomputable def rI (C:Int->Int->Prop) (g:Int->Int->V):R2:=λx y H Q=>∃ i j,x=.int i/\y=.int j/\C i j/\Q (g i j) H
noncomputable def rI0 (g:Int->Int->V):R2:=λx y H Q=>∃ i j,x=.int i/\y=.int j/\Q (g i j) H
noncomputable def rU (g:Int->V):V->Hp->VK->Prop:=λx H Q=>∃ i,x=.int i/\Q (g i) H
section
variable {X:Cx}{a b c:Expr}{ta tb tc:TE}{pos:Pos}
theorem wB (ha:PE X a ta) (hb:PE X b tb) {pins:List (Addr×Obj)}{s:Shared}{σ:St}{H:Hp}{R:V->V->Hp->Prop}(I:Inv X pins σ H s)
  (h:ta σ H λx H1=>tb σ H1 λy H2=>R x y H2) {Q:Value->Shared->Prop} {f:Value->Value->Sem Value}
  (hf:∀ v u s2 x y H2,Inv X pins σ H2 s2->RelV x v->RelV y u->R x y H2->wpAny (model X.prog X.w) X.A (f v u) Q X.xe s2) :
  wpAny (model X.prog X.w) X.A (eval a X.env) (λv s₁=>wpAny (model X.prog X.w) X.A (eval b X.env) (λu s₂=>wpAny (model X.prog X.w) X.A (f v u) Q X.xe s₂) X.xe s₁) X.xe s:=by
 refine thn (ha pins s σ H _ I h) ?_;rintro v s1 ⟨x,H1,I1,r1,q1⟩;refine thn (hb pins s1 σ H1 _ I1 q1) ?_;rintro u s2 ⟨y,H2,I2,r2,q2⟩;exact hf v u s2 x y H2 I2 r1 r2 q2
theorem Acb {op:Operator}{r:R2}(ho:OpR X (binaryOp op) r) (ha:PE X a ta) (hb:PE X b tb):PE X (.BinOp a op b pos) (tOp r ta tb):=by
 intro pins s σ H Q I h;exact wpAny_BinOp (wB ha hb I h λv u s2 x y H2 I2 rx ry q=>ho pins s2 σ H2 x y v u Q I2 rx ry q)
theorem Acd {op:UnaryOp}{r:V->Hp->VK->Prop}(ho:UnR X (unaryOp op) r) (ha:PE X a ta):PE X (.UnaryOp op a pos) (tUn r ta):=by
 intro pins s σ H Q I h;refine UnaryOp_ (thn (ha pins s σ H _ I h) ?_);rintro v s1 ⟨x,H1,I1,r1,q1⟩;exact ho pins s1 σ H1 x v Q I1 r1 q1
theorem opI {f:Value->Value->Sem Value}{C:Int->Int->Prop}{g:Int->Int->Int}
  (rule:∀ (i j:Int) (t u:Tok) (s:Shared) (Q:Value->Shared->Prop) (E:Value->Shared->Prop),C i j->Q (.int (g i j) s.toks) { s with toks:=s.toks+1 }->wpAny (model X.prog X.w) X.A (f (.int i t) (.int j u)) Q E s) :
  OpR X f (rI C λi j=>.int (g i j)):=by
 intro pins s σ H x y v u Q I rx ry h;obtain ⟨i,j,rfl,rfl,hc,q⟩:=h;obtain ⟨t,rfl⟩:=rx;obtain ⟨t',rfl⟩:=ry;exact rule i j t t' s _ _ hc ⟨.int (g i j),H,I.tok _,⟨_,rfl⟩,q⟩
theorem Ace {f:Value->Value->Sem Value}{g:Int->Int->Int}
  (rule:∀ (i j:Int) (t u:Tok) (s:Shared) (Q:Value->Shared->Prop) (E:Value->Shared->Prop),Q (.int (g i j) s.toks) { s with toks:=s.toks+1 }->wpAny (model X.prog X.w) X.A (f (.int i t) (.int j u)) Q E s) :
  OpR X f (rI0 λi j=>.int (g i j)):=by
 intro pins s σ H x y v u Q I rx ry h;obtain ⟨i,j,rfl,rfl,q⟩:=h;obtain ⟨t,rfl⟩:=rx;obtain ⟨t',rfl⟩:=ry;exact rule i j t t' s _ _ ⟨.int (g i j),H,I.tok _,⟨_,rfl⟩,q⟩
theorem oE {f:Value->Value->Sem Value}{g:Int->Int->Bool}
  (rule:∀ (i j:Int) (t u:Tok) (s:Shared) (Q:Value->Shared->Prop) (E:Value->Shared->Prop),Q (.bool (g i j)) s->wpAny (model X.prog X.w) X.A (f (.int i t) (.int j u)) Q E s) :
  OpR X f (rI0 λi j=>.bl (g i j)):=by
 intro pins s σ H x y v u Q I rx ry h;obtain ⟨i,j,rfl,rfl,q⟩:=h;obtain ⟨t,rfl⟩:=rx;obtain ⟨t',rfl⟩:=ry;exact rule i j t t' s _ _ ⟨.bl (g i j),H,I,rfl,q⟩
noncomputable def Acf (i j:Int):Prop:=0<=j/\j<=1000000/\i.natAbs < 2 ^ 64
noncomputable def wC (i j:Int):Prop:=(-(2 ^ 64) < i/\i < 2 ^ 64)\/(-(2 ^ 64) < j/\j < 2 ^ 64)
theorem wC.ok {i j:Int}(h:wC i j):IntMulOk i j:=by
 rcases h with ⟨h1,h2⟩|⟨h1,h2⟩
 ·exact .of_left (intBits_le_64 h1 h2)
 ·exact .of_right (intBits_le_64 h1 h2)
theorem wF:OpR X (binaryOp .Add) (rI0 λi j=>.int (i+j)):=Ace λ_ _ _ _ _ _ _ q=>add_int q
theorem wH:OpR X (binaryOp .Sub) (rI0 λi j=>.int (i - j)):=Ace λ_ _ _ _ _ _ _ q=>sub_int q
theorem wI:OpR X (binaryOp .Mult) (rI wC λi j=>.int (i * j)):=opI λ_ _ _ _ _ _ _ hc q=>mul_int q hc.ok
theorem oF:OpR X (binaryOp .Mod) (rI (λ_ j=>j≠0) λi j=>.int (i.fmod j)):=opI λ_ _ _ _ _ _ _ hc q=>mod_int' hc q
theorem wJ:OpR X (binaryOp .Pow) (rI Acf λi j=>.int (i ^ j.toNat)):=opI λ_ _ _ _ _ _ _ hc q=>pow_int_small hc.1 hc.2.1 hc.2.2 q
theorem wK:OpR X (binaryOp .LShift) (rI Acf λi j=>.int (i * 2 ^ j.toNat)):=opI λ_ _ _ _ _ _ _ hc q=>lshift_int_small hc.1 hc.2.1 hc.2.2 q
theorem unI {f:Value->Sem Value}{g:Int->Int}
  (rule:∀ (i:Int) (t:Tok) (s:Shared) (Q:Value->Shared->Prop) (E:Value->Shared->Prop),Q (.int (g i) s.toks) { s with toks:=s.toks+1 }->wpAny (model X.prog X.w) X.A (f (.int i t)) Q E s) :
  UnR X f (rU λi=>.int (g i)):=by
 intro pins s σ H x v Q I rx h;obtain ⟨i,rfl,q⟩:=h;obtain ⟨t,rfl⟩:=rx;exact rule i t s _ _ ⟨.int (g i),H,I.tok _,⟨_,rfl⟩,q⟩
theorem wL:UnR X (unaryOp .USub) (rU λi=>.int (-i)):=unI λ_ _ _ _ _ q=>neg_int q
end
section
variable {X:Cx}{a b c:Expr}{ta tb tc:TE}{pos:Pos}
theorem Acg:OpR X (compareOp .Lt) (rI0 λi j=>.bl (decide (i < j))):=oE λ_ _ _ _ _ _ _ q=>lt_int q
theorem Ach:OpR X (compareOp .LtE) (rI0 λi j=>.bl (decide (i<=j))):=oE λ_ _ _ _ _ _ _ q=>le_int q
theorem Aci:OpR X (compareOp .Gt) (rI0 λi j=>.bl (decide (j < i))):=oE λ_ _ _ _ _ _ _ q=>gt_int q
theorem Acj:OpR X (compareOp .GtE) (rI0 λi j=>.bl (decide (j<=i))):=oE λ_ _ _ _ _ _ _ q=>ge_int q
theorem OpR.or {f:Value->Value->Sem Value}{r r':R2}(h:OpR X f r) (h':OpR X f r'):OpR X f (λx y H Q=>r x y H Q\/r' x y H Q):=by
 intro pins s σ H x y v u Q I rx ry q;rcases q with q|q
 ·exact h pins s σ H x y v u Q I rx ry q
 ·exact h' pins s σ H x y v u Q I rx ry q
theorem oG {op:CmpOp}{r:R2}(ho:OpR X (compareOp op) r) (ha:PE X a ta) (hb:PE X b tb) (hm:behindInMarks op b=false):PE X (.Compare a [op] [b] pos) (tOp r ta tb):=by
 intro pins s σ H Q I h;exact wpAny_Compare1 (wB ha hb I h λv u s2 x y H2 I2 rx ry q=>ho pins s2 σ H2 x y v u Q I2 rx ry q) hm
noncomputable def bR (t:TE):TT:=λσ H Q=>t σ H λx H'=>∃ k,x=.bl k/\Q k H'
theorem oH {op:CmpOp}{r:R2}(ho:OpR X (compareOp op) r) (ha:PE X a ta) (hb:PE X b tb) (hm:behindInMarks op b=false):PT X (.Compare a [op] [b] pos) (bR (tOp r ta tb)):=by
 intro pins s σ H Q I h
 refine wpAny_isTrue_Compare1 (thn (ha pins s σ H _ I h) λv s1 ⟨x,H1,I1,r1,q1⟩=>thn (hb pins s1 σ H1 _ I1 q1) λu s2 ⟨y,H2,I2,r2,q2⟩ =>
  thn (ho pins s2 σ H2 x y v u _ I2 r1 r2 q2) λc s3 ⟨z,H3,I3,r3,k,e,q3⟩=>?_) hm
 subst e;cases r3;exact ou ⟨H3,I3,q3⟩
noncomputable def Vd (r r':R2) (ta tb tc:TE):TE:=λσ H Q=>ta σ H λx H1=>tb σ H1 λy H2=>r x y H2 λz H3=>∃ k,z=.bl k /\
 (if k=true then tc σ H3 λw' H4=>r' y w' H4 Q else Q (.bl false) H3)
theorem bT {op op':CmpOp}{r r':R2}(ho:OpR X (compareOp op) r) (ho':OpR X (compareOp op') r') (ha:PE X a ta) (hb:PE X b tb) (hc:PE X c tc)
  (hm:lastMarks [op,op'] [b,c]=false:=by with_unfolding_all rfl):PE X (.Compare a [op,op'] [b,c] pos) (Vd r r' ta tb tc):=by
 intro pins s σ H Q I h
 refine Compare_chain (thn (ha pins s σ H _ I h) λv s1 ⟨x,H1,I1,r1,q1⟩=>chain_link (thn (hb pins s1 σ H1 _ I1 q1) λu s2 ⟨y,H2,I2,r2,q2⟩ =>
  thn (ho pins s2 σ H2 x y v u _ I2 r1 r2 q2) λd s3 ⟨z,H3,I3,r3,k,e,q3⟩=>?_)) hm
 subst e;cases r3;refine ou ?_;cases k with
 | false=>exact ite_ff ⟨.bl false,H3,I3,rfl,q3⟩
 | true=>exact ite_tt (chain_last (thn (hc pins s3 σ H3 _ I3 q3) λw' s4 ⟨z',H4,I4,r4,q4⟩=>ho' pins s4 σ H4 y z' u w' Q I4 r2 r4 q4))
theorem bU {op op':CmpOp}{r r':R2}(ho:OpR X (compareOp op) r) (ho':OpR X (compareOp op') r') (ha:PE X a ta) (hb:PE X b tb) (hc:PE X c tc)
  (hm:lastMarks [op,op'] [b,c]=false:=by with_unfolding_all rfl):PT X (.Compare a [op,op'] [b,c] pos) (bR (Vd r r' ta tb tc)):=by
 intro pins s σ H Q I h
 refine isTrue_chain (thn (ha pins s σ H _ I h) λv s1 ⟨x,H1,I1,r1,q1⟩=>test_link (thn (hb pins s1 σ H1 _ I1 q1) λu s2 ⟨y,H2,I2,r2,q2⟩ =>
  thn (ho pins s2 σ H2 x y v u _ I2 r1 r2 q2) λd s3 ⟨z,H3,I3,r3,k,e,q3⟩=>?_)) hm
 subst e;cases r3;refine ou ?_;cases k with
 | false =>
  obtain ⟨k',e',q'⟩:=q3;cases e';exact ite_ff ⟨H3,I3,q'⟩
 | true =>
  refine ite_tt (test_last (thn (hc pins s3 σ H3 _ I3 q3) ?_));rintro w' s4 ⟨z',H4,I4,r4,q4⟩;refine thn (ho' pins s4 σ H4 y z' u w' _ I4 r2 r4 q4) ?_;rintro d' s5 ⟨z2,H5,I5,r5,k2,e2,q5⟩;subst e2;cases r5;exact ou ⟨H5,I5,q5⟩
noncomputable def wM (K:aj) (x:V) (H:Hp) (k:Bool):Prop :=
 match x with
 | .non=>k=false
 | .bl b=>k=b
 | .int i=>k=(i != 0)
 | .str y=>y.length<=sizeLine/\k=((y.length:Int) != 0)
 | .byt y=>y.size<=sizeLine/\k=((y.size:Int) != 0)
 | .ref p=>(∃ xs,SqL K H p xs/\k=!xs.isEmpty)\/(∃ xs,SqT K H p xs/\k=!xs.isEmpty)\/∃ kvs,H p=some (.dK kvs)/\k=!kvs.isEmpty
 | _=>False
theorem Ve {κ:Type}{kvs:List (κ×V)}{vs:List (κ×Value)}(r:KV kvs vs):(!vs.isEmpty)=!kvs.isEmpty:=by
 cases r <;> rfl
theorem Mw {xs:List V}{its:List Value}(r:Vals xs its):(!its.toArray.isEmpty)=!xs.isEmpty:=by
 cases r <;> simp
theorem Jl:(sizeLine:Nat) < 2 ^ 63:=by rw [yj];decide
theorem wN:Ae0 X (λx H Q=>∃ k,wM X.K x H k/\Q k H):=by
 intro pins s σ H x v Q I rx h;obtain ⟨k,e,q⟩:=h;have hl:=Jl;have hs:sizeLine=16777216:=yj;cases x with
 | non =>
  cases rx;have e':k=false:=e;subst e';exact truthy_none ⟨H,I,q⟩
 | bl b =>
  cases rx;have e':k=b:=e;subst e';exact ou ⟨H,I,q⟩
 | int i =>
  obtain ⟨t,rfl⟩:=rx;have e':k=(i != 0):=e;subst e';exact PySem.P.truthy_int ⟨H,I,q⟩
 | str y =>
  obtain ⟨t,rfl⟩:=rx;obtain ⟨hy,e'⟩:y.length<=sizeLine/\k=((y.length:Int) != 0):=e;subst e';exact PySem.P.truthy_str (by omega) ⟨H,I.tok _,q⟩
 | byt y =>
  obtain ⟨t,rfl⟩:=rx;obtain ⟨hy,e'⟩:y.size<=sizeLine/\k=((y.size:Int) != 0):=e;subst e';exact PySem.W.truthy_bytes (by omega) ⟨H,I.tok _,q⟩
 | ref p =>
  cases rx;have e':(∃ xs,SqL X.K H p xs/\k=!xs.isEmpty)\/(∃ xs,SqT X.K H p xs/\k=!xs.isEmpty)\/∃ kvs,H p=some (.dK kvs)/\k=!kvs.isEmpty:=e;rcases e' with ⟨xs,hx,e'⟩|⟨xs,hx,e'⟩|⟨kvs,hx,e'⟩
  ·subst e';obtain ⟨its,r,pl,hz⟩:=I.list hx;have hlen:=r.length;exact wpAny_truthy_list pl.isList (by simp only [dm];omega) ⟨H,I.tok _,by rw [Mw r];exact q⟩
  ·subst e';obtain ⟨its,r,pl,hz⟩:=I.tuple hx;have hlen:=r.length;exact truthy_tuple pl (by simp only [dm];omega) ⟨H,I.tok _,by rw [Mw r];exact q⟩
  ·subst e';obtain ⟨hz,hS,vs,r,m⟩:kvs.length<=sizeLine/\(p==sysModules)=false/\∃ vs,KV kvs vs/\s.heap.DictOf (Qa X.prog X.w) p vs:=I.hok p _ hx;have hlen:kvs.length=vs.length:=Paired.length r;exact wpAny_truthy_dict hS m (by omega) ⟨H,I.tok _,by rw [Ve r];exact q⟩
 | _=>exact (show False from e).elim
theorem bV (ha:PE X a ta) (he:∀ whole,isTrue a X.env whole=(do let v ← whole;standAt a.pos;holding [v] (truthy v))) :
  PT X a (λσ H Q=>ta σ H λx H'=>∃ k,wM X.K x H' k/\Q k H'):=by
 intro pins s σ H Q I h;exact isTrue_plain (thn (ha pins s σ H _ I h) λv s1 ⟨x,H1,I1,r1,q1⟩=>wN pins s1 σ H1 x v Q I1 r1 q1) (he _)
theorem Vf:OpR X (binaryOp .Add) (λx y H Q=>∃ i j,x=.str i/\y=.str j/\i.length+j.length<=sizeLine/\Q (.str (i++j)) H):=by
 intro pins s σ H x y v u Q I rx ry h;obtain ⟨i,j,rfl,rfl,hz,q⟩:=h;obtain ⟨t,rfl⟩:=rx;obtain ⟨t',rfl⟩:=ry;exact add_str (λt' tk=>⟨.str (i++j),H,I.tok _,⟨_,rfl⟩,q⟩) hz
theorem vals1 {x:V}{us:List Value}(r:Vals [x] us):∃ u,us=[u]/\RelV x u:=by
 cases r with
 | cons r1 r2=>cases r2;exact ⟨_,rfl,r1⟩
theorem vals2 {x y:V}{us:List Value}(r:Vals [x,y] us):∃ u w',us=[u,w']/\RelV x u/\RelV y w':=by
 cases r with
 | cons r1 r2 =>
  cases r2 with
  | cons r3 r4=>cases r4;exact ⟨_,_,rfl,r1,r3⟩
theorem Y0 (hc:X.calm=true):Br X (.builtin "max") (λxs H Q=>∃ i j,xs=[.int i,.int j]/\Q (.int (if j > i then j else i)) H):=by
 intro pins s σ H xs us Q I r h;obtain ⟨i,j,rfl,q⟩:=h;obtain ⟨u,w',rfl,⟨t,rfl⟩,⟨t',rfl⟩⟩:=vals2 r;refine max_two_ints (I.ok.hd hc) λh' tk k=>⟨_,H,I.kept k,?_,q⟩
 by_cases hj:j > i
 ·rw [if_pos hj,if_pos hj];exact ⟨_,rfl⟩
 ·rw [if_neg hj,if_neg hj];exact ⟨_,rfl⟩
theorem Y4 (hc:X.calm=true):Br X (.builtin "min") (λxs H Q=>∃ i j,xs=[.int i,.int j]/\Q (.int (if j < i then j else i)) H):=by
 intro pins s σ H xs us Q I r h;obtain ⟨i,j,rfl,q⟩:=h;obtain ⟨u,w',rfl,⟨t,rfl⟩,⟨t',rfl⟩⟩:=vals2 r;refine min_two_ints (I.ok.hd hc) λh' tk k=>⟨_,H,I.kept k,?_,q⟩
 by_cases hj:j < i
 ·rw [if_pos hj,if_pos hj];exact ⟨_,rfl⟩
 ·rw [if_neg hj,if_neg hj];exact ⟨_,rfl⟩
theorem Om:Br X (.type "int") (λxs H Q=>(∃ i,xs=[.int i]/\Q (.int i) H)\/∃ k,xs=[.bl k]/\Q (.int (if k then 1 else 0)) H):=by
 intro pins s σ H xs us Q I r h;rcases h with ⟨i,rfl,q⟩|⟨k,rfl,q⟩
 ·obtain ⟨u,rfl,t,rfl⟩:=vals1 r;exact call_int_int ⟨.int i,H,I,⟨_,rfl⟩,q⟩
 ·obtain ⟨u,rfl,r1⟩:=vals1 r;cases r1;exact call_int_bool ⟨.int (if k then 1 else 0),H,I.tok _,⟨_,rfl⟩,q⟩
end
section
variable {prog:Program}{w:World}{A:Around}{E:Value->Shared->Prop}{s:Shared}{K:aj}{x dx C f:Addr}{mA:Str->Option Value}{name:Str}{v:Value}
theorem bW {R:Result->Shared->Prop}{vs:List Value}{kw:List (Str×Value)}(X:K.In s.heap) (hm:PySem.W.makesIn K C=true)
    (hi:zp K (.ref C) "__init__"=some (some (.ref f))) (hf:PySem.W.typeIn K (.ref f)=some (.type "function"))
    (h:codeAny (model prog w) (A.under (.builtin "type.__call__" ⟨.ref C::vs,kw⟩)) (.call (.ref f) ⟨.ref (s.heap.objs.size+1)::vs,kw⟩) (PySem.W.InitBack (s.heap.objs.size+1) R)
      { s with heap:=(s.heap.push pq).push (wu C s.heap.objs.size) }) :
    codeAny (model prog w) A (.call (.ref C) ⟨vs,kw⟩) R s:=by
  obtain ⟨hh,g,d,t,os⟩:=s;exact PySem.W.make_core (PySem.W.makes_of X hm) (PySem.W.looks_findIn X hi) (λself=>PySem.W.bind_fn X self hf) (.inl rfl) h
end
section
variable {P:Program}{w:World}{H H':Hp}{h h':Heap}{a C dx:Addr}{fs fs':List (Str×V)}
end
structure Cls (K:aj) (C:Addr):Prop where
 pg:PySem.W.plainGet K C Str.empty=true
 hd:PySem.W.hasDictIn K C=true
 po:PySem.W.plainOver K C=true
 sa:zp K (.ref C) "__setattr__"=some (some (.builtin "object.__setattr__"))
noncomputable def bY (K:aj) (C:Addr) (f:Str):Prop:=zp K (.ref C) f=some none
structure Meth (K:aj) (C:Addr) (m:Str) (f:Addr):Prop where
 at_:zp K (.ref C) m=some (some (.ref f))
 fn:PySem.W.isFn K (.ref f)=true
 kp:jm K (.ref f)=true
section
variable {X:Cx}{pins:List (Addr×Obj)}{σ:St}{H:Hp}{s:Shared}{a C dx:Addr}{fs:List (Str×V)}{f:Str}{v:V}{A:Around}{E:Value->Shared->Prop}
theorem Inv.made (I:Inv X pins σ H s):Inv X pins σ (upd (upd H s.heap.objs.size (.own (s.heap.objs.size+1))) (s.heap.objs.size+1) (.ins C s.heap.objs.size []))
    { s with heap:=(s.heap.push pq).push (wu C s.heap.objs.size) }:=by
  have e1:(s.heap.push pq).get? s.heap.objs.size=some pq:=dh s.heap rfl;have e2:((s.heap.push pq).push (wu C s.heap.objs.size)).get? (s.heap.objs.size+1)=some (wu C s.heap.objs.size):=by
    have:=dh (s.heap.push pq) (o:=wu C s.heap.objs.size) rfl
    rwa [ji] at this
  have e3:(s.heap.push pq).Ns s.heap.objs.size (λ_=>none):=⟨pq,#[],_,e1,rfl,(λe he=>absurd he (by simp)),λ_=>rfl⟩;have I1:=I.laid (a:=s.heap.objs.size) (o:=.own (s.heap.objs.size+1)) (h':=s.heap.push pq) (t':=s.toks) (λb u q=>ak _ q) (cg _) ⟨_,e1⟩;refine I1.laid (a:=s.heap.objs.size+1) (o:=.ins C s.heap.objs.size []) (t':=s.toks) (λb u q=>ak _ q) (HF (ji _ _)) ?_;have ne:s.heap.objs.size≠s.heap.objs.size+1:=fu (jq _);refine ⟨by rw [Ac ne,Ai],oh _,ne,e2,λ_=>none,(Heap.Ns1.of_empty e3).at λo q=>ak _ q,λ_=>True.intro,λy hy=>absurd rfl hy⟩
end
section
variable {X:Cx}{o e value:Expr}{f:Str}{pos pos' tpos:Pos}{ta tv:TE}
end
section
variable {X:Cx}{pins:List (Addr×Obj)}{σ:St}{H:Hp}{s:Shared}{A:Around}{E:Value->Shared->Prop}{Q:Value->Shared->Prop}{c:Value}{b:Bool}
end
structure Room (k:Nat) (A:Around):Prop where
 hd:A.handled=none
 dp:A.depth+3 * k+5 < recursionLimit
 un:A.units+16 * k+200 < cLine
theorem Room.mono {j k:Nat}{A:Around}(r:Room k A) (h:j<=k):Room j A:=⟨r.hd,by have:=r.dp;omega,by have:=r.un;omega⟩
theorem Room.deeper {k:Nat}{A:Around}(r:Room (k+1) A) (env:Env):Room k (A.deeper env) :=
 ⟨r.hd,by have:=r.dp;show A.depth+1+3 * k+5 < _;omega,by have:=r.un;show A.units+3+16 * k+200 < _;omega⟩
theorem Vg {A:Around}{C:Addr}{us:List Value}{kw:List (Str×Value)}:(A.under (.builtin "type.__call__" ⟨.ref C::us,kw⟩)).depth=A.depth+1:=by
 first | rfl | simp [PJ,Code.weight,Code.isCreation,Code.isGuard,Code.isCaller,Code.frames,Code.isFrame,guardIds]
theorem Vh {A:Around}{C:Addr}{us:List Value}{kw:List (Str×Value)}:(A.under (.builtin "type.__call__" ⟨.ref C::us,kw⟩)).units=A.units+1:=by
 first | rfl | simp [PJ,Code.cUnits,Code.frames,Code.isFrame]
theorem Room.make {k:Nat}{A:Around}(r:Room (k+1) A) (C:Addr) (us:List Value) (kw:List (Str×Value)):Room k (A.under (.builtin "type.__call__" ⟨.ref C::us,kw⟩)) :=
 ⟨r.hd,by have:=r.dp;rw [Vg];omega,by have:=r.un;rw [Vh];omega⟩
theorem Room.depth {k:Nat}{A:Around}(r:Room k A):A.depth < recursionLimit:=by have:=r.dp;omega
theorem Room.units {k:Nat}{A:Around}(r:Room k A):A.units+64 < cLine:=by have:=r.un;omega
noncomputable def oJ:TA:=λ_ H Q=>Q [] H
noncomputable def bZ (ta:TE) (tr:TA):TA:=λσ H Q=>ta σ H λx H1=>tr σ H1 λxs H2=>Q (x::xs) H2
section
variable {X:Cx}{e:Expr}{es:List Expr}{te:TE}{t:TA}{pos:Pos}
theorem Vi:PA X [] oJ:=λ_ _ _ _ H Q I h=>Calls.spliced_nil ⟨[],H,I,.nil,h⟩
theorem G8 (ha:PE X e te) (hr:PA X es t) (hs:starEach (e::es) X.env=(false,eval e X.env)::starEach es X.env:=by rfl):PA X (e::es) (bZ te t):=by
 intro pos pins s σ H Q I h;rw [hs];show wpAny _ _ (spliced ((false,eval e X.env)::backTo pos (starEach es X.env))) _ _ s;refine Calls.spliced_cons (thn (ha pins s σ H _ I h) ?_);rintro u s1 ⟨x,H1,I1,r1,q1⟩;refine thn (hr pos pins s1 σ H1 _ I1 q1) ?_;rintro us s2 ⟨xs,H2,I2,r2,q2⟩;exact ⟨x::xs,H2,I2,.cons r1 r2,q2⟩
noncomputable def Ack (t:TA):TE:=λσ H Q=>t σ H λxs H1=>xs.length<=sizeLine/\∀ p,H1 p=none->Q (.ref p) (upd H1 p (.tup xs))
noncomputable def Ae1 (t:TA):TE:=λσ H Q=>t σ H λxs H1=>xs.length<=sizeLine/\∀ p,H1 p=none->Q (.ref p) (upd H1 p (.lst xs))
theorem cA {x1}(h:PA X es t):PE X (.Tuple es x1 pos) (Ack t):=by
 intro pins s σ H Q I hq;refine wpAny_Tuple_spliced (thn (h pos pins s σ H _ I hq) ?_);rintro us s1 ⟨xs,H1,I1,r,z,q⟩;refine ⟨by rw [← r.length];exact z,?_⟩;have hf:H1 s1.heap.objs.size=none:=I1.hok.fresh (cg _);refine ⟨.ref s1.heap.objs.size,upd H1 s1.heap.objs.size (.tup xs),I1.laid (t':=s1.toks) (λb u e=>ak _ e) (cg _) ?_,rfl,q _ hf⟩;exact ⟨z,us,r,⟨_,dh _ rfl,rfl,rfl,_,rfl⟩⟩
theorem wO (h:PA X es t):PE X (.List es pos) (Ae1 t):=by
 intro pins s σ H Q I hq;refine wpAny_List_spliced (thn (h pos pins s σ H _ I hq) ?_);rintro us s1 ⟨xs,H1,I1,r,z,q⟩;refine ⟨by rw [← r.length];exact z,?_⟩;have hf:H1 s1.heap.objs.size=none:=I1.hok.fresh (cg _);refine ⟨.ref s1.heap.objs.size,upd H1 s1.heap.objs.size (.lst xs),I1.laid (t':=s1.toks) (λb u e=>ak _ e) (cg _) ?_,rfl,q _ hf⟩;exact ⟨z,us,0,r,dh _ rfl⟩
end
noncomputable abbrev Sp:=List V->Hp->VK->XK->Prop
noncomputable abbrev CXT:=List Env->Hp->Shared->XK->Value->Shared->Prop
structure Env0 (P:Program) (w:World) (K:aj) (mg:Str->Option Value) (base:Heap) (A:Around) (outer:List Env) (s:Shared) (H:Hp):Prop where
 frames:A.frames=some outer
 mod:Mod K mg base
 bs:∀ b o,base.get? b=some o->s.heap.get? b=some o/\H b=none
 bsz:base.objs.size<=s.heap.objs.size
 funs:s.heap.FunFrames base outer
 frf:∀ b∈frs outer,H b=none
 hok:HOk P w H s.heap
 bare:AllBare s.gens
noncomputable def CE (outer:List Env) (P:Program) (w:World) (H:Hp) (s:Shared) (Q:VK) (u:Value) (s':Shared):Prop :=
 ∃ v H',s'.os=s.os/\AllBare s'.gens/\Un (frs outer) [] H H' s.heap s'.heap/\HOk P w H' s'.heap/\RelV v u/\Q v H'
noncomputable def CR (CX:CXT) (outer:List Env) (P:Program) (w:World) (H:Hp) (s:Shared) (Q:VK) (E:XK) (r:Result) (s':Shared):Prop :=
 match r with
 | .ok (.ret u)=>CE outer P w H s Q u s'
 | .ok _=>False
 | .error e=>CX outer H s E e s'
structure FnOk (P:Program) (w:World) (K:aj) (mg:Str->Option Value) (base:Heap) (CX:CXT) (k:Nat) (f:Addr) (fd:FuncData) (ps:List Str) (sp:Sp):Prop where
 len:∀ vs H Q E,sp vs H Q E->vs.length=ps.length
 run:∀ (A:Around) (outer:List Env) (s:Shared) (H:Hp) (args:Args) (us:List Value) (vs:List V) (Q:VK) (E:XK),Room k A->Env0 P w K mg base A outer s H->BindsTo s fd args (ps.zip us)->Vals vs us->sp vs H Q E ->
  codeAny (model P w) A (.call (.ref f) args) (CR CX outer P w H s Q E) s
theorem Env0.make {P:Program}{w:World}{K:aj}{mg:Str->Option Value}{base:Heap}{A:Around}{outer:List Env}{s:Shared}{H:Hp}(e:Env0 P w K mg base A outer s H) (C:Addr) (us:List Value) (kw:List (Str×Value)) :
  Env0 P w K mg base (A.under (.builtin "type.__call__" ⟨.ref C::us,kw⟩)) outer s H:=⟨by first | exact e.frames | (simpa [PJ,Code.envs,Code.isFrame,pushEnvs] using e.frames),e.mod,e.bs,e.bsz,e.funs,e.frf,e.hok,e.bare⟩
section
variable {X:Cx}{pins:List (Addr×Obj)}{σ:St}{H:Hp}{s s':Shared}
theorem Inv.env0 (I:Inv X pins σ H s):Env0 X.prog X.w X.K X.mg X.base X.A X.stack s H :=
 ⟨I.ok.frames,I.ok.mod,I.bs,ig I.ok.bsz I.sz,I.stack,I.stkFree,I.hok,I.bare⟩
theorem Inv.after {Q:VK}{u:Value}(I:Inv X pins σ H s) (h:CE X.stack X.prog X.w H s Q u s'):EP X pins σ Q u s':=by
 obtain ⟨v,H',os,bare,un,hok,r,q⟩:=h;obtain ⟨hh,g,d,t,os'⟩:=s';obtain rfl:os'=s.os:=os;exact ⟨v,H',I.call (h':=hh) (g':=g) (d':=d) (t':=t) (ch:=[]) un hok bare (λb z=>absurd z (by simp)),r,q⟩
end
noncomputable def Xc (sp:Sp) (dvs:List V) (E:XK) (t:TA):TE:=λσ H Q=>t σ H λvs H1=>sp (vs++dvs) H1 Q E
noncomputable def Acl (C:Addr) (sp:Sp) (dvs:List V) (E:XK) (t:TA):TE:=λσ H Q=>t σ H λvs H1=>∀ x dx,H1 x=none->H1 dx=none->dx≠x ->
 sp (.ref x::(vs++dvs)) (upd (upd H1 dx (.own x)) x (.ins C dx [])) (λv H2=>v=.non/\Q (.ref x) H2) E
noncomputable def Binds (K:aj) (fd:FuncData) (ps:List Str) (ds:List Value):Prop :=
 ∀ (s:Shared) (us:List Value),K.In s.heap->(us++ds).length=ps.length->BindsTo s fd ⟨us,[]⟩ (ps.zip (us++ds))
theorem Binds.all {K:aj}{fd:FuncData}{ps:List Str}(h:∀ us:List Value,us.length=ps.length->bindArgs fd ⟨us,[]⟩=pure (ps.zip us)):Binds K fd ps []:=λs us _ hl=>by
 rw [ni] at hl ⊢;exact .of_eq (h us hl)
noncomputable def Dj (CX:CXT) (X:Cx) (E:XK):Prop:=∀ (pins:List (Addr×Obj)) (σ:St) (H:Hp) (s:Shared) (e:Value) (s':Shared),Inv X pins σ H s->CX X.stack H s E e s'->X.xe e s'
section
variable {X:Cx}{CX:CXT}{k:Nat}{f C:Addr}{fd:FuncData}{ps:List Str}{sp:Sp}{dvs:List V}{ds:List Value}{E:XK}{x m:Str}{p pos apos:Pos}{e o:Expr}{es:List Expr}{ta:TE}{t:TA}
theorem Mx {pins:List (Addr×Obj)}{σ:St}{H:Hp}{s:Shared}{Q:VK}{us:List Value}{vs:List V}(F:FnOk X.prog X.w X.K X.mg X.base CX k f fd ps sp) (hr:Room k X.A) (hb:Binds X.K fd ps ds) (hd:Vals dvs ds) (hx:Dj CX X E)
  (I:Inv X pins σ H s) (r:Vals vs us) (h:sp (vs++dvs) H Q E):wpAny (model X.prog X.w) X.A (call (.ref f) us) (EP X pins σ Q) X.xe s:=by
 have r2:Vals (vs++dvs) (us++ds):=r.append hd;have hl:(us++ds).length=ps.length:=by rw [← r2.length];exact F.len _ _ _ _ h
 refine wpAny_call (HJ (F.run X.A X.stack s H ⟨us,[]⟩ (us++ds) (vs++dvs) Q E hr I.env0 (hb s us I.kIn hl) r2 h) λr s' hq=>?_);cases r with
 | error e=>exact hx pins σ H s e s' I hq
 | ok fl =>
  cases fl with
  | ret u=>exact I.after hq
  | next=>exact False.elim hq
  | brk=>exact False.elim hq
  | cont=>exact False.elim hq
theorem Xd (F:FnOk X.prog X.w X.K X.mg X.base CX k f fd ps sp) (hr:Room k X.A) (hg:Gl X x) (hm:X.mg x=some (.ref f)) (hk:jm X.K (.ref f)=true) (hb:Binds X.K fd ps ds) (hd:Vals dvs ds) (hx:Dj CX X E)
  (ha:PA X (e::es) t) (hdb:(x==("__debug__":Str))=false:=by decide) (he:starEach (e::es) X.env=(false,eval e X.env)::starEach es X.env:=by rfl) (hpl:(backTo pos (starEach es X.env)).any (·.1)=false:=by rfl) :
  PE X (.Call (.Name x p) (e::es) [] pos) (Xc sp dvs E t):=by
 intro pins s σ H Q I h;refine qd (Mh I hg hm ?_ hdb);refine za (h₀:=X.base) I.ok.mod.kin hk (thn (ha pos pins s σ H _ I h) λus s1 ⟨vs,H1,I1,r,q⟩=>⟨I1.kIn,?_⟩) he hpl;exact Mx F hr hb hd hx I1 r q
theorem cB (F:FnOk X.prog X.w X.K X.mg X.base CX k f fd ps sp) (hr:Room k X.A) (hg:Gl X x) (hm:X.mg x=some (.ref f)) (hk:jm X.K (.ref f)=true) (hb:Binds X.K fd ps ds) (hd:Vals dvs ds) (hx:Dj CX X E)
  (hdb:(x==("__debug__":Str))=false:=by decide):PE X (.Call (.Name x p) [] [] pos) (Xc sp dvs E oJ):=by
 intro pins s σ H Q I h;refine qd (Mh I hg hm ?_ hdb);exact NK I.kIn hk (Mx (us:=[]) F hr hb hd hx I .nil h)
structure Mk (K:aj) (C f:Addr):Prop where
 makes:PySem.W.makesIn K C=true
 init:zp K (.ref C) "__init__"=some (some (.ref f))
 fn:PySem.W.isFn K (.ref f)=true
 kp:jm K (.ref C)=true
theorem cC {pins:List (Addr×Obj)}{σ:St}{H:Hp}{s:Shared}{Q:VK}{us:List Value}{vs:List V}(M:Mk X.K C f) (F:FnOk X.prog X.w X.K X.mg X.base CX k f fd ps sp) (hr:Room (k+1) X.A) (hb:Binds X.K fd ps ds) (hd:Vals dvs ds)
  (hx:Dj CX X E) (I:Inv X pins σ H s) (r:Vals vs us)
  (h:∀ x dx,H x=none->H dx=none->dx≠x->sp (.ref x::(vs++dvs)) (upd (upd H dx (.own x)) x (.ins C dx [])) (λv H2=>v=.non/\Q (.ref x) H2) E) :
  wpAny (model X.prog X.w) X.A (call (.ref C) us) (EP X pins σ Q) X.xe s:=by
 have hq:=h (s.heap.objs.size+1) s.heap.objs.size (I.hok.fresh (sy _)) (I.hok.fresh (cg _)) (fu (jq _));have I2:=Inv.made (C:=C) I;have r2:Vals (V.ref (s.heap.objs.size+1)::(vs++dvs)) (Value.ref (s.heap.objs.size+1)::(us++ds)):=.cons rfl (r.append hd);have hl:(Value.ref (s.heap.objs.size+1)::us++ds).length=ps.length:=by
  have e:=r2.length;rw [F.len _ _ _ _ hq] at e;exact e.symm
 refine wpAny_call (bW (f:=f) I.kIn M.makes M.init (beq_iff_eq.mp M.fn) (HJ (F.run _ X.stack _ _ ⟨Value.ref (s.heap.objs.size+1)::us,[]⟩ (Value.ref (s.heap.objs.size+1)::(us++ds)) _ _ E (hr.make C us [])
  (I2.env0.make C us []) (hb _ (Value.ref (s.heap.objs.size+1)::us) I2.kIn hl) r2 hq) λr s' hq'=>?_))
 cases r with
 | error e=>exact hx pins σ _ _ e s' I2 hq'
 | ok fl =>
  cases fl with
  | ret u =>
   obtain ⟨v,H',I3,rv,ev,q3⟩:=I2.after hq';subst ev;exact ⟨rv,⟨V.ref (s.heap.objs.size+1),H',I3,rfl,q3⟩⟩
  | next=>exact False.elim hq'
  | brk=>exact False.elim hq'
  | cont=>exact False.elim hq'
theorem cD (M:Mk X.K C f) (F:FnOk X.prog X.w X.K X.mg X.base CX k f fd ps sp) (hr:Room (k+1) X.A) (hg:Gl X x) (hm:X.mg x=some (.ref C)) (hb:Binds X.K fd ps ds) (hd:Vals dvs ds) (hx:Dj CX X E)
  (hdb:(x==("__debug__":Str))=false:=by decide):PE X (.Call (.Name x p) [] [] pos) (Acl C sp dvs E oJ):=by
 intro pins s σ H Q I h;refine qd (Mh I hg hm ?_ hdb);exact NK I.kIn M.kp (cC (us:=[]) M F hr hb hd hx I .nil h)
end
section
variable {X:Cx}{CX:CXT}{k:Nat}{f C:Addr}{fd:FuncData}{ps ks:List Str}{sp:Sp}{E:XK}{x m:Str}{p pos apos kpos:Pos}{e o:Expr}{es:List Expr}{kws:List Keyword}{te ta:TE}{t tk:TA}{nm:Option Str}
variable {g:List Value->List Value->List Value}{gV:List V->List V->List V}
end
structure FnScope (N P:List Str) (sc:Scope):Prop where
 kind:sc.kind=.function
 co:sc.isCoroutine=false
 gen:sc.isGenerator=false
 nd:N.Nodup
 pre:N.take P.length=P
 par:∀ x∈P,sc.names.lookup x=some .local\/sc.names.lookup x=some .cell
 nofree:∀ y∈sc.names,y.2≠.free
theorem Oo {kindOf:Str->Option NameKind}{x:Str}:∀ {binds:List (Str×Value)}{m:Str->Option Value},(∀ v,(x,v) ∉ binds)->bindL kindOf binds m x=m x
 | [],_,_=>rfl
 | (n,v)::r,m,h=>by
  unfold bindL;rw [Oo λw hw=>h w (iu _ hw)];split
  ·have:x≠n:=by rintro rfl;exact h v iy
   simp [this]
  ·rfl
theorem Oq {kindOf:Str->Option NameKind}{x:Str}:∀ {binds:List (Str×Value)}{m:Str->Option Value},(∀ v,(x,v) ∉ binds)->bindC kindOf binds m x=m x
 | [],_,_=>rfl
 | (n,v)::r,m,h=>by
  unfold bindC;rw [Oq λw hw=>h w (iu _ hw)];split
  ·rfl
  ·have:x≠n:=by rintro rfl;exact h v iy
   simp [this]
theorem Ot {kindOf:Str->Option NameKind}{x:Str}{v:Value}:∀ {P:List Str}{vs:List Value}{i:Nat}{m:Str->Option Value},P.Nodup->P[i]?=some x->vs[i]?=some v->kindOf x=some .local ->
  bindL kindOf (P.zip vs) m x=some v
 | [],_,_,_,_,h,_,_=>by simp at h
 | _::_,[],_,_,_,_,h,_=>by simp at h
 | p::P,w::vs,0,m,nd,h1,h2,hk=>by
  simp at h1 h2;subst h1;subst h2;show bindL kindOf ((p,w)::P.zip vs) m p=_;unfold bindL;rw [Oo λv hv=>(uh.mp nd).1 (nj hv).1,if_pos hk];simp
 | p::P,w::vs,i+1,m,nd,h1,h2,hk=>by
  show bindL kindOf ((p,w)::P.zip vs) m x=_;unfold bindL;exact Ot (i:=i) (uh.mp nd).2 (by simpa using h1) (by simpa using h2) hk
theorem Ou {kindOf:Str->Option NameKind}{x:Str}{v:Value}:∀ {P:List Str}{vs:List Value}{i:Nat}{m:Str->Option Value},P.Nodup->P[i]?=some x->vs[i]?=some v->kindOf x≠some .local ->
  bindC kindOf (P.zip vs) m x=some v
 | [],_,_,_,_,h,_,_=>by simp at h
 | _::_,[],_,_,_,_,h,_=>by simp at h
 | p::P,w::vs,0,m,nd,h1,h2,hk=>by
  simp at h1 h2;subst h1;subst h2;show bindC kindOf ((p,w)::P.zip vs) m p=_;unfold bindC;rw [Oq λv hv=>(uh.mp nd).1 (nj hv).1,if_neg hk];simp
 | p::P,w::vs,i+1,m,nd,h1,h2,hk=>by
  show bindC kindOf ((p,w)::P.zip vs) m x=_;unfold bindC;exact Ou (i:=i) (uh.mp nd).2 (by simpa using h1) (by simpa using h2) hk
noncomputable def start (N:List Str) (vs:List V):St:=vs.map some++iz (N.length - vs.length) none
noncomputable def Jw (CX:CXT) (P:Program) (w:World) (K:aj) (mg:Str->Option Value) (base:Heap) (N:List Str) (qual:Str) (scope:Scope) (f:Addr) (cd:Value) (A:Around) (outer:List Env) (s:Shared) (H:Hp) (E:XK):Cx where
 prog:=P
 w:=w
 K:=K
 mg:=mg
 base:=base
 A:=A.deeper (envOfC qual scope s.heap.objs.size f cd)
 N:=N
 s₀:=s
 H₀:=H
 env:=envOfC qual scope s.heap.objs.size f cd
 outer:=outer
 stack:=envOfC qual scope s.heap.objs.size f cd::outer
 ex:=[]
 calm:=true
 fn:=λ_=>true
 pn:=[]
 xe:=λe s'=>wpAny (model P w) (A.deeper (envOfC qual scope s.heap.objs.size f cd)) (leaving (envOfC qual scope s.heap.objs.size f cd) e) (λ_ s''=>CX outer H s E e s'') (λe' s''=>CX outer H s E e' s'') s'
theorem Sv {sc:Scope}{n:Nat}{x:Str}(h:sc.names.lookup x=some .cell):∃ c,(cellsFrom n sc.names []).lookup x=some c:=by
 have q:=qm sc.names n [] (.inl h);exact vo.mp q
theorem Ks {CX:CXT}{P:Program}{w:World}{K:aj}{mg:Str->Option Value}{base:Heap}{N ps:List Str}{qual:Str}{scope:Scope}{f:Addr}{cd:Value}{A:Around}{outer:List Env}{s s1:Shared}{H:Hp}{E:XK}{us:List Value}{vs:List V}
  (S:FnScope N ps scope) (hd:A.handled=none) (e0:Env0 P w K mg base A outer s H) (hl:vs.length=ps.length) (r:Vals vs us)
  (x:InCallC s s.heap.objs.size (bindL (envOfC qual scope s.heap.objs.size f cd).kindOf (ps.zip us) λ_=>none) (cellsFrom (s.heap.objs.size+1) scope.names []) (bindC (envOfC qual scope s.heap.objs.size f cd).kindOf (ps.zip us) λ_=>none) s1) :
  Inv (Jw CX P w K mg base N qual scope f cd A outer s H E) [] (start N vs) H s1:=by
 have hpl:ps.length<=N.length:=by have:=congrArg List.length S.pre;rw [jj] at this;omega
 obtain ⟨h1,tk,rfl,hk⟩:=x.done;have noA:∀ b:Addr,b ∉ (Jw CX P w K mg base N qual scope f cd A outer s H E).ex:=λb z=>absurd (show b∈([]:List Addr) from z) (by simp)
 refine ⟨⟨e0.mod,S.kind,rfl,rfl,cg _,λy z c h1 h2=>?_,λy hy=>?_,λy c _ h=>?_,λ_=>hd,LC e0.frames,.inr ⟨rfl,rfl⟩,λb z=>absurd z (noA b),e0.bs,e0.bsz,λb _ _=>noA b,λb z=>absurd z (noA b),e0.funs,e0.frf⟩,
  rfl,e0.bare,Un.kept hk,⟨_,x.toInCall.ns,λi y v h1 h2 h3=>?_⟩,λy c h=>⟨_,x.cell y c h⟩,e0.hok.fresh (cg _),λy c h=>?_,λp hp=>absurd (show p∈([]:List (Addr×Obj)) from hp) (by simp),e0.hok.kept hk,?_⟩
 ·exact name_of_addr x.apart (ir h1) (ir h2)
 ·have hy:scope.names.lookup y=some .cell\/scope.names.lookup y=some .free:=hy;rcases hy with hy|hy
  ·exact Sv hy
  ·exact absurd rfl (S.nofree _ (ir hy))
 ·exact yx (x.above y c (ir h))
 ·have hi:i < vs.length:=by
   unfold start at h2
   by_cases hi:i < vs.length
   ·exact hi
   ·rw [gb (by simpa using hi)] at h2;rw [wk] at h2;split at h2 <;> cases h2
  have ha:vs[i]?=some v:=by
   unfold start at h2;rw [dw (by simpa using hi),dj] at h2;cases e:vs[i]? with
   | none=>rw [e] at h2;cases h2
   | some a=>rw [e] at h2;cases h2;rfl
  obtain ⟨u,hu,rv⟩:=r.get ha;have hp:ps[i]?=some y:=by
   rw [← S.pre,HN (by omega)];exact h1
  have ndP:ps.Nodup:=by rw [← S.pre];exact S.nd.sublist (QH _ _)
  refine ⟨u,rv,?_⟩;rcases S.par y (di hp) with k|k
  ·exact .inl ⟨k,Ot ndP hp hu k⟩
  ·obtain ⟨c,e⟩:=Sv (n:=s.heap.objs.size+1) k;refine .inr ⟨.inl k,c,e,?_⟩;have q:=x.cell y c e;rw [Ou ndP hp hu (by show scope.names.lookup y≠_;rw [k];decide)] at q;exact q
 ·exact .inl (e0.hok.fresh (yx (x.above y c (ir h))))
 ·unfold start;show _=N.length;rw [bh,aq,BZ];omega
theorem tZ {CX:CXT}{P:Program}{w:World}{K:aj}{mg:Str->Option Value}{base:Heap}{k:Nat}{f:Addr}{name qual:Str}{params:Arguments}{body:List Stmt}{scope:Scope}{dV kV doc pm cdv ct oc:Value}{an od:Option Addr}
  {osl:Array (Option Value)} {N ps:List Str} {sp:Sp} (lk:K.lookup f=some ⟨oc,od,.func (vq name qual params body scope dV kV doc pm an cdv ct),osl⟩) (hcd:vh K cdv qual=true) (S:FnScope N ps scope)
  (len:∀ vs H Q E,sp vs H Q E->vs.length=ps.length)
  (hbody:∀ (A:Around) (outer:List Env) (s:Shared) (H:Hp) (vs:List V) (Q:VK) (E:XK),Room k (A.deeper (envOfC qual scope s.heap.objs.size f cdv))->sp vs H Q E ->
   ∃ t,PSs (Jw CX P w K mg base N qual scope f cdv A outer s H E) body t/\t { nx:=λ_ H'=>Q .non H',rt:=Q } (start N vs) H) :
  FnOk P w K mg base CX (k+1) f (vq name qual params body scope dV kV doc pm an cdv ct) ps sp:=by
 refine ⟨len,λA outer s H args us vs Q E hr e0 hb r hsp=>?_⟩;have hl:=len _ _ _ _ hsp;have KX:K.In s.heap:=e0.mod.kin.keeps λb o e=>(e0.bs b o e).1
 have lim:s.heap.NoLimit:=e0.mod.nolimit.keeps λb o e=>(e0.bs b o e).1
 have hkind:∀ y∈ps.zip us,scope.names.lookup y.1=some .local\/(scope.names.lookup y.1=some .cell/\((cellsFrom (s.heap.objs.size+1) scope.names []).lookup y.1).isSome=true):=by
  rintro ⟨n,v⟩ hy;rcases S.par n (nj hy).1 with q|q
  ·exact .inl q
  ·exact .inr ⟨q,qm _ _ _ (.inl q)⟩
 refine JX hr.depth (KX _ _ lk) rfl S.co S.gen rfl (PK KX hcd) (hb _ _ _ _ ?_);refine yg S.kind hkind λenv he s1 x=>?_
 subst he;refine ⟨lim.keeps x.toInCall.keep,codeAny_func ?_⟩;obtain ⟨t,ht,hq⟩:=hbody A outer s H vs Q E (hr.deeper _) hsp;have I:Inv (Jw CX P w K mg base N qual scope f cdv A outer s H E) [] (start N vs) H s1:=Ks S hr.hd e0 hl r x;refine qb (ht [] s1 (start N vs) H _ I hq) (λfl s' hs=>?_) λe s' hs=>hs
 have fin:∀ {σ':St} {H':Hp} {v:V} {u:Value},Inv (Jw CX P w K mg base N qual scope f cdv A outer s H E) [] σ' H' s'->RelV v u->Q v H'->CE outer P w H s Q u s' :=
  λ{σ' H' v u} J rv q=>⟨v,H',J.os,J.bare,J.base,J.hok,rv,q⟩
 cases fl with
 | ret u =>
  obtain ⟨v,σ',H',J,rv,q⟩:=hs;exact fin J rv q
 | next =>
  obtain ⟨σ',H',J,q⟩:=hs;exact fin (v:=V.non) (u:=Value.none) J rfl q
 | brk =>
  obtain ⟨_,_,_,q⟩:=hs;exact False.elim q
 | cont =>
  obtain ⟨_,_,_,q⟩:=hs;exact False.elim q
section
variable {X:Cx}{x:Str}{p pos:Pos}{e:Expr}{es:List Expr}{t:TA}{id T:String}{r:List V->Hp->VK->Prop}
noncomputable def tCB (r:List V->Hp->VK->Prop) (t:TA):TE:=λσ H Q=>t σ H λvs H1=>r vs H1 Q
theorem Sw (hc:Br X (.builtin id) r) (hg:Gl X x) (hm:X.mg x=none) (hv:bootBuiltins x=some (.builtin id)) (ha:PA X (e::es) t) (hn:x ≠ "__name__":=by decide) (hdb:(x==("__debug__":Str))=false:=by decide)
  (he:starEach (e::es) X.env=(false,eval e X.env)::starEach es X.env:=by rfl) (hpl:(backTo pos (starEach es X.env)).any (·.1)=false:=by rfl):PE X (.Call (.Name x p) (e::es) [] pos) (tCB r t):=by
 intro pins s σ H Q I h;refine qd (Kr I hg hm hv ?_ hn hdb);exact PyProof.Rows.callWith_builtin1 (thn (ha pos pins s σ H _ I h) λus s1 ⟨vs,H1,I1,r1,q1⟩=>hc pins s1 σ H1 vs us Q I1 r1 q1) he hpl
theorem Y5 (hc:Br X (.type T) r) (hg:Gl X x) (hm:X.mg x=none) (hv:bootBuiltins x=some (.type T)) (ha:PA X (e::es) t) (hn:x ≠ "__name__":=by decide) (hdb:(x==("__debug__":Str))=false:=by decide)
  (he:starEach (e::es) X.env=(false,eval e X.env)::starEach es X.env:=by rfl) (hpl:(backTo pos (starEach es X.env)).any (·.1)=false:=by rfl):PE X (.Call (.Name x p) (e::es) [] pos) (tCB r t):=by
 intro pins s σ H Q I h;refine qd (Kr I hg hm hv ?_ hn hdb);exact PyProof.Rows.callWith_type1 (thn (ha pos pins s σ H _ I h) λus s1 ⟨vs,H1,I1,r1,q1⟩=>hc pins s1 σ H1 vs us Q I1 r1 q1) he hpl
end
end L2
namespace HT
open PySem PyProof.Rows
section
open PySem.SeqAt
open PySem.AutoSeq1 (wpAny_loadPart')
open PySem.MeetsSeq PySem.MeetsSeq2 PySem.MeetsSeq3
end
section
variable {prog:Program}{w:World}{A:Around}{E:Value->Shared->Prop}{s:Shared}
theorem cat_tup {t b:Addr}{vs ws:List Value}{Q:Value->Shared->Prop}(ht:IsTup s.heap t vs.toArray) (hb:IsTup s.heap b ws.toArray) (hv:vs≠[])
  (h1:ws=[]->Q (.ref t) s) (h2:ws≠[]->Q (.ref s.heap.objs.size) { s with heap:=s.heap.push { cls:=.type "tuple",data:=.seq (vs++ws).toArray } })
  (hsz:vs.length+ws.length<=sizeLine):wpAny (model prog w) A (binaryOp .Add (.ref t) (.ref b)) Q E s:=by
 obtain ⟨⟨cls,dd,data,sl⟩,ho,hc,n,hd⟩:=id ht;obtain ⟨⟨cls2,dd2,data2,sl2⟩,ho2,hc2,n2,hd2⟩:=id hb;simp only at hc hd hc2 hd2;subst hc hd hc2 hd2;have e:vs.toArray++ws.toArray=(vs++ws).toArray:=by simp
 by_cases hw:ws=[]
 ·exact PL ⟨_,ho,rfl⟩ ⟨_,ho2,rfl⟩ HS MN BL zu (zb _ _)
   (tuple_addW1 t b vs.toArray ws.toArray n n2 dd dd2 sl sl2 (by simpa using hv) (by simp [hw])) ⟨ho,ho2,h1 hw⟩
 ·refine PL ⟨_,ho,rfl⟩ ⟨_,ho2,rfl⟩ HS MN BL zu (zb _ _)
   (tuple_addW2 t b vs.toArray ws.toArray n n2 dd dd2 sl sl2 (by simpa using hv) (by simpa using hw) (by rw [dm,dm];exact hsz)) ⟨ho,ho2,?_⟩
  rw [e];exact h2 hw
noncomputable def sIx (n d:Nat):Option Int->Nat
 | none=>d
 | some v=>if v < 0 then (v+(n:Int)).toNat else min v.toNat n
theorem sIx_none (n d:Nat):sIx n d none=d:=rfl
theorem sIx_nat (n d k:Nat):sIx n d (some (k:Int))=min k n:=by
 show (if (k:Int) < 0 then ((k:Int)+(n:Int)).toNat else min (k:Int).toNat n)=min k n;rw [if_neg (by omega),uy]
theorem wQ (n d:Nat) (hd:d<=n) (o:Option Int):sIx n d o<=n:=by
 cases o with
 | none=>exact hd
 | some v =>
  show (if v < 0 then (v+(n:Int)).toNat else min v.toNat n)<=n
  by_cases hv:v < 0
  ·rw [if_pos hv];omega
  ·rw [if_neg hv];exact Nat.min_le_right _ _
theorem Xe (v:Int) (n d:Nat):(if v < 0 then max (v+(n:Int)) 0 else min v (n:Int))=((sIx n d (some v):Nat):Int):=by
 show (if v < 0 then max (v+(n:Int)) 0 else min v (n:Int))=(((if v < 0 then (v+(n:Int)).toNat else min v.toNat n):Nat):Int)
 by_cases hv:v < 0
 ·simp only [if_pos hv];omega
 ·simp only [if_neg hv];omega
theorem Vj (lo hi:Option Int) (n:Nat):yw lo hi 1 (n:Int)=(((sIx n 0 lo:Nat):Int),((sIx n n hi:Nat):Int)):=by
 have h1:¬ ((1:Int) < 0):=by omega
 unfold yw;simp only [h1,if_false];refine Prod.ext ?_ ?_
 ·cases lo with
  | none=>rfl
  | some v=>exact Xe v n 0
 ·cases hi with
  | none=>rfl
  | some v=>exact Xe v n n
theorem Vk (i j:Nat):lg (i:Int) (j:Int) 1=j - i:=by
 unfold lg;have h1:(1:Int) > 0:=by omega
 simp only [h1,if_true,PN];split <;> omega
theorem My {v:Value}{o:Option Int}{Q:Option Int->Shared->Prop}(p:IsPart v o) (h:Q o s):wpAny (model prog w) A (Builtin.Slice.slicePartIndex v) Q E s:=by
 cases p with
 | none=>exact DR h
 | int i t=>exact slicePart_int h
theorem sliceApplied_gen {sl:Addr}{vl vu:Value}{lo hi:Option Int}{n:Nat}{Q:Int×Int×Nat->Shared->Prop}(hs:s.heap.IsSliceOf sl vl vu .none) (pl:IsPart vl lo) (pu:IsPart vu hi)
  (h:Q (((sIx n 0 lo:Nat):Int),1,sIx n n hi - sIx n 0 lo) s):wpAny (model prog w) A (ur (.ref sl) (pure (n:Int))) Q E s:=by
 obtain ⟨os,hos,hcs,hds⟩:=id hs;unfold ur GZ;refine ao (ao (ju hos hds (x:=vl) rfl (ao (ju hos hds (x:=vu) rfl (ao (ju hos hds (x:=.none) rfl (cu ?_)))))));refine ao (DR ?_);show wpAny _ _ (if ((1:Int)==0)=true then _ else _) _ _ s;rw [if_neg (by decide)];refine ao (My pl (ao (My pu (ao (cu ?_)))));show wpAny _ _ (match yw lo hi 1 (n:Int) with | (lo,hi)=>pure (lo,(1:Int),lg lo hi 1)) _ _ s;rw [Vj lo hi n];show wpAny _ _ (pure (((sIx n 0 lo:Nat):Int),(1:Int),lg ((sIx n 0 lo:Nat):Int) ((sIx n n hi:Nat):Int) 1)) _ _ s;rw [Vk];exact cu h
theorem cF (xs:Array Value) (i k:Nat):((vg k).filterMap λ(m:Nat)=>xs[((i:Int)+(m:Int) * 1).toNat]?).toArray=((xs.toList.drop i).take k).toArray:=by
 have e:(λ(m:Nat)=>xs[((i:Int)+(m:Int) * 1).toNat]?)=λm=>xs[i+m]?:=by
  funext m;have:((i:Int)+(m:Int) * 1).toNat=i+m:=by omega
  rw [this]
 rw [e];have:=pick_run xs i k;rw [List.filterMap_map] at this;have e2:((λx=>xs[x]?) ∘ λx=>i+x)=λm=>xs[i+m]?:=rfl
 rw [e2] at this;rw [this]
theorem getItem_tuple_cut {t sl:Addr}{items:Array Value}{vl vu:Value}{lo hi:Option Int}{Q:Value->Shared->Prop}(ht:IsTup s.heap t items) (hs:s.heap.IsSliceOf sl vl vu .none) (pl:IsPart vl lo) (pu:IsPart vu hi)
  (hw:¬ (sIx items.size 0 lo=0/\sIx items.size items.size hi=items.size))
  (h:Q (.ref s.heap.objs.size) { s with heap:=s.heap.push { cls:=.type "tuple",data:=.seq ((items.toList.drop (sIx items.size 0 lo)).take (sIx items.size items.size hi - sIx items.size 0 lo)).toArray } })
  (hsz:items.size<=sizeLine):wpAny (model prog w) A (getItem (.ref t) (.ref sl)) Q E s:=by
 have htake:sizeOk (.seq ((items.toList.drop (sIx items.size 0 lo)).take (sIx items.size items.size hi - sIx items.size 0 lo)).toArray):=by
  show ((items.toList.drop (sIx items.size 0 lo)).take (sIx items.size items.size hi - sIx items.size 0 lo)).toArray.size<=sizeLine;rw [dm,jj,vy,qj];omega
 have hj:sIx items.size items.size hi<=items.size:=wQ _ _ (cg _) hi;obtain ⟨os,hos,hcs,hds⟩:=id hs
 have hTs:s.TypeIs (.ref sl) "slice":=⟨os,hos,hcs⟩
 unfold getItem
 try with_reducible refine ye ?_
 first | refine ao (cu ?_) | skip
 refine ao (GP ht.typeIs (by decide) ?_)
 refine ao (nq (name:=Str.ofString "__getitem__") ht.typeIs PyProof.Rows.slot_tuple_getitem
  (qz PyProof.Rows.slot_tuple_getitem ht.typeIs CZ ?_ (FP _ _)))
 show wpAny _ _ (yh (.ref t) >>= _) _ _ s;refine ao (MP ht ?_);refine ao (HW hTs ?_);rw [if_pos (by decide)];refine ao (sliceApplied_gen hs pl pu ?_);have hno:¬ ((((sIx items.size 0 lo:Nat):Int)==0&&(1:Int)==1&&(sIx items.size items.size hi - sIx items.size 0 lo)==items.size)=true):=by
  intro q;rw [au,au] at q;have q1:((sIx items.size 0 lo:Nat):Int)=0:=cj q.1.1;have q2:sIx items.size items.size hi - sIx items.size 0 lo=items.size:=cj q.2;exact hw ⟨by omega,by omega⟩
 show wpAny _ _ (if (((sIx items.size 0 lo:Nat):Int)==0&&(1:Int)==1&&(sIx items.size items.size hi - sIx items.size 0 lo)==items.size)=true then _ else _) _ _ s;rw [if_neg hno,cF]
 first
  | exact ao (m:=jx _) (jo (cu ⟨_,rfl,cu h⟩) htake)
  | exact ao (m:=jx _) (jo (ao (cu (cu ⟨_,rfl,cu h⟩))) htake)
  | exact ao (ao (m:=jx _) (jo (cu (cu ⟨_,rfl,cu h⟩)) htake))
  | exact ao (ao (m:=jx _) (jo (cu ⟨_,rfl,cu h⟩) htake))
end
end HT
namespace L2
open PySem PySem.Spec PyProof.Rows
noncomputable abbrev TO:=St->Hp->(Option Int->Hp->Prop)->Prop
noncomputable def PO (X:Cx) (e:Option Expr) (t:TO):Prop :=
 ∀ (pins:List (Addr×Obj)) (s:Shared) (σ:St) (H:Hp) (Q:Option Int->Hp->Prop),Inv X pins σ H s->t σ H Q ->
  wpAny (model X.prog X.w) X.A (evalPart e X.env) (λu s'=>∃ o H',Inv X pins σ H' s'/\IsPart u o/\Q o H') X.xe s
noncomputable def oK:TO:=λ_ H Q=>Q none H
noncomputable def Acm (t:TE):TO:=λσ H Q=>t σ H λx H1=>∃ i,x=.int i/\Q (some i) H1
theorem intsAre_of {ns:List Int}:∀ {us:List Value},Vals (ns.map V.int) us->IntsAre us ns:=by
 induction ns with
 | nil=>intro us r;rw [PX] at r;cases r;exact .nil
 | cons n ns ih =>
  intro us r;rw [mq] at r;cases r with
  | cons r1 r2 =>
   obtain ⟨t,e⟩:=r1;subst e;exact .cons n t (ih r2)
section
variable {X:Cx}{e:Expr}{te:TE}{lo hi:Option Expr}{tl th:TO}{pos p2:Pos}
theorem oM:PO X none oK:=by
 intro pins s σ H Q I h;rw [MT];exact cu ⟨none,H,I,.none,h⟩
theorem oN (h:PE X e te):PO X (some e) (Acm te):=by
 intro pins s σ H Q I hw;rw [evalPart_some];refine thn (h pins s σ H _ I hw) ?_;rintro u s1 ⟨x,H1,I1,r1,q1⟩;obtain ⟨i,rfl,q⟩:=q1;obtain ⟨t,rfl⟩:=r1;exact ⟨some i,H1,I1,.int i t,q⟩
noncomputable def SlR (X:Cx) (r:V->Option Int->Option Int->Hp->VK->Prop):Prop :=
 ∀ (pins:List (Addr×Obj)) (s:Shared) (σ:St) (H:Hp) (x:V) (v vl vu:Value) (lo hi:Option Int) (sl:Addr) (Q:VK),Inv X pins σ H s->RelV x v->s.heap.IsSliceOf sl vl vu .none->IsPart vl lo->IsPart vu hi->r x lo hi H Q ->
  ∃ T id,typeLookup (.type T) "__getitem__"=pure (some (.builtin id))/\s.TypeIs v T/\wpAny (model X.prog X.w) X.A (getItem v (.ref sl)) (EP X pins σ Q) X.xe s
theorem SlR.or {r r':V->Option Int->Option Int->Hp->VK->Prop}(h:SlR X r) (h':SlR X r'):SlR X (λx lo hi H Q=>r x lo hi H Q\/r' x lo hi H Q):=by
 intro pins s σ H x v vl vu lo hi sl Q I rx hs pl pu q;rcases q with q|q
 ·exact h pins s σ H x v vl vu lo hi sl Q I rx hs pl pu q
 ·exact h' pins s σ H x v vl vu lo hi sl Q I rx hs pl pu q
noncomputable def tSl (r:V->Option Int->Option Int->Hp->VK->Prop) (te:TE) (tl th:TO):TE:=λσ H Q=>te σ H λx H1=>tl σ H1 λl H2=>th σ H2 λu H3=>r x l u H3 Q
theorem cG {r:V->Option Int->Option Int->Hp->VK->Prop}(hr:SlR X r) (he:PE X e te) (hl:PO X lo tl) (hu:PO X hi th):PE X (.Subscript e (.Slice lo hi none p2) pos) (tSl r te tl th):=by
 intro pins s σ H Q I h;refine RB (thn (he pins s σ H _ I h) ?_);rintro v s1 ⟨x,H1,I1,r1,q1⟩;refine wpAny_Slice (thn (hl pins s1 σ H1 _ I1 q1) ?_);rintro vl s2 ⟨l,H2,I2,pl,q2⟩;refine thn (hu pins s2 σ H2 _ I2 q2) ?_;rintro vu s3 ⟨u,H3,I3,pu,q3⟩;rw [MT];refine cu ?_
 have I4:Inv X pins σ H3 { s3 with heap:=s3.heap.push { cls:=.type "slice",data:=.fields #[vl,vu,.none] } }:=I3.kept (t':=s3.toks) λb ob q=>ak _ q
 obtain ⟨T,id,hT,ht,hg⟩:=hr pins { s3 with heap:=s3.heap.push { cls:=.type "slice",data:=.fields #[vl,vu,.none] } } σ H3 x v vl vu l u s3.heap.objs.size Q I4 r1 (Heap.IsSliceOf.new ..) pl pu q3
 show wpAny (model X.prog X.w) X.A (subscriptTail e (.Slice lo hi none p2) v (.ref s3.heap.objs.size)) (EP X pins σ Q) X.xe { s3 with heap:=s3.heap.push { cls:=.type "slice",data:=.fields #[vl,vu,.none] } };exact QX (ops:=[.ref s3.heap.objs.size,v]) ht hT hg (by with_unfolding_all rfl)
noncomputable def Sx (xs:List V) (lo hi:Option Int):List V:=(xs.drop (HT.sIx xs.length 0 lo)).take (HT.sIx xs.length xs.length hi - HT.sIx xs.length 0 lo)
theorem Lg (xs:List V) (lo hi:Option Int):(Sx xs lo hi).length<=xs.length:=by
 unfold Sx;rw [jj,vy];omega
noncomputable def Ae2 (K:aj):V->Option Int->Option Int->Hp->VK->Prop:=λx lo hi H Q=>∃ a xs,x=.ref a/\SqT K H a xs /\
 ¬ (HT.sIx xs.length 0 lo=0/\HT.sIx xs.length xs.length hi=xs.length)/\∀ p,H p=none->Q (.ref p) (upd H p (.tup (Sx xs lo hi)))
theorem wR:SlR X (Ae2 X.K):=by
 intro pins s σ H x v vl vu lo hi sl Q I rx hs pl pu h;obtain ⟨a,xs,rfl,hx,hw,q⟩:=h;cases rx;obtain ⟨its,r,ht,hz⟩:=I.tuple hx;have hlen:its.toArray.size=xs.length:=by rw [dm];exact r.length.symm
 refine ⟨"tuple",_,PyProof.Rows.slot_tuple_getitem.lookup,ht.typeIs,?_⟩;refine HT.getItem_tuple_cut ht hs pl pu (by rw [hlen];exact hw) ?_ (by rw [hlen];exact hz);rw [hlen];refine ⟨.ref s.heap.objs.size,_,I.laid (t':=s.toks) (o:=.tup (Sx xs lo hi)) (λb ob q=>ak _ q) (cg _) ?_,rfl,q _ (I.hok.fresh (cg _))⟩;exact ⟨ig (Lg xs lo hi) hz,_,(r.drop (HT.sIx xs.length 0 lo)).take (HT.sIx xs.length xs.length hi - HT.sIx xs.length 0 lo),Mu.new _ _⟩
noncomputable def Acn (K:aj):R2:=λx y H Q=>∃ a b xs ys,x=.ref a/\y=.ref b/\SqT K H a xs/\SqT K H b ys/\xs≠[]/\xs.length+ys.length<=sizeLine /\
 (ys=[]->Q (.ref a) H)/\(ys≠[]->∀ p,H p=none->Q (.ref p) (upd H p (.tup (xs++ys))))
theorem Vals.nil_iff {xs:List V}{us:List Value}(r:Vals xs us):us=[] ↔ xs=[]:=by
 cases r with
 | nil=>simp
 | cons _ _=>simp
theorem oO:OpR X (binaryOp .Add) (Acn X.K):=by
 intro pins s σ H x y v u Q I rx ry h;obtain ⟨a,b,xs,ys,rfl,rfl,ha,hb,hx,hz,q1,q2⟩:=h;cases rx;cases ry;obtain ⟨its,r1,p1,_⟩:=I.tuple ha;obtain ⟨its2,r2,p2,_⟩:=I.tuple hb;refine HT.cat_tup p1 p2 (λz=>hx (r1.nil_iff.mp z)) (λz=>⟨.ref a,H,I,rfl,q1 (r2.nil_iff.mp z)⟩) (λz=>?_) (by rw [← r1.length,← r2.length];exact hz);refine ⟨.ref s.heap.objs.size,_,I.laid (t':=s.toks) (o:=.tup (xs++ys)) (λb ob q=>ak _ q) (cg _) ?_,rfl,q2 (λw=>z (r2.nil_iff.mpr w)) _ (I.hok.fresh (cg _))⟩;exact ⟨by rw [bh];exact hz,_,r1.append r2,Mu.new _ _⟩
end
noncomputable def ixN (n:Nat) (i:Int):Option Nat:=if 0<=i then (if i < n then some i.toNat else none) else if -(n:Int)<=i then some (i+n).toNat else none
noncomputable def atI {α:Type}(xs:List α) (i:Int):Option α:=(ixN xs.length i).bind λj=>xs[j]?
theorem Qd {n:Nat}{i:Int}{j:Nat}(h:ixN n i=some j):seqIndex? i n=some j/\j < n/\-(n:Int)<=i/\i < n:=by
 unfold ixN at h
 by_cases h0:0<=i
 ·rw [if_pos h0] at h
  by_cases h1:i < n
  ·rw [if_pos h1] at h;have e:i.toNat=j:=Option.some.inj h;exact ⟨by rw [QV h0 h1,e],by omega,by omega,h1⟩
  ·rw [if_neg h1] at h;cases h
 ·rw [if_neg h0] at h
  by_cases h1:-(n:Int)<=i
  ·rw [if_pos h1] at h;have e:(i+n).toNat=j:=Option.some.inj h;exact ⟨by rw [QB (by omega) h1,e],by omega,h1,by omega⟩
  ·rw [if_neg h1] at h;cases h
theorem Qe {α:Type}{xs:List α}{i:Int}{v:α}(h:atI xs i=some v):∃ j,seqIndex? i xs.length=some j/\xs[j]?=some v/\j < xs.length/\-(xs.length:Int)<=i/\i < xs.length:=by
 unfold atI at h;cases e:ixN xs.length i with
 | none=>rw [e] at h;cases h
 | some j =>
  rw [e] at h;obtain ⟨h1,h2,h3,h4⟩:=Qd e;exact ⟨j,h1,h,h2,h3,h4⟩
theorem Qf {α:Type}{xs:List α}{j:Nat}{v:α}(h:xs[j]?=some v):atI xs (j:Int)=some v:=by
 have hj:j < xs.length:=(bf.mp h).1;have e:ixN xs.length (j:Int)=some j:=by
  unfold ixN;rw [if_pos (by omega),if_pos (by omega)];simp
 unfold atI;rw [e];exact h
noncomputable def Qg (b:Expr):Prop:=∀ o i,subscripted b false o i=operate [o,i] (getItem o i)
noncomputable def IxR (X:Cx) (r:R2):Prop :=
 ∀ (value slice:Expr) (pins:List (Addr×Obj)) (s:Shared) (σ:St) (H:Hp) (x y:V) (v u:Value) (Q:VK),Inv X pins σ H s->RelV x v->RelV y u->r x y H Q ->
  subscripted slice false v u=operate [v,u] (getItem v u)->wpAny (model X.prog X.w) X.A (subscriptTail value slice v u) (EP X pins σ Q) X.xe s
noncomputable def MtR (X:Cx) (id:String) (r:V->List V->Hp->VK->Prop):Prop :=
 ∀ (pins:List (Addr×Obj)) (s:Shared) (σ:St) (H:Hp) (x:V) (xs:List V) (v:Value) (us:List Value) (Q:VK),Inv X pins σ H s->RelV x v->Vals xs us->r x xs H Q ->
  wpAny (model X.prog X.w) X.A (call (.builtin id) (v::us)) (EP X pins σ Q) X.xe s
section
variable {X:Cx}{a b:Expr}{ta tb:TE}{pos:Pos}
theorem IxR.or {r r':R2}(h:IxR X r) (h':IxR X r'):IxR X (λx y H Q=>r x y H Q\/r' x y H Q):=by
 intro value slice pins s σ H x y v u Q I rx ry q hs;rcases q with q|q
 ·exact h value slice pins s σ H x y v u Q I rx ry q hs
 ·exact h' value slice pins s σ H x y v u Q I rx ry q hs
theorem Aco {r:R2}(hr:IxR X r) (ha:PE X a ta) (hb:PE X b tb) (hs:Qg b):PE X (.Subscript a b pos) (tOp r ta tb):=by
 intro pins s σ H Q I h;exact RB (wB ha hb I h λv u s2 x y H2 I2 rx ry q=>hr a b pins s2 σ H2 x y v u Q I2 rx ry q (hs _ _))
noncomputable def Acp (K:aj):R2:=λx y H Q=>∃ p xs i v,x=.ref p/\y=.int i/\SqL K H p xs/\atI xs i=some v/\Q v H
noncomputable def Acq (K:aj):R2:=λx y H Q=>∃ p xs i v,x=.ref p/\y=.int i/\SqT K H p xs/\atI xs i=some v/\Q v H
noncomputable def Acr:R2:=λx y H Q=>∃ z i c,x=.str z/\y=.int i/\z.length<=sizeLine/\atI z.cps.toList i=some c/\Q (.str ⟨#[c]⟩) H
theorem oR:IxR X (Acp X.K):=by
 intro value slice pins s σ H x y v u Q I rx ry h hs;obtain ⟨p,xs,i,z,rfl,rfl,hq,he,q⟩:=h;cases rx;obtain ⟨t,rfl⟩:=ry;obtain ⟨its,r,pl,hz⟩:=I.list hq;obtain ⟨j,h1,h2,h3,h4,h5⟩:=Qe he;obtain ⟨w,ew,rw'⟩:=r.get h2;have hl:=r.length;have hn:=Jl;have fin:EP X pins σ Q w s:=⟨z,H,I,rw',q⟩
 by_cases h0:0<=i
 ·have hj:i.toNat=j:=by
   rw [QV h0 h5] at h1;exact Option.some.inj h1
  exact item_listR pl.isList h0 (by omega) (by rw [hj];simpa using ew) fin hs
 ·have hj:(i+(its.toArray.size:Int)).toNat=j:=by
   rw [QB (by omega) h4] at h1;rw [dm,← hl];exact Option.some.inj h1
  exact JS (x:=w) pl.isList.typeIs slot_list_getitem.lookup
   (wpAny_getItem_list_neg (Q:=λr s'=>r=w/\EP X pins σ Q r s') pl.isList (by omega) (by rw [dm] <;> omega) (by omega) (by rw [hj];simpa using ew) ⟨rfl,fin⟩) hs
theorem wU:IxR X (Acq X.K):=by
 intro value slice pins s σ H x y v u Q I rx ry h hs;obtain ⟨p,xs,i,z,rfl,rfl,hq,he,q⟩:=h;cases rx;obtain ⟨t,rfl⟩:=ry;obtain ⟨its,r,pl,hz⟩:=I.tuple hq;obtain ⟨j,h1,h2,h3,h4,h5⟩:=Qe he;obtain ⟨w,ew,rw'⟩:=r.get h2;have hl:=r.length;have hn:=Jl;have fin:EP X pins σ Q w s:=⟨z,H,I,rw',q⟩;exact JS (x:=w) pl.typeIs slot_tuple_getitem.lookup
  (getItem_tuple (j:=j) (Q:=λr s'=>r=w/\EP X pins σ Q r s') pl (by omega) (by omega) (by rw [dm,← hl];exact h1) (by simpa using ew) ⟨rfl,fin⟩) hs
theorem wW:IxR X Acr:=by
 intro value slice pins s σ H x y v u Q I rx ry h hs;obtain ⟨z,i,c,rfl,rfl,hz,he,q⟩:=h;obtain ⟨t,rfl⟩:=rx;obtain ⟨t',rfl⟩:=ry;obtain ⟨j,h1,h2,h3,h4,h5⟩:=Qe he;have hl:z.cps.toList.length=z.length:=by simp [Str.length]
 rw [hl] at h1 h4 h5;have hn:=Jl
 exact QX (typeIs_str s z t) slot_str_getitem.lookup (getItem_str (c:=c) (by
  have e1:decide (i < -(2 ^ 63:Int))=false:=decide_eq_false (by omega);have e2:decide (i ≥ 2 ^ 63)=false:=decide_eq_false (by omega)
  rw [e1,e2,Bool.or_false]) (by rw [h1];simpa using h2) ⟨.str ⟨#[c]⟩,H,I.tok _,⟨_,rfl⟩,q⟩) hs
noncomputable def rIx (K:aj):R2:=λx y H Q=>Acp K x y H Q\/Acq K x y H Q\/Acr x y H Q
theorem wX:IxR X (rIx X.K):=oR.or (wU.or wW)
theorem Vl (its:List Value) (n j:Nat) (u:Value):yc (·.setIfInBounds j u) { cls:=.type "list",data:=.seq its.toArray n }={ cls:=.type "list",data:=.seq (its.set j u).toArray n }:=by
 simp [yc]
theorem Inv.lst {pins:List (Addr×Obj)}{σ:St}{H:Hp}{s:Shared}{p:Addr}{xs:List V}(I:Inv X pins σ H s) (h:H p=some (.lst xs)) :
  ∃ (its:List Value) (n:Nat),Vals xs its/\s.heap.get? p=some { cls:=.type "list",data:=.seq its.toArray n }/\xs.length<=sizeLine:=by
 obtain ⟨z,its,n,r,e⟩:=I.hok p _ h;exact ⟨its,n,r,e,z⟩
theorem Inv.lstUpd {pins:List (Addr×Obj)}{σ:St}{H:Hp}{s:Shared}{p:Addr}{xs ys:List V}{its its':List Value}{n n':Nat}{f:Obj->Obj}(I:Inv X pins σ H s) (h:H p=some (.lst xs))
  (ho:s.heap.get? p=some { cls:=.type "list",data:=.seq its.toArray n }) (hf:f { cls:=.type "list",data:=.seq its.toArray n }={ cls:=.type "list",data:=.seq its'.toArray n' }) (r:Vals ys its') (hz:ys.length<=sizeLine) (t:Nat) :
  Inv X pins σ (upd H p (.lst ys)) { s with heap:=s.heap.update p f,toks:=t }:=by
 have e:(s.heap.update p f).get? p=some { cls:=.type "list",data:=.seq its'.toArray n' }:=by
  rw [JZ f ho (by rw [hf] <;> rfl),hf]
 refine I.write (x:=p) (e:=p) (by rw [h];trivial) (.inl rfl) (λb u hb q=>(JT _ _ (Ne.symm hb)).trans q) ⟨_,e⟩ ?_;exact ⟨hz,its',n',r,e⟩
noncomputable def Acs:V->V->V->Hp->(Hp->Prop)->Prop:=λo i v H Q=>∃ p xs k j,o=.ref p/\i=.int k/\H p=some (.lst xs)/\ixN xs.length k=some j/\Q (upd H p (.lst (xs.set j v)))
theorem set_list:Ab7 X Acs:=by
 intro pins s σ H o i v ov iv u Q I ro ri rv h;obtain ⟨p,xs,k,j,rfl,rfl,hp,hj,q⟩:=h;cases ro;obtain ⟨t,rfl⟩:=ri;obtain ⟨its,n,r,ho,hz⟩:=I.lst hp;obtain ⟨h1,h2,h3,h4⟩:=Qd hj;have hl:=r.length;have hn:=Jl;have I':Inv X pins σ (upd H p (.lst (xs.set j v))) { s with heap:=s.heap.update p (yc (·.setIfInBounds j u)) } :=
  I.lstUpd hp ho (Vl its n j u) (r.set rv j) (by rw [iw];exact hz) s.toks
 by_cases h0:0<=k
 ·have hk:k.toNat=j:=by
   rw [QV h0 h4] at h1;exact Option.some.inj h1
  exact PySem.W.ki_setAt ho h0 (by omega) (by rw [dm,← hl];exact h4) (by rw [hk];exact ⟨_,I',q⟩)
 ·have hk:(k+(its.toArray.size:Int)).toNat=j:=by
   rw [QB (by omega) h3] at h1;rw [dm,← hl];exact Option.some.inj h1
  exact PySem.W.ki_setBack ho (by omega) (by rw [dm,← hl];exact h3) (by omega) (by rw [hk];exact ⟨_,I',q⟩)
theorem Qh (lo hi:Option Int) (n:Nat):(sliceBounds lo hi none n).1=((HT.sIx n 0 lo:Nat):Int)/\(sliceBounds lo hi none n).2.1=((HT.sIx n n hi:Nat):Int)/\(sliceBounds lo hi none n).2.2=1:=by
 refine ⟨?_,?_,rfl⟩
 ·cases lo with
  | none=>simp [sliceBounds,HT.sIx]
  | some i =>
   simp only [sliceBounds,HT.sIx,Option.getD_none,show (1:Int) > 0 by decide,if_true]
   by_cases h:i < 0
   ·simp only [h,if_true] <;> omega
   ·simp only [h,if_false] <;> omega
 ·cases hi with
  | none=>simp [sliceBounds,HT.sIx]
  | some i =>
   simp only [sliceBounds,HT.sIx,Option.getD_none,show (1:Int) > 0 by decide,if_true]
   by_cases h:i < 0
   ·simp only [h,if_true] <;> omega
   ·simp only [h,if_false] <;> omega
theorem Oe (its:List Value) (lo hi:Option Int):slicePick its.toArray lo hi none=((its.drop (HT.sIx its.length 0 lo)).take (HT.sIx its.length its.length hi - HT.sIx its.length 0 lo)).toArray:=by
 obtain ⟨h1,h2,h3⟩:=Qh lo hi its.toArray.size;unfold slicePick;rw [h1,h2,h3];simp only [sliceRange_one,pick_run,dm] <;> rfl
noncomputable def Ae3 (K:aj):V->Option Int->Option Int->Hp->VK->Prop:=λx lo hi H Q=>∃ a xs,x=.ref a/\SqL K H a xs/\∀ p,H p=none->Q (.ref p) (upd H p (.lst (Sx xs lo hi)))
theorem oU:SlR X (Ae3 X.K):=by
 intro pins s σ H x v vl vu lo hi sl Q I rx hs pl pu h;obtain ⟨a,xs,rfl,hx,q⟩:=h;cases rx;obtain ⟨its,r,ht,hz⟩:=I.list hx;have hlen:=r.length
 refine ⟨"list",_,slot_list_getitem.lookup,ht.isList.typeIs,?_⟩;refine HX ht.isList hs pl pu .none (by simp) ?_ (by rw [dm] <;> omega);rw [Oe,← hlen];refine ⟨.ref s.heap.objs.size,_,I.laid (t':=s.toks) (o:=.lst (Sx xs lo hi)) (λb ob q=>ak _ q) (cg _) ?_,rfl,q _ (I.hok.fresh (cg _))⟩;exact ⟨ig (Lg xs lo hi) hz,_,0,(r.drop (HT.sIx xs.length 0 lo)).take (HT.sIx xs.length xs.length hi - HT.sIx xs.length 0 lo),dh _ rfl⟩
theorem Qi:Br X (.builtin "len") (λxs H Q=>∃ p ys,xs=[.ref p]/\(SqL X.K H p ys\/SqT X.K H p ys)/\Q (.int ys.length) H):=by
 intro pins s σ H xs us Q I r h;obtain ⟨p,ys,rfl,hq,q⟩:=h;obtain ⟨u,rfl,rx⟩:=vals1 r;cases rx;have hn:=Jl;rcases hq with hq|hq
 ·obtain ⟨its,r',pl,hz⟩:=I.list hq;have hlen:=r'.length;exact Calls.call_len_list pl.isList (by simp only [dm] <;> omega) ⟨.int ys.length,H,I.tok _,⟨s.toks+1,by rw [dm,hlen]⟩,q⟩
 ·obtain ⟨its,r',pl,hz⟩:=I.tuple hq;have hlen:=r'.length;exact len_tuple pl (by simp only [dm] <;> omega) ⟨.int ys.length,H,I.tok _,⟨s.toks+1,by rw [dm,hlen]⟩,q⟩
theorem Qj:Br X (.builtin "len") (λxs H Q=>∃ z,xs=[.str z]/\z.length<=sizeLine/\Q (.int z.length) H):=by
 intro pins s σ H xs us Q I r h;obtain ⟨z,rfl,hz,q⟩:=h;obtain ⟨u,rfl,t,rfl⟩:=vals1 r;have hn:=Jl;exact len_str (by omega) ⟨.int z.length,H,I.tok _,⟨_,rfl⟩,q⟩
theorem Br.or {f:Value}{r r':List V->Hp->VK->Prop}(h:Br X f r) (h':Br X f r'):Br X f (λxs H Q=>r xs H Q\/r' xs H Q):=by
 intro pins s σ H xs us Q I rs q;rcases q with q|q
 ·exact h pins s σ H xs us Q I rs q
 ·exact h' pins s σ H xs us Q I rs q
theorem Qk:Br X (.type "list") (λxs H Q=>∃ p ys,xs=[.ref p]/\(SqL X.K H p ys\/SqT X.K H p ys)/\∀ l,H l=none->Q (.ref l) (upd H l (.lst ys))):=by
 intro pins s σ H xs us Q I r h;obtain ⟨p,ys,rfl,hq,q⟩:=h;obtain ⟨u,rfl,rx⟩:=vals1 r;cases rx;have fin:∀ (its:List Value),Vals ys its->ys.length<=sizeLine->∀ (h':Heap) (c':Nat),(∀ b o',s.heap.get? b=some o'->h'.get? b=some o') ->
   h'.get? s.heap.objs.size=some { cls:=.type "list",dict:=none,data:=.seq its.toArray c',slots:=#[] }->EP X pins σ Q (.ref s.heap.objs.size) { s with heap:=h' }:=λits r' hz h' c' kp e =>
  ⟨.ref s.heap.objs.size,_,I.laid (t':=s.toks) kp (cg _) (show Fj X.prog X.w _ h' _ (.lst ys) from ⟨hz,its,c',r',e⟩),rfl,q _ (I.hok.fresh (cg _))⟩
 rcases hq with hq|hq
 ·obtain ⟨its,r',pl,hz⟩:=I.list hq;have hlen:=r'.length;obtain ⟨o,ho,hc,n,hd⟩:=pl.isList;exact call_list_seq p (.inl rfl) ho hc hd (λh' c' kp e=>fin its r' hz h' c' kp e) (by simp only [dm] <;> omega)
 ·obtain ⟨its,r',pl,hz⟩:=I.tuple hq;have hlen:=r'.length;obtain ⟨o,ho,hc,n,hd⟩:=pl;exact call_list_seq p (.inr rfl) ho hc hd (λh' c' kp e=>fin its r' hz h' c' kp e) (by simp only [dm] <;> omega)
theorem Og:Br X (.type "tuple") (λxs H Q=>∃ p ys,xs=[.ref p]/\((SqL X.K H p ys/\∀ l,H l=none->Q (.ref l) (upd H l (.tup ys)))\/(SqT X.K H p ys/\Q (.ref p) H))):=by
 intro pins s σ H xs us Q I r h;obtain ⟨p,ys,rfl,h⟩:=h;obtain ⟨u,rfl,rx⟩:=vals1 r;cases rx;rcases h with ⟨hq,q⟩|⟨hq,q⟩
 ·obtain ⟨its,r',pl,hz⟩:=I.list hq;have hlen:=r'.length;refine call_tuple_list pl.isList (λh' kp=>?_) (by simp only [dm] <;> omega);have I1:Inv X pins σ H { s with heap:=h' }:=I.kept (t':=s.toks) kp
  have I2:Inv X pins σ (upd H h'.objs.size (.tup ys)) { s with heap:=h'.push { cls:=.type "tuple",data:=.seq its.toArray } } :=
   I1.laid (t':=s.toks) (λb o e=>ak _ e) (cg _) (show Fj X.prog X.w _ _ _ (.tup ys) from ⟨hz,its,r',Mu.new _ _⟩)
  exact ⟨.ref h'.objs.size,_,I2,rfl,q _ (I1.hok.fresh (cg _))⟩
 ·obtain ⟨its,r',pl,hz⟩:=I.tuple hq;exact call_tuple_same pl ⟨.ref p,H,I,rfl,q⟩
noncomputable def tyV (K:aj) (T:String) (x:V) (H:Hp):Prop:=match x with
 | .str _=>T = "str"
 | .int _=>T = "int"
 | .ref p=>(T = "list"/\∃ xs,SqL K H p xs)\/(T = "tuple"/\∃ xs,SqT K H p xs) \/
   (T = "dict"/\((∃ kvs,H p=some (.dK kvs))\/∃ kvs,H p=some (.dT kvs)))\/(T = "set"/\∃ S n,H p=some (.set S n))
 | _=>False
theorem cH {pins:List (Addr×Obj)}{σ:St}{H:Hp}{s:Shared}{T:String}{x:V}{v:Value}(I:Inv X pins σ H s) (r:RelV x v) (ty:tyV X.K T x H) :
  s.TypeIs v T/\∀ a,v=.ref a->∃ ob,s.heap.get? a=some ob/\ob.dict=none:=by
 cases x with
 | str z =>
  obtain ⟨t,rfl⟩:=r
  cases (show T = "str" from ty);exact ⟨typeIs_str s z t,λ_ e=>nomatch e⟩
 | int i =>
  obtain ⟨t,rfl⟩:=r
  cases (show T = "int" from ty);exact ⟨typeIs_int s i t,λ_ e=>nomatch e⟩
 | ref p =>
  cases r;rcases ty with ⟨rfl,xs,hq⟩|⟨rfl,xs,hq⟩|⟨rfl,hk⟩|⟨rfl,S,n,hk⟩
  ·obtain ⟨its,_,pl,_⟩:=I.list hq;refine ⟨pl.isList.typeIs,λa e=>?_⟩;cases e;obtain ⟨o,n,e,c,hd,_⟩:=pl;exact ⟨o,e,hd⟩
  ·obtain ⟨its,_,⟨o,e,c,d,n,dd⟩,_⟩:=I.tupleP hq;refine ⟨⟨o,e,c⟩,λa e2=>?_⟩;cases e2;exact ⟨o,e,d⟩
  ·have z:∃ o,s.heap.get? p=some o/\o.ExactDict:=by
    rcases hk with ⟨kvs,hk⟩|⟨kvs,hk⟩
    ·obtain ⟨_,_,_,_,o,_,_,e,ex,_⟩:=I.hok p _ hk;exact ⟨o,e,ex⟩
    ·obtain ⟨_,_,_,_,o,_,_,e,ex,_⟩:=I.hok p _ hk;exact ⟨o,e,ex⟩
   obtain ⟨o,e,ex⟩:=z;refine ⟨⟨o,e,ex.1⟩,λa e2=>?_⟩;cases e2;exact ⟨o,e,ex.2.1⟩
  ·obtain ⟨o,_,_,_,e,ex,_⟩:=I.hok p _ hk;refine ⟨⟨o,e,ex.1⟩,λa e2=>?_⟩;cases e2;exact ⟨o,e,ex.2.1⟩
 | _=>exact False.elim ty
noncomputable def Ae4 (K:aj) (T:String) (r:V->List V->Hp->VK->Prop) (to:TE):TE:=λσ H Q=>to σ H λx H1=>tyV K T x H1/\r x [] H1 Q
noncomputable def tBM (K:aj) (T:String) (r:V->List V->Hp->VK->Prop) (to:TE) (t:TA):TE:=λσ H Q=>to σ H λx H1=>tyV K T x H1/\t σ H1 λxs H2=>r x xs H2 Q
variable {o e:Expr}{es:List Expr}{to:TE}{t:TA}{name:Str}{apos cpos:Pos}{T id:String}{r:V->List V->Hp->VK->Prop}
theorem wY (pa:PlainAttrs T) (slot:Slot T name id) (hty:typeOf (.builtin id)=pure (.type "method_descriptor")) (hm:MtR X id r) (ho:PE X o to)
  (hbase:attributeBase o name X.env (eval o X.env)=eval o X.env:=by rfl) (hline:(apos.endLine==cpos.line)=true:=by rfl):PE X (.Call (.Attribute o name apos) [] [] cpos) (Ae4 X.K T r to):=by
 intro pins s σ H Q I h;refine wpAny_Call_method0_late hbase hline (thn (ho pins s σ H _ I h) ?_);rintro v s1 ⟨x,H1,I1,r1,ty,q1⟩;obtain ⟨h1,h2⟩:=cH I1 r1 ty;exact ⟨T,id,pa,slot,hty,h1,h2,JV rfl (PySem.evalArgs_none (hm pins s1 σ H1 x [] v [] Q I1 r1 .nil q1))⟩
theorem Acu (pa:PlainAttrs T) (slot:Slot T name id) (hty:typeOf (.builtin id)=pure (.type "method_descriptor")) (hm:MtR X id r) (ho:PE X o to) (ha:PA X (e::es) t)
  (hbase:attributeBase o name X.env (eval o X.env)=eval o X.env:=by rfl)
  (hfew:((backTo cpos (starEach (e::es) X.env)).all (λx=>!x.1)&&(backToKw cpos (keywordEach [] X.env)).all (λx=>x.1.isSome)
   && decide ((e::es).length+([]:List Keyword).length+(if ([]:List Keyword).isEmpty then 0 else 1) < 30))=true:=by rfl)
  (hline:(apos.endLine==cpos.line)=true:=by rfl) (hs:starEach (e::es) X.env=(false,eval e X.env)::starEach es X.env:=by rfl) (hplain:(backTo cpos (starEach es X.env)).any (·.1)=false:=by rfl) :
  PE X (.Call (.Attribute o name apos) (e::es) [] cpos) (tBM X.K T r to t):=by
 intro pins s σ H Q I h;refine wpAny_Call_method_late hbase hfew hline rfl (thn (ho pins s σ H _ I h) ?_);rintro v s1 ⟨x,H1,I1,r1,ty,q1⟩;obtain ⟨h1,h2⟩:=cH I1 r1 ty;refine ⟨T,id,pa,slot,hty,h1,h2,?_⟩;have hA:=ha cpos pins s1 σ H1 _ I1 q1;rw [hs] at hA ⊢;refine JV (by show (false || (backTo cpos (starEach es X.env)).any (·.1))=false;rw [hplain] <;> rfl) (Calls.evalArgs_plain ?_);refine thn hA ?_;rintro us s2 ⟨vs,H2,I2,r2,q2⟩;exact hm pins s2 σ H2 x vs v us Q I2 r1 r2 q2
end
noncomputable def MtM (X:Cx) (id:String) (r:V->List V->Hp->VK->Prop):Prop :=
 ∀ (pins:List (Addr×Obj)) (s:Shared) (σ:St) (H:Hp) (x:V) (xs:List V) (v:Value) (us:List Value) (Q:VK),Inv X pins σ H s->RelV x v->Vals xs us->r x xs H Q ->
  wpAny (model X.prog X.w) X.A (call (.builtin id) (v::us)) (EP X pins σ Q) X.xe s
theorem Vals.one {x:V}{us:List Value}(h:Vals [x] us):∃ u,us=[u]/\RelV x u:=by
 cases h with
 | cons r t=>cases t;exact ⟨_,rfl,r⟩
theorem Vals.two {x y:V}{us:List Value}(h:Vals [x,y] us):∃ u v,us=[u,v]/\RelV x u/\RelV y v:=by
 cases h with
 | cons r t =>
  obtain ⟨v,e,q⟩:=Vals.one t;subst e;exact ⟨_,_,rfl,r,q⟩
theorem Vals.eraseIdx:∀ {xs:List V}{us:List Value}(i:Nat),Vals xs us->Vals (xs.eraseIdx i) (us.eraseIdx i)
 | _,_,_,.nil=>.nil
 | _,_,0,.cons _ t=>t
 | _,_,i+1,.cons r t=>.cons r (Vals.eraseIdx i t)
theorem Vals.reverse {xs:List V}{us:List Value}(h:Vals xs us):Vals xs.reverse us.reverse:=by
 induction h with
 | nil=>exact .nil
 | cons r t ih=>rw [BK,BK];exact Vals.append ih (.cons r .nil)
theorem Ov {α:Type}:∀ (l:List α) (i:Nat),(l.eraseIdx i).length<=l.length
 | [],_=>cg _
 | _::_,0=>sy _
 | _::r,i+1=>Nat.succ_le_succ (Ov r i)
section
variable {X:Cx}{pins:List (Addr×Obj)}{σ:St}{H:Hp}{s:Shared}{l b:Addr}{xs ys zs:List V}
theorem Inv.lset {its its':List Value}{n:Nat}{f:Array Value->Array Value}{t':Nat}(I:Inv X pins σ H s) (hH:H l=some (.lst xs))
  (e:s.heap.get? l=some { cls:=.type "list",data:=.seq its.toArray n }) (hf:f its.toArray=its'.toArray) (hv:Vals ys its') (hz:ys.length<=sizeLine) :
  Inv X pins σ (upd H l (.lst ys)) { s with heap:=s.heap.update l (yc f),toks:=t' }:=by
 have q:=PySem.IsL.update e f;rw [hf] at q;refine I.write (x:=l) (e:=l) (by rw [hH];exact trivial) (.inl rfl) (λb' u hb hu=>(JT s.heap (yc f) (Ne.symm hb)).trans hu) ⟨_,q⟩ ?_;exact ⟨hz,its',_,hv,q⟩
theorem Inv.lnew {its:List Value}{t':Nat}(I:Inv X pins σ H s) (hv:Vals ys its) (hz:ys.length<=sizeLine) :
  Inv X pins σ (upd H s.heap.objs.size (.lst ys)) { s with heap:=s.heap.push { cls:=.type "list",data:=.seq its.toArray },toks:=t' } :=
 I.laid (λ_ _ q=>ak _ q) (cg _) ⟨hz,its,0,hv,dh _ rfl⟩
theorem Inv.fresh (I:Inv X pins σ H s):H s.heap.objs.size=none:=I.hok.fresh (cg _)
theorem Inv.lstM (I:Inv X pins σ H s) (hH:H l=some (.lst xs)):xs.length<=sizeLine/\∃ (its:List Value) (n:Nat),Vals xs its/\xs.length=its.length/\s.heap.get? l=some { cls:=.type "list",data:=.seq its.toArray n }:=by
 obtain ⟨z,its,n,r,e⟩:=I.hok l _ hH;exact ⟨z,its,n,r,r.length,e⟩
end
section
variable {X:Cx}
noncomputable def oV:V->List V->Hp->VK->Prop:=λx vs H Q=>∃ l xs y,x=.ref l/\vs=[y]/\H l=some (.lst xs)/\xs.length < sizeLine/\Q .non (upd H l (.lst (xs++[y])))
theorem Y6:MtM X "list.append" oV:=by
 intro pins s σ H x vs v us Q I rx rv h;obtain ⟨l,xs,y,rfl,rfl,hH,hz,q⟩:=h;cases rx;obtain ⟨u,rfl,ru⟩:=rv.one;obtain ⟨z,its,n,r,hl,e⟩:=I.lstM hH;refine LK F.slot_list_append ⟨_,e,rfl⟩ F.entry_list_append (F.args_list_append_2 _ _) (PySem.list_append l its.toArray n u (by rw [dm];omega)) ⟨e,?_⟩;refine ⟨.non,_,I.lset (its':=its++[u]) hH e (by simp) (r.append (.cons ru .nil)) ?_,rfl,q⟩;rw [bh,um];omega
noncomputable def wZ:V->List V->Hp->VK->Prop:=λx vs H Q=>∃ l xs i k y,x=.ref l/\vs=[.int i]/\H l=some (.lst xs)/\-(2 ^ 63)<=i/\i < 2 ^ 63/\seqIndex? i xs.length=some k/\xs[k]?=some y/\Q y (upd H l (.lst (xs.eraseIdx k)))
theorem cI:MtM X "list.pop" wZ:=by
 intro pins s σ H x vs v us Q I rx rv h;obtain ⟨l,xs,i,k,y,rfl,rfl,hH,h1,h2,hk,hy,q⟩:=h;cases rx;obtain ⟨u,rfl,ru⟩:=rv.one;obtain ⟨t,rfl⟩:=ru;obtain ⟨z,its,n,r,hl,e⟩:=I.lstM hH;obtain ⟨w,hw,rw'⟩:=r.get hy;refine LK F.slot_list_pop ⟨_,e,rfl⟩ F.entry_list_pop (F.args_list_pop_2 _ _)
  (MeetsSeq.list_pop_at l its.toArray n i t k w (fitsIndex_both h1 h2) (by rw [dm,← hl];exact hk) (by rw [← KC];exact hw) (by rw [dm];omega)) ⟨e,?_⟩
 refine ⟨y,_,I.lset (its':=its.eraseIdx k) hH e ?_ (r.eraseIdx k) ?_,rw',q⟩
 ·show its.toArray.eraseIdxIfInBounds k=(its.eraseIdx k).toArray;rw [List.eraseIdxIfInBounds_toArray]
 ·have:=Ov xs k;omega
noncomputable def Ae5:R2:=λx y H Q=>∃ l b xs zs,x=.ref l/\y=.ref b/\H l=some (.lst xs)/\H b=some (.lst zs)/\xs.length+zs.length<=sizeLine/\∀ p,H p=none->Q (.ref p) (upd H p (.lst (xs++zs)))
theorem xG:OpR X (binaryOp .Add) Ae5:=by
 intro pins s σ H x y v u Q I rx ry h;obtain ⟨l,b,xs,zs,rfl,rfl,hH,hB,hz,q⟩:=h;cases rx;cases ry;obtain ⟨z,its,n,r,hl,e⟩:=I.lstM hH;obtain ⟨z2,its2,n2,r2,hl2,e2⟩:=I.lstM hB;refine PySem.P.add_list e e2 ?_ (by rw [dm,dm];omega);have ea:its.toArray++its2.toArray=(its++its2).toArray:=by simp
 rw [ea];exact ⟨.ref _,_,I.lnew (t':=s.toks) (r.append r2) (by rw [bh];omega),rfl,q _ I.fresh⟩
end
section
variable {prog:Program}{w:World}{A:Around}{E:Value->Shared->Prop}{s:Shared}
end
section
variable {X:Cx}
end
end L2
namespace Att
open PySem PySem.W PySem.Calls PyProof.Rows
theorem Lz {P:Params}{h:Heap}:∀ (ns:List Int) (vs:List Value),WellAll P h vs (ns.map WData.int)->IntsAre vs ns:=by
 intro ns
 induction ns with
 | nil =>
  intro vs w;rw [PX] at w;cases w;exact .nil
 | cons n ns ih =>
  intro vs w;rw [mq] at w;cases w with
  | cons a b =>
   cases a;exact .cons _ _ (ih _ b)
theorem Y7 {l:OpenLaw}{n:Nat}(hn:l.most=some n) {P:Params}{h:Heap}{args:List WData}{vals:List Value}
  (hpre:l.row.toRowW.claim.pre args=true) (hwl:WellAll P h vals args) :
  ∃ a vs ns,vals=[Value.ref a]/\args=[WData.list (ns.map WData.int)]/\h.get? a=some { cls:=.type "list",data:=.seq vs.toArray }/\IntsAre vs ns/\ns.length<=n:=by
 have hsh:WShape.hasAll [] args [.list .int]=true:=(pre_splitW hpre).1;have hc:l.pre.holds [] { args:=args }=true:=(pre_splitW hpre).2;obtain ⟨d,r,rfl,h1,h2⟩:=hasAllW_cons hsh;obtain rfl:=hasAllW_nil h2;obtain ⟨xs,rfl,h3⟩:=hasW_list h1;obtain ⟨ns,rfl⟩:=items_int h3;have hlen:ns.length<=n:=by
  unfold OpenLaw.pre at hc;have h4:(WTm.not (.lt (.lit (.int (n:Int))) (.len (.arg 0)))).holds [] { args:=[.list (ns.map .int)] }=true:=by
   have h4:=(holds_andW hc).1;rw [hn] at h4;exact h4
  have h5:=condW_of h4 (w_not (w_lt w_lit (w_len_list (w_arg rfl))));rw [aq] at h5;refine Nat.le_of_not_lt λq=>?_
  have q':(n:Int) < ((ns.length:Nat):Int):=by omega
  first
   | (rw [decide_eq_true q'] at h5;exact absurd h5 (by decide))
   | (simp at h5;omega)
 cases hwl with
 | cons w1 w2 =>
  cases w2;cases w1 with
  | list ho hall=>exact ⟨_,_,ns,rfl,rfl,ho,Lz ns _ hall,hlen⟩
theorem Y8 (l:OpenLaw) (args:List WData):l.row.toRowW.claim.post args (.bool true) args=true :=
 postW_of (r:=l.row.toRowW) (X:=(true==true))
  (show WShape.has [] (.bool true) .bool=true by first | rfl | decide | simp [WShape.has,WShape.arms,WShape.armsAll])
  (show (WTm.eq .res (.lit (.bool true))).value [] { args:=args,res:=some (.bool true),after:=args }=some (.bool (true==true)) from w_eq_bool (w_res rfl) w_lit) rfl
theorem attach_call {l:OpenLaw}{n:Nat}{q:Program}{loose:List Str}{XP:(Str->Option Value)->Heap->Prop}{YP:World->Heap->Prop}{d:DefRec}
  (hn:l.most=some n) (hdf:d.params.defaults=[])
  (call:∀ (w:World) (s₀ s₁:Shared) (mg mb:Str->Option Value) (fa:Addr) (o:Obj) (pm cd doc:Value) (a:Addr) (vs:List Value) (ns:List Int),
   Ground q loose [] XP w s₀ mg mb s₁.heap->YP w s₁.heap ->
   s₁.heap.get? fa=some o->o.data=.func (docDef d.name d.params d.body d.scope pm cd doc)->s₁.heap.CodeRec cd d.name->mg d.name=some (.ref fa) ->
   s₁.heap.get? a=some { cls:=.type "list",data:=.seq vs.toArray }->IntsAre vs ns->ns.length<=n->s₁.gens=#[] ->
   codeAny (model l.prog w) callerA (.call (.ref fa) ⟨[.ref a],[]⟩) (λr s'=>r=.ok (.ret (.bool true))/\OldK s₁.heap s'.heap/\s'.os=s₁.os/\AllBare s'.gens) s₁) :
  WalkO q loose XP YP l.row.toRowW d [] (λf vs=>PySem.call f vs):=by
 intro w s₀ s₁ mg mb G Y fa o pm cd doc dV kV ho hd hcd hD hmg hg args vals as hpre hlay hrd hwl hlo;obtain rfl:dV=.none:=Dflts.none hD hdf;obtain rfl:kV=.none:=Dflts.noKw hD;obtain ⟨a,vs,ns,rfl,rfl,hobj,hints,hlen⟩:=Y7 hn hpre hwl;refine enter_call (HJ (call w s₀ s₁ mg mb fa o pm cd doc a vs ns G Y ho (fd_plain hd) hcd hmg hobj hints hlen hg) λr s' hq=>?_);obtain ⟨rfl,h2,h3,h4⟩:=hq;exact ⟨.inl ⟨.bool true,.bool true,[],rfl,λ_=>rfl,.bool true,Y8 l _,λ_=>⟨List.Pairwise.nil,λ_ hm=>(nomatch hm)⟩⟩,h2,h3,h4⟩
section
variable {prog:Program}{w:World}{A:Around}{E:Value->Shared->Prop}{s:Shared}{K:Frag}
end
end Att
namespace L2
open PySem PySem.Spec PyProof.Rows
theorem Gu:∀ {vs:List Value}{ns:List Int},IntsAre vs ns->Vals (ns.map V.int) vs
 | _,_,.nil=>.nil
 | _,_,.cons n t h=>.cons ⟨t,rfl⟩ (Gu h)
noncomputable def Fi (s:Stmt):Arguments:=match s with
 | .FunctionDef _ a _ _ _ _ _ _ _ _=>a
 | _=>{ posonlyargs:=[],args:=[],vararg:=none,kwonlyargs:=[],kw_defaults:=[],kwarg:=none,defaults:=[] }
noncomputable def Av (s:Stmt):List Stmt:=match s with
 | .FunctionDef _ _ b _ _ _ _ _ _ _=>b
 | _=>[]
noncomputable def Ag (s:Stmt):Scope:=match s with
 | .FunctionDef _ _ _ _ _ _ sc _ _ _=>sc
 | _=>{ kind:=.function,names:=[],isGenerator:=false,isCoroutine:=false }
noncomputable abbrev CX0:CXT:=λ_ _ _ _ _ _=>False
noncomputable abbrev E0:XK:=λ_ _ _=>False
theorem Ow {X:Cx}:Dj CX0 X E0:=λ_ _ _ _ _ _ _ h=>h.elim
structure Fun (K:aj) (x qual:Str) (st:Stmt) (f:Addr) (fd:FuncData):Prop where
 ex:∃ (oc:Value) (od:Option Addr) (kV doc pm:Value) (an:Option Addr) (cdv ct:Value) (osl:Array (Option Value)),
  fd=vq x qual (Fi st) (Av st) (Ag st) .none kV doc pm an cdv ct/\K.lookup f=some ⟨oc,od,.func fd,osl⟩/\vh K cdv qual=true
 kp:jm K (.ref f)=true
section
variable {P:Program}{w:World}{K:aj}{mg:Str->Option Value}{base:Heap}
theorem Fun.ok {x qual:Str}{st:Stmt}{f:Addr}{fd:FuncData}{N ps:List Str}{k:Nat}{sp:Sp}(F:Fun K x qual st f fd) (S:FnScope N ps (Ag st)) (len:∀ vs H Q E,sp vs H Q E->vs.length=ps.length)
  (hbody:∀ (cdv:Value) (A:Around) (outer:List Env) (s:Shared) (H:Hp) (vs:List V) (Q:VK) (E:XK),Room k (A.deeper (envOfC qual (Ag st) s.heap.objs.size f cdv))->sp vs H Q E ->
   ∃ t,PSs (Jw CX0 P w K mg base N qual (Ag st) f cdv A outer s H E).nox (Av st) t/\t { nx:=λ_ H'=>Q .non H',rt:=Q } (start N vs) H):FnOk P w K mg base CX0 (k+1) f fd ps sp:=by
 obtain ⟨oc,od,kV,doc,pm,an,cdv,ct,osl,rfl,lk,hcd⟩:=F.ex;refine tZ lk hcd S len λA outer s H vs Q E hr hsp=>?_
 obtain ⟨t,h,q⟩:=hbody cdv A outer s H vs Q E hr hsp;exact ⟨t,h.nox,q⟩
theorem xH {x qual:Str}{st:Stmt}{f:Addr}{oc:Value}{od an:Option Addr}{osl:Array (Option Value)}{kV doc pm cdv ct:Value}(l:K.lookup f=some ⟨oc,od,.func (vq x qual (Fi st) (Av st) (Ag st) .none kV doc pm an cdv ct),osl⟩)
  (c:vh K cdv qual=true) (k:jm K (.ref f)=true):Fun K x qual st f (vq x qual (Fi st) (Av st) (Ag st) .none kV doc pm an cdv ct):=⟨⟨oc,od,kV,doc,pm,an,cdv,ct,osl,rfl,l,c⟩,k⟩
end
section
variable {X:Cx}
end
theorem Sy {A B:Prop}(h:B):if false=true then A else B:=by
 rw [if_neg qe];exact h
theorem S5 {A B:Prop}(h:A):if true=true then A else B:=by
 rw [if_pos rfl];exact h
section
variable {κ:Type} [DecidableEq κ]
end
section
variable {P:Program}{w:World}{H:Hp}{h:Heap}{a:Addr}
end
section
variable {X:Cx}{pins:List (Addr×Obj)}{σ:St}{H:Hp}{s:Shared}{a:Addr}{y v:V}{u r:Value}{o:Option V}{A:Around}{E:Value->Shared->Prop}
end
section
variable {X:Cx}{pins:List (Addr×Obj)}{σ:St}{H:Hp}{s:Shared}{a:Addr}{kvs:List (Key×V)}{k:Key}{u:Value}{A:Around}{E:Value->Shared->Prop}
end
section
variable {X:Cx}{o i e value:Expr}{pos pos' tpos:Pos}{td ty tv:TE}
end
section
variable {X:Cx}{pos:Pos}
end
section
variable {X:Cx}{pins:List (Addr×Obj)}{σ:St}{H:Hp}{s:Shared}{a:Addr}{y d:V}{u r:Value}{o:Option V}{A:Around}{E:Value->Shared->Prop}
end
section
variable {X:Cx}{o e f:Expr}{apos cpos:Pos}{td ty tx:TE}
end
section
variable {X:Cx}{pins:List (Addr×Obj)}{σ:St}{H:Hp}{s:Shared}{a:Addr}{kvs:List (Key×V)}{A:Around}{E:Value->Shared->Prop}
end
section
variable {X:Cx}{pins:List (Addr×Obj)}{σ:St}{H:Hp}{s:Shared}{a:Addr}{y:V}{u:Value}{A:Around}{E:Value->Shared->Prop}
end
theorem Mz {α β:Type}(g:α->β->β):∀ (l:List α) (f:α->β->Sem (ForInStep β)) (c:β),(∀ x∈l,∀ c,f x c=pure (.yield (g x c)))->forIn l c f=pure (l.foldl (λc x=>g x c) c)
 | [],f,c,_=>by rw [DX];rfl
 | x::r,f,c,h=>by
  rw [JH,h x iy];show (forIn r (g x c) f)=_;rw [Mz g r f (g x c) λy hy=>h y (iu _ hy)];rfl
noncomputable def Hx (env:Env) (x:Str×NameKind) (cs:List (Str×Addr)):List (Str×Addr):=if x.2==.free then (x.1,(env.cells.lookup x.1).getD 0)::cs else cs
noncomputable def Ba (env:Env) (names:List (Str×NameKind)):List (Str×Addr):=names.foldl (λc x=>Hx env x c) []
theorem Gi {scope:Scope}{env:Env}(h:∀ x∈scope.names,x.2=.free->∃ c,env.cells.lookup x.1=some c):closureFor scope env=pure (Ba env scope.names):=by
 unfold closureFor Ba;dsimp only;rw [Mz (Hx env)]
 ·rfl
 ·intro x hx c;obtain ⟨n,k⟩:=x;dsimp only;unfold Hx
  by_cases e:(k==NameKind.free)=true
  ·obtain ⟨a,ha⟩:=h _ hx (beq_iff_eq.mp e);have ha':yo n env.cells=some a:=ha;dsimp only;rw [if_pos e,if_pos e];unfold cellOf;rw [ha'];rfl
  ·dsimp only;rw [if_neg e,if_neg e]
theorem G9 {env:Env}:∀ (names:List (Str×NameKind)) (acc:List (Str×Addr)) (x:Str) (c:Addr),(x,c)∈names.foldl (λc x=>Hx env x c) acc->(x,c)∈acc\/((x,NameKind.free)∈names/\c=(env.cells.lookup x).getD 0)
 | [],acc,x,c,h=>.inl h
 | (n,k)::r,acc,x,c,h=>by
  rcases G9 r _ x c h with q|⟨q1,q2⟩
  ·unfold Hx at q;dsimp only at q;split at q
   ·rename_i e;have e:=beq_iff_eq.mp e;rcases dg.mp q with q|q
    ·cases q;exact .inr ⟨by rw [e];exact iy,rfl⟩
    ·exact .inl q
   ·exact .inl q
  ·exact .inr ⟨iu _ q1,q2⟩
theorem M4 {env:Env}:∀ (names:List (Str×NameKind)) (acc:List (Str×Addr)) (x:Str),(acc.lookup x).isSome=true\/(x,NameKind.free)∈names->((names.foldl (λc x=>Hx env x c) acc).lookup x).isSome=true
 | [],acc,x,h=>by
  rcases h with h|h
  ·exact h
  ·exact absurd h (by simp)
 | (n,k)::r,acc,x,h=>by
  refine M4 r _ x ?_;unfold Hx;rcases h with h|h
  ·left;dsimp only;split
   ·rw [jt];split
    ·rfl
    ·exact h
   ·exact h
  ·rcases dg.mp h with h|h
   ·cases h;left;dsimp only;rw [if_pos (by rfl),jt];simp
   ·exact .inr h
theorem Ql {env:Env}{names:List (Str×NameKind)}{x:Str}{c:Addr}(h:(Ba env names).lookup x=some c):(x,NameKind.free)∈names/\c=(env.cells.lookup x).getD 0:=by
 rcases G9 names [] x c (ir h) with q|q
 ·exact absurd q (by simp)
 ·exact q
theorem Ox {env:Env}{names:List (Str×NameKind)}{x:Str}(h:(x,NameKind.free)∈names):(Ba env names).lookup x=some ((env.cells.lookup x).getD 0):=by
 obtain ⟨c,e⟩:=vo.mp (M4 (env:=env) names [] x (.inr h));rw [show Ba env names=names.foldl (λc x=>Hx env x c) [] from rfl,e,(Ql e).2]
theorem Em:∀ (names:List (Str×NameKind)) (n:Nat) (acc:List (Str×Addr)) (x:Str) (c:Addr),(x,c)∈cellsFrom n names acc->(x,c)∈acc\/(n<=c/\(x,NameKind.cell)∈names)
 | [],_,_,_,_,h=>.inl h
 | (y,k)::r,n,acc,x,c,h=>by
  unfold cellsFrom at h;split at h
  ·rename_i e;have e:=beq_iff_eq.mp e;rcases Em r (n+1) _ x c h with q|⟨q1,q2⟩
   ·rcases dg.mp q with q|q
    ·cases q;exact .inr ⟨cg _,by rw [e];exact iy⟩
    ·exact .inl q
   ·exact .inr ⟨by omega,iu _ q2⟩
  ·rcases Em r n acc x c h with q|⟨q1,q2⟩
   ·exact .inl q
   ·exact .inr ⟨q1,iu _ q2⟩
theorem En:∀ (names:List (Str×NameKind)) (n lo:Nat) (acc:List (Str×Addr)) (x:Str) (c:Addr),lo<=n->((x,NameKind.cell)∈names\/∀ c',acc.lookup x=some c'->lo<=c')->(cellsFrom n names acc).lookup x=some c->lo<=c
 | [],_,_,acc,x,c,_,h,e=>by
  rcases h with h|h
  ·exact absurd h (by simp)
  ·exact h c e
 | (y,k)::r,n,lo,acc,x,c,hl,h,e=>by
  unfold cellsFrom at e;split at e
  ·rename_i ek;refine En r (n+1) lo _ x c (by omega) ?_ e;rcases h with h|h
   ·rcases dg.mp h with h|h
    ·cases h;right;intro c' hc;rw [jt] at hc;rw [beq_self_eq_true] at hc;cases hc;exact hl
    ·exact .inl h
   ·right;intro c' hc;rw [jt] at hc;split at hc
    ·cases hc;omega
    ·exact h c' hc
  ·rename_i ek;refine En r n lo acc x c hl ?_ e;rcases h with h|h
   ·rcases dg.mp h with h|h
    ·cases h;exact absurd rfl ek
    ·exact .inl h
   ·exact .inr h
theorem Gj:∀ (names:List (Str×NameKind)) (n:Nat) (acc:List (Str×Addr)),(∀ x y c,(x,c)∈acc->(y,c)∈acc->x=y)->(∀ x c,(x,c)∈acc->c < n) ->
  ∀ x y c,(x,c)∈cellsFrom n names acc->(y,c)∈cellsFrom n names acc->x=y
 | [],_,_,h,_=>h
 | (z,k)::r,n,acc,h,hb=>by
  unfold cellsFrom;split
  ·refine Gj r (n+1) _ (λx y c hx hy=>?_) λx c hx=>?_
   ·rcases dg.mp hx with hx | hx <;> rcases dg.mp hy with hy|hy
    ·cases hx;cases hy;rfl
    ·cases hx;exact absurd (hb _ _ hy) (jw _)
    ·cases hy;exact absurd (hb _ _ hx) (jw _)
    ·exact h x y c hx hy
   ·rcases dg.mp hx with hx|hx
    ·cases hx;exact jq _
    ·exact lq (hb x c hx)
  ·exact Gj r n acc h hb
theorem Fo:∀ (names:List (Str×NameKind)) (h:Heap) (acc:List (Str×Addr)) (x:Str) (c:Addr),(∀ x c,(x,c)∈acc->∃ v,h.IsCell c v)->(x,c)∈cellsFrom h.objs.size names acc->∃ v,(pushCells h names).IsCell c v
 | [],h,acc,x,c,hb,e=>hb x c e
 | (y,k)::r,h,acc,x,c,hb,e=>by
  unfold cellsFrom at e;unfold pushCells;split at e
  ·rename_i ek;rw [if_pos ek];refine Fo r _ ((y,h.objs.size)::acc) x c (λx c hx=>?_) (by rw [ji];exact e);rcases dg.mp hx with hx|hx
   ·cases hx;exact ⟨none,_,dh _ rfl,rfl⟩
   ·obtain ⟨v,q⟩:=hb x c hx;exact ⟨v,q.keeps λb o e=>ak _ e⟩
  ·rename_i ek;rw [if_neg ek];exact Fo r h acc x c hb e
theorem Fp:∀ (names:List (Str×NameKind)) (h:Heap),h.objs.size<=(pushCells h names).objs.size
 | [],h=>cg _
 | (y,k)::r,h=>by
  unfold pushCells;split
  ·refine ig ?_ (Fp r _);rw [ji];omega
  ·exact Fp r h
theorem S6 {M:Model}{A:Around}{E:Value->Shared->Prop}{s:Shared}{scope:Scope}{globals:Addr}{cl:List (Str×Addr)}{qual:Str}{env:Env}{Q:Env->Shared->Prop}
  (hQ:Q (newEnv scope s.heap.objs.size globals (cellsFrom (s.heap.objs.size+1) scope.names cl) qual none .none (some env) builtinsNs) { s with heap:=pushCells (s.heap.push { cls:=.type "dict",data:=.dict #[] }) scope.names }) :
  wpAny M A (newFunctionEnv scope globals cl [] qual none .none (some env)) Q E s:=by
 simp only [newFunctionEnv,Option.isSome_some,if_true];refine ao (wpAny_alloc ?_);refine ao (wpAny_layCells _ (λname kind cells=>by cases hkc:kind==NameKind.cell <;> simp [hkc]) _ _ _ _ ?_)
 rw [show ({ s with heap:=s.heap.push { cls:=.type "dict",data:=.dict #[] } }:Shared).heap.objs.size=s.heap.objs.size+1 from ji ..];rw [DX];exact ao (cu (cu hQ))
theorem Ci {α:Type}:∀ {l:List (Str×α)}{n:Str}{c:α},(l.map (·.1)).Nodup->(n,c)∈l->l.lookup n=some c
 | [],_,_,_,h=>absurd h (by simp)
 | (k,v)::r,n,c,nd,h=>by
  rw [mq,uh] at nd;rw [jt];rcases dg.mp h with q|q
  ·cases q;rw [beq_self_eq_true]
  ·have:(n==k)=false:=by
    rw [beq_eq_false_iff_ne];intro e;subst e;exact nd.1 (gj.mpr ⟨(n,c),q,rfl⟩)
   rw [this];exact Ci nd.2 q
theorem Fq {env:Env}(scope:Scope) (x:Str):(relabel scope env).names.lookup x=(scope.names.lookup x).map λk=>if (k==.free&&env.scope.kind==.function&&env.kindOf x==some .cell) then .cell else k:=by
 show (scope.names.map _).lookup x=_
 induction scope.names with
 | nil=>rfl
 | cons a r ih =>
  obtain ⟨n,k⟩:=a;rw [mq];dsimp only;rw [jt (b:=k)]
  by_cases e:(x==n)=true
  ·rw [e];have e':=beq_iff_eq.mp e;subst e';dsimp only;split
   ·rename_i hc;rw [jt,e];simp only [uo,hc,if_true]
   ·rename_i hc;rw [jt,e];rw [uo,if_neg hc]
  ·have e2:(x==n)=false:=by simpa using e
   rw [e2];dsimp only;split
   ·rw [jt,e2];exact ih
   ·rw [jt,e2];exact ih
structure CompOk (X:Cx) (scope:Scope):Prop where
 kind:scope.kind=.function
 nd:(scope.names.map (·.1)).Nodup
 fr:∀ x∈scope.names,x.2=.free->X.env.kindOf x.1=some .cell\/X.env.kindOf x.1=some .free
noncomputable def Cp (X:Cx) (pins:List (Addr×Obj)) (N':List Str) (scope:Scope) (C:Addr) (cells:List (Str×Addr)) (s₀:Shared) (H₀:Hp) (fp:List Addr):Cx where
 prog:=X.prog
 w:=X.w
 K:=X.K
 mg:=X.mg
 base:=X.base
 A:=X.A
 N:=N'
 s₀:=s₀
 H₀:=H₀
 env:={ scope:=relabel scope X.env,locals:=C,globals:=X.env.globals,cells:=cells,qual:=X.env.qual,func:=none,code:=X.env.code,frame:=X.env.frame,builtins:=X.env.builtins }
 outer:=X.stack
 stack:=X.stack
 ex:=fp
 fn:=λx=>decide ((x,NameKind.cell)∈scope.names)
 calm:=X.calm
 pn:=X.pn++pins
 xe:=λ_ _=>False
noncomputable def Cap (X:Cx) (N':List Str) (scope:Scope) (σ σ0:St):Prop:=σ0.length=N'.length/\∀ (i:Nat) (x:Str) (v:V),N'[i]?=some x->σ0[i]?=some (some v) ->
 scope.names.lookup x=some .free/\∃ j:Nat,X.N[j]?=some x/\σ[j]?=some (some v)
noncomputable abbrev Aw (its:List Value) (n:Nat):Obj:={ cls:=.type "list",data:=.seq its.toArray n }
section
variable {X:Cx}{pins:List (Addr×Obj)}{σ:St}{H:Hp}{s:Shared}
theorem Vm {N':List Str}{scope:Scope}{fp:List Addr}{σ0:St}(I:Inv X pins σ H s) (S:CompOk X scope) (hf:∀ b∈fp,Jv X pins H b) (hb:∀ b∈fp,∃ o,s.heap.get? b=some o) (hσ:Cap X N' scope σ σ0) :
    Inv (Cp X pins N' scope (s.heap.objs.size+1) (cellsFrom (s.heap.objs.size+1+1) scope.names (Ba X.env scope.names)) s H fp) [(s.heap.objs.size,Aw [] 0)] σ0 H
      { s with heap:=pushCells ((s.heap.push (Aw [] 0)).push { cls:=.type "dict",data:=.dict #[] }) scope.names }:=by
  have sz1:(s.heap.push (Aw [] 0)).objs.size=s.heap.objs.size+1:=ji ..
  have sz2:((s.heap.push (Aw [] 0)).push { cls:=.type "dict",data:=.dict #[] }).objs.size=s.heap.objs.size+1+1:=by rw [ji,sz1]
  have keep:∀ b o,s.heap.get? b=some o->(pushCells ((s.heap.push (Aw [] 0)).push { cls:=.type "dict",data:=.dict #[] }) scope.names).get? b=some o:=λb o e=>CJ _ _ b o (ak _ (ak _ e))
  have capt:∀ x c,(x,c)∈Ba X.env scope.names->X.env.cells.lookup x=some c:=λx c h=>by
    rcases G9 scope.names [] x c h with q|⟨q1,q2⟩
    · exact absurd q (by simp)
    · obtain ⟨c',e⟩:=I.ok.has x (S.fr _ q1 rfl);rw [e] at q2;rw [e,q2];rfl
  have cells:∀ x c,(cellsFrom (s.heap.objs.size+1+1) scope.names (Ba X.env scope.names)).lookup x=some c->X.env.cells.lookup x=some c\/s.heap.objs.size+1+1<=c:=λx c h=>by
    rcases Em _ _ _ x c (ir h) with q|⟨q,_⟩
    · exact .inl (capt x c q)
    · exact .inr q
  have stk:∀ b∈frs X.stack,b < s.heap.objs.size:=λb hb=>by
    rcases Nat.lt_or_ge b s.heap.objs.size with z|z
    · exact z
    · rcases dg.mp (I.stkSub b hb) with q|q
      · rw [q];exact I.lt
      · exact absurd q (I.nofs z)
  have fpb:∀ b∈fp,b < s.heap.objs.size:=λb h=>let ⟨o,e⟩:=hb b h;Heap.lt_size e
  refine ⟨⟨I.ok.mod,S.kind,I.ok.glob,I.ok.blt,sy _,λx y c h1 h2=>?_,λx hx=>?_,λx c hx h=>?_,I.ok.hd,I.ok.frames,.inl rfl,λb hb=>⟨?_,λx c h=>?_⟩,I.bs,ig I.ok.bsz I.sz,λb o h z=>?_,λb hb z=>?_,I.stack,I.stkFree⟩,
    rfl,I.bare,Un.kept keep,⟨λ_=>none,?_,λi x v h1 h2 h3=>?_⟩,λx c h=>?_,I.hok.fresh (sy _),λx c h=>?_,λp hp=>?_,I.hok.kept keep,hσ.1⟩
  · refine Gj scope.names (s.heap.objs.size+1+1) (Ba X.env scope.names) (λx y c h1 h2=>I.ok.inj x y c (capt x c h1) (capt y c h2)) (λx c h=>?_) x y c (ir h1) (ir h2);obtain ⟨v,q⟩:=I.cell x c (capt x c h);exact lq (lq q.lt)
  · have hx:(relabel scope X.env).names.lookup x=some .cell\/(relabel scope X.env).names.lookup x=some .free:=hx;rw [Fq] at hx;refine vo.mp (qm scope.names _ _ ?_);cases e:scope.names.lookup x with
    | none=>rw [e] at hx;rcases hx with h | h <;> cases h
    | some k =>
      cases k with
      | cell=>exact .inl rfl
      | free=>right;rw [Ox (ir e)];rfl
      | «local»=>rw [e] at hx;rcases hx with h | h <;> cases h
      | globalExplicit=>rw [e] at hx;rcases hx with h | h <;> cases h
      | globalImplicit=>rw [e] at hx;rcases hx with h | h <;> cases h
  · exact ig (QJ (sy _)) (En scope.names _ (s.heap.objs.size+1+1) _ x c (cg _) (.inl (of_decide_eq_true hx)) h)
  · exact fu (lq (fpb b hb))
  · rcases cells x c h with q|q
    · exact (hf b hb).2.2.2.2.1 x c q
    · exact jz (fj (fpb b hb) (by omega))
  · rcases (hf b z).2.2.2.1 with q|q
    · exact I.ok.noex b o h q
    · exact absurd (fj (Heap.lt_size h) (ig I.ok.bsz q)) (jw _)
  · rcases dg.mp (I.stkSub b z) with q|q
    · exact (hf b hb).2.1 q
    · exact (hf b hb).2.2.1 q
  · show (pushCells _ _).Ns (s.heap.objs.size+1) _
    have n:=(Heap.Ns.new (s.heap.push (Aw [] 0)) (.type "dict")).keeps (CJ scope.names _);rw [sz1] at n;exact n
  · obtain ⟨e1,j,e2,e3⟩:=hσ.2 i x v h1 h2;obtain ⟨m,hn,hl⟩:=I.loc;have fr:=S.fr _ (ir e1) rfl;have vis:Vis X.env.scope x:=by
      rcases fr with q|q
      · exact .inr (.inl q)
      · exact .inr (.inr q)
    obtain ⟨u,r,l⟩:=hl j x v e2 e3 vis;refine ⟨u,r,.inr ⟨?_,?_⟩⟩
    · show (relabel scope X.env).names.lookup x=some .cell\/(relabel scope X.env).names.lookup x=some .free;rw [Fq,e1];simp only [uo];split
      · exact .inl rfl
      · exact .inr rfl
    · rcases l with ⟨k,_⟩|⟨_,c,ec,hc⟩
      · rcases fr with q | q <;> · rw [k] at q;cases q
      · refine ⟨c,?_,hc.keeps keep⟩;obtain ⟨c2,e⟩:=vo.mp (qm (x:=x) scope.names (s.heap.objs.size+1+1) (Ba X.env scope.names) (.inr (by rw [Ox (ir e1)];rfl)));show (cellsFrom _ _ _).lookup x=some c;rw [e];rcases Em _ _ _ x c2 (ir e) with q|⟨_,q⟩
        · rw [capt x c2 q] at ec;exact ec
        · rw [Ci S.nd q] at e1;cases e1
  · refine Fo scope.names ((s.heap.push (Aw [] 0)).push { cls:=.type "dict",data:=.dict #[] }) (Ba X.env scope.names) x c (λx c h=>?_) ?_
    · obtain ⟨v,q⟩:=I.cell x c (capt x c h);exact ⟨v,q.keeps λb o e=>ak _ (ak _ e)⟩
    · rw [sz2];exact ir h
  · rcases cells x c h with q|q
    · rcases I.freeC x c q with fc|⟨_,oz,uz,fz⟩
      · exact .inl fc
      · refine .inr ⟨Bool.eq_false_iff.mpr λhx=>?_,oz,uz,fz⟩;have h1:=En scope.names _ (s.heap.objs.size+1+1) _ x c (cg _) (.inl (of_decide_eq_true hx)) h;have h2:c < s.heap.objs.size:=Heap.lt_size (I.hok c _ fz).1;have h3:s.heap.objs.size+1+1<=c:=by first | exact h1 | (rw [← sz2];exact h1)
        exact absurd (fj h2 (ig (QJ (sy _)) h3)) (jw _)
    · exact .inl (I.hok.fresh (by omega))
  · rcases jl.mp hp with hp|hp
    · obtain ⟨q1,q2,q3,q4,q5⟩:=I.pin p hp;have lt:=Heap.lt_size q1;refine ⟨keep _ _ q1,q2,fu (lq lt),λz=>?_,q5⟩;rcases dg.mp (I.stkSub p.1 z) with r|r
      · exact q3 r
      · exact q4 r
    · have e:p=(s.heap.objs.size,Aw [] 0):=by simpa using hp
      subst e;refine ⟨CJ _ _ _ _ (ak _ (dh _ rfl)),I.hok.fresh (cg _),fu (jq _),λz=>?_,λv=>by intro z;cases z⟩;exact jw _ (stk _ z)
theorem cJ {N':List Str}{scope:Scope}{fp:List Addr}{σ':St}{C:Addr}{cells:List (Str×Addr)}{H':Hp}{s':Shared}{its:List Value}{n:Nat}{ys:List V}{pl:List (Addr×Obj)}(I:Inv X pins σ H s) (hf:∀ b∈fp,Jv X pins H b)
  (J:Inv (Cp X pins N' scope C cells s H fp) ((s.heap.objs.size,Aw its n)::pl) σ' H' s') (r:Vals ys its) (hz:ys.length<=sizeLine) :
  Inv X pins σ (upd H' s.heap.objs.size (.lst ys)) s':=by
 obtain ⟨p1,p2,p3,p4,p5⟩:=J.pin (s.heap.objs.size,Aw its n) (gm _ iy);have hD:H' s.heap.objs.size=none:=p2;have ne:∀ b o,s.heap.get? b=some o->b≠s.heap.objs.size:=λb o e=>fu (Heap.lt_size e)
 have U:=J.base;refine I.call' (ch:=fp) J.os ⟨λb o e h1 h2 h3=>U.keep b o e h1 h2 h3,λb o e h1 h2 h3=>U.slot b o e h1 h2 h3,λb o e h1 h2=>?_,U.there,λb xs e=>?_,λb o u e=>?_,λb ps e=>?_⟩ ?_ J.bare λb hb=>?_
 ·rw [Ac (ne b o e)];exact U.free b o e h1 h2
 ·have q:=U.tups b xs e;rw [Ac (Ad q hD)];exact q
 ·have q:=U.frzs b o u e;rw [Ac (Ad q hD)];exact q
 ·obtain ⟨m,q⟩:=U.tbls b ps e;exact ⟨m,by rw [Ac (Ad q hD)];exact q⟩
 ·intro b u e
  by_cases hb:b=s.heap.objs.size
  ·subst hb;rw [Ai] at e;cases e;exact ⟨hz,its,n,r,p1⟩
  ·rw [Ac hb] at e;exact (J.hok b u e).stay (λ_ _ _ q=>q) (λc q=>by rw [Ac (Ad q hD)];exact q) λc xs q=>by rw [Ac (Ad q hD)];exact q
 ·obtain ⟨q0,q1,q2,q3,q4,q5⟩:=hf b hb;exact ⟨q3,q1,q4,q5⟩
end
section
variable {prog:Program}{w:World}{A:Around}{E:Value->Shared->Prop}{R:Result->Shared->Prop}{s:Shared}
noncomputable abbrev Xf (ifs:List Expr) (env:Env):Sem Bool:=forIn ifs true λc r=>if r=true then do let ok ← isTrue c env (eval c env);pure (ForInStep.yield ok) else pure (ForInStep.yield r)
theorem Qm {elt target iter:Expr}{ifs:List Expr}{scope:Scope}{pos:Pos}{it acc:Value}{env:Env}(I:Nat->Shared->Prop)
  (turn:∀ n s,I n s->wpAny (model prog w) A (pyNext it) (λr s₁=>match r with
   | none=>R (.ok .next) s₁
   | some v=>wpAny (model prog w) A (letOwnedTupleGo target it v) (λ_ s'=>wpAny (model prog w) A (assign target env v) (λ_ s₂ =>
     wpAny (model prog w) A (Xf ifs env) (λok s₃ =>
      if ok=true then wpAny (model prog w) A (eval elt env) (λx s₄ =>
       wpAny (model prog w) A (call (.builtin "list.append") [acc,x]) (λ_ s₅=>∃ m,m < n/\I m s₅) (λ_ _=>False) s₄) (λ_ _=>False) s₃
      else ∃ m,m < n/\I m s₃) (λ_ _=>False) s₂) (λ_ _=>False) s') (λ_ _=>False) s₁) (λ_ _=>False) s)
  (n:Nat) (h:I n s) :
  codeAny (model prog w) A (.compLoop (.ListComp elt [⟨target,iter,ifs,0⟩] scope pos) 0 it acc env) R s:=by
 refine codeAny_loop rfl I (λn s hI=>?_) n h;show wpAny _ A ((compTurn (.ListComp elt [⟨target,iter,ifs,0⟩] scope pos) 0 it acc env).onRaise (λx=>do noteFrame x env;theTreesLotGoes x)) _ _ s;refine wpAny_noted ?_;rw [compTurn_list];refine ao (GD (ao (qb (turn n s hI) (λr s₁ h₁=>?_) λ_ _ h'=>h'.elim)));cases r with
 | none=>exact cu h₁
 | some v =>
  refine ao (qb h₁ (λ_ s' h'=>?_) λ_ _ h'=>h'.elim);refine ao (qb h' (λ_ s₂ h₂=>ao (qb h₂ (λok s₃ h₃=>?_) λ_ _ h'=>h'.elim)) λ_ _ h'=>h'.elim);cases ok with
  | false=>exact cu ⟨rfl,h₃⟩
  | true =>
   exact ao (ao (qb h₃ (λx s₄ h₄=>ao (qb h₄ (λ_ s₅ h₅=>cu (cu ⟨rfl,h₅⟩)) λ_ _ h'=>h'.elim)) λ_ _ h'=>h'.elim))
end
noncomputable def PIf (X:Cx) (ifs:List Expr) (t:TT):Prop :=
 ∀ (pins:List (Addr×Obj)) (s:Shared) (σ:St) (H:Hp) (Q:Bool->Hp->Prop),Inv X pins σ H s->t σ H Q->wpAny (model X.prog X.w) X.A (Xf ifs X.env) (TP X pins σ Q) X.xe s
theorem oX {X:Cx}:PIf X [] (λ_ H Q=>Q true H):=λpins s σ H Q I h=>wpAny_tests_nil ⟨H,I,h⟩
theorem oY {X:Cx}{c:Expr}{t:TT}(h:PT X c t):PIf X [c] t:=λpins s σ H Q I q=>wpAny_tests_one (h pins s σ H Q I q)
noncomputable def Kept (σ0 σ2:St):Prop:=σ2.length=σ0.length/\∀ (i:Nat) v,σ0[i]?=some (some v)->σ2[i]?=some (some v)
noncomputable def cL (X:Cx) (N':List Str) (scope:Scope) (wi:TI) (g:TG) (tc:TT) (te:TE):TE:=λσ H Q=>wi σ H λJ H1=>∃ σ0,Cap X N' scope σ σ0/\∃ W:Nat->Nat->List V->Hp->Prop,(∃ m,W 0 m [] H1)/\∀ i m acc H,W i m acc H ->
 (J.stop i H/\∀ p,H p=none->Q (.ref p) (upd H p (.lst acc))) \/
 (J.go i H/\∃ N:List V->Hp->Prop,(∀ acc' H',N acc' H'->∃ m',m' < m/\W (i+1) m' acc' H')/\∀ x H',J.yld i H x H'->g x σ0 H' λσ2 H2=>Kept σ0 σ2/\tc σ2 H2 λb H3=>if b=true then acc.length < sizeLine/\te σ2 H3 λy H4=>N (acc++[y]) H4 else N acc H3)
section
variable {X:Cx}{N':List Str}{scope:Scope}{wi:TI}{g:TG}{tc:TT}{te:TE}{elt target iter:Expr}{ifs:List Expr}{pos:Pos}
theorem M5 {pins:List (Addr×Obj)}{s:Shared}{σ σ0:St}{H:Hp}{it:Addr}{fp:List Addr}{tn:Nat->Heap->Prop}{J:It}{QQ:List V->Hp->Prop}{E:Value->Shared->Prop}{RR:Value->Addr->Result->Shared->Prop}(hc:X.calm=true) (S:CompOk X scope)
  (hg:∀ pins C cells s₀ H₀ fp,PG (Cp X pins N' scope C cells s₀ H₀ fp) target g)
  (hi:∀ pins C cells s₀ H₀ fp,PIf (Cp X pins N' scope C cells s₀ H₀ fp) ifs tc)
  (he:∀ pins C cells s₀ H₀ fp,PE (Cp X pins N' scope C cells s₀ H₀ fp) elt te)
  (I:Inv X pins σ H s) (T:Turn X.prog X.w X.K target J fp it tn) (st:tn 0 s.heap) (hf:∀ b∈fp,Jv X pins H b) (hσ:Cap X N' scope σ σ0)
  (W:Nat->Nat->List V->Hp->Prop) (w0:∃ m,W 0 m [] H)
  (turn:∀ i m acc H,W i m acc H->(J.stop i H/\QQ acc H) \/
   (J.go i H/\∃ N:List V->Hp->Prop,(∀ acc' H',N acc' H'->∃ m',m' < m/\W (i+1) m' acc' H')/\∀ x H',J.yld i H x H'->g x σ0 H' λσ2 H2=>Kept σ0 σ2/\tc σ2 H2 λb H3=>if b=true then acc.length < sizeLine/\te σ2 H3 λy H4=>N (acc++[y]) H4 else N acc H3))
  (hRR:∀ (C:Addr) (acc:List V) (H':Hp) (s':Shared) (m:Str->Option Value),QQ acc H'->Inv X pins σ (upd H' s.heap.objs.size (.lst acc)) s'->H' s.heap.objs.size=none->s'.heap.Ns C m->H' C=none->C≠s.heap.objs.size->s.heap.objs.size<=C->RR (.ref s.heap.objs.size) C (.ok .next) s') :
  wpAny (model X.prog X.w) X.A (newList []) (λacc s₃=>wpAny (model X.prog X.w) X.A (newFunctionEnv scope X.env.globals (Ba X.env scope.names) [] X.env.qual none .none (some X.env)) (λcenv s₄ =>
   codeAny (model X.prog X.w) X.A (.compStart (.ListComp elt [⟨target,iter,ifs,0⟩] scope pos) 0 (.ref it) acc { cenv with scope:=relabel scope X.env }) (RR acc cenv.locals) s₄) E s₃) E s:=by
 refine jo (S6 ?_);have sz1:(s.heap.push (Aw [] 0)).objs.size=s.heap.objs.size+1:=ji ..;have I0:=Vm (N':=N') (σ0:=σ0) I S hf (λb hb=>let ⟨o,e,_⟩:=T.obj 0 _ st b hb;⟨o,e⟩) hσ
 show codeAny (model X.prog X.w) X.A (.compStart (.ListComp elt [⟨target,iter,ifs,0⟩] scope pos) 0 (.ref it) (.ref s.heap.objs.size) _) (RR (.ref s.heap.objs.size) (s.heap.push (Aw [] 0)).objs.size) { s with heap:=pushCells ((s.heap.push (Aw [] 0)).push { cls:=.type "dict",data:=.dict #[] }) scope.names };rw [sz1];show codeAny (model X.prog X.w) X.A (.compStart (.ListComp elt [⟨target,iter,ifs,0⟩] scope pos) 0 (.ref it) (.ref s.heap.objs.size) (Cp X pins N' scope (s.heap.objs.size+1) (cellsFrom (s.heap.objs.size+1+1) scope.names (Ba X.env scope.names)) s H fp).env) _ _;generalize hX':Cp X pins N' scope (s.heap.objs.size+1) (cellsFrom (s.heap.objs.size+1+1) scope.names (Ba X.env scope.names)) s H fp=X' at I0 ⊢
 have keep0:∀ b o,s.heap.get? b=some o->(pushCells ((s.heap.push (Aw [] 0)).push { cls:=.type "dict",data:=.dict #[] }) scope.names).get? b=some o:=λb o e=>CJ _ _ b o (ak _ (ak _ e))
 have st0:tn 0 (pushCells ((s.heap.push (Aw [] 0)).push { cls:=.type "dict",data:=.dict #[] }) scope.names):=T.keep _ _ _ st λb _ o e=>keep0 b o e
 have hA:X'.A=X.A:=by rw [← hX'];rfl
 have hP:X'.prog=X.prog:=by rw [← hX'];rfl
 have hw:X'.w=X.w:=by rw [← hX'];rfl
 have hK:X'.K=X.K:=by rw [← hX'];rfl
 have hC:X'.calm=true:=by rw [← hX'];exact hc
 have hL:X'.env.locals=s.heap.objs.size+1:=by rw [← hX'];rfl
 have hS0:X'.s₀=s:=by rw [← hX'];rfl
 have hxe:X'.xe=λ_ _=>False:=by rw [← hX'];rfl
 have hex:X'.ex=fp:=by rw [← hX'];rfl
 have hpn:X'.pn=X.pn++pins:=by rw [← hX'];rfl
 have hgX:PG X' target g:=by rw [← hX'];exact hg _ _ _ _ _ _
 have hiX:PIf X' ifs tc:=by rw [← hX'];exact hi _ _ _ _ _ _
 have heX:PE X' elt te:=by rw [← hX'];exact he _ _ _ _ _ _
 -- the iterator's own objects,in the block
 have fpo:∀ {pl:List (Addr×Obj)} {H':Hp} {its:List Value} {n:Nat},(∀ b∈fp,H' b=none)->∀ b∈fp,Jv X' [(s.heap.objs.size,Aw its n)] H' b:=λ{pl H' its n} hn b hb=>by
  obtain ⟨q0,q1,q2,q3,q4,q5⟩:=hf b hb;obtain ⟨e1,e2⟩:=I0.ok.exf b (by rw [hex];exact hb);have lt:b < s.heap.objs.size:=let ⟨o,e,_⟩:=T.obj 0 _ st b hb;Heap.lt_size e;refine ⟨hn b hb,e1,I0.ok.exfs b (by rw [hex];exact hb),.inl (by rw [hex];exact hb),e2,λp hp=>?_⟩;rw [hpn] at hp;rcases jl.mp hp with hp|hp
  ·exact q5 p hp
  ·have e:p=(s.heap.objs.size,Aw its n):=by simpa using hp
   subst e;exact jz lt
 obtain ⟨m0,w0⟩:=w0
 have loop:codeAny (model X.prog X.w) X.A (.compLoop (.ListComp elt [⟨target,iter,ifs,0⟩] scope pos) 0 (.ref it) (.ref s.heap.objs.size) X'.env) (RR (.ref s.heap.objs.size) (s.heap.objs.size+1)) { s with heap:=pushCells ((s.heap.push (Aw [] 0)).push { cls:=.type "dict",data:=.dict #[] }) scope.names }:=by
  refine Qm (λk s'=>∃ i H' acc its n,Inv X' [(s.heap.objs.size,Aw its n)] σ0 H' s'/\tn i s'.heap/\(∀ b∈fp,H' b=none)/\Vals acc its/\acc.length<=sizeLine/\W i k acc H') ?_ m0
   ⟨0,H,[],[],0,I0,st0,λb hb=>(hf b hb).1,.nil,oh _,w0⟩
  rintro k s3 ⟨i,H3,acc,its,n,I3,st3,fr3,rv,hz,w3⟩;rcases turn i k acc H3 w3 with ⟨stop,qn⟩|⟨go,N,hN,step⟩
  ·have z:=T.done X' hP hw hK hC i _ s3 σ0 H3 (λ_ _=>False) I3 (fpo (pl:=[]) fr3) st3 stop;rw [hA] at z;refine thn z ?_;rintro r s4 ⟨hr,I4⟩;subst hr;obtain ⟨m,hn,_⟩:=I4.loc;rw [hL] at hn;have fC:=I4.free;rw [hL] at fC;have e:=I4;rw [← hX'] at e;exact hRR _ acc H3 s4 m qn (cJ I hf e rv hz) (I4.pin (s.heap.objs.size,Aw its n) (gm _ iy)).2.1 hn fC (Nat.succ_ne_self _) (sy _)
  ·have z:=T.item X' hP hw hK hC i _ s3 σ0 H3 (λ_ _=>False) I3 (fpo (pl:=[]) fr3) st3 go;rw [hA] at z;refine thn z ?_;rintro r s4 ⟨u,hr,h4⟩;subst hr;refine thn h4 ?_;rintro _ s5 ⟨x,H5,I5,r5,y5,st5,fr5⟩;have I5':=I5.pinned (fpo (pl:=[]) fr5) (T.obj _ _ st5);have zg:=hgX _ s5 σ0 H5 x u _ I5' r5 (step x H5 y5);rw [hP,hw,hA,hxe] at zg;refine thn zg ?_;rintro _ s6 ⟨σ6,H6,I6,kp,q6⟩;have zi:=hiX _ s6 σ6 H6 _ I6 q6;rw [hP,hw,hA,hxe] at zi;refine thn zi ?_;rintro b s7 ⟨H7,I7,q7⟩
   -- back to the loop's head
   have back:∀ {H8:Hp} {s8:Shared} {acc':List V} {its':List Value} {n':Nat},Inv X' ([(s.heap.objs.size,Aw its' n')]++Jk fp s5.heap) σ6 H8 s8->Vals acc' its'->acc'.length<=sizeLine->N acc' H8 ->
     ∃ m,m < k/\∃ i H' acc its n,Inv X' [(s.heap.objs.size,Aw its n)] σ0 H' s8/\tn i s8.heap/\(∀ b∈fp,H' b=none)/\Vals acc its/\acc.length<=sizeLine/\W i m acc H':=λ{H8 s8 acc' its' n'} I8 rv' hz' n8=>by
    obtain ⟨m',hm,w8⟩:=hN acc' H8 n8;refine ⟨m',hm,i+1,H8,acc',its',n',(I8.unpinned).weak kp.1.symm kp.2,T.keep _ _ _ st5 λb hb o e=>(I8.pin (b,o) (gm _ (gm _ (G7 hb e)))).1,λb hb=>?_,rv',hz',w8⟩;obtain ⟨o,e,d⟩:=T.obj _ _ st5 b hb;exact (I8.pin (b,o) (gm _ (gm _ (G7 hb e)))).2.1
   cases b with
   | false =>
    rw [if_neg qe] at q7;rw [if_neg qe];exact back I7 rv hz q7
   | true =>
    rw [if_pos rfl] at q7;rw [if_pos rfl];obtain ⟨hlt,q7⟩:=q7;have ze:=heX _ s7 σ6 H7 _ I7 q7;rw [hP,hw,hA,hxe] at ze;refine thn ze ?_;rintro y s8 ⟨yv,H8,I8,r8,q8⟩;obtain ⟨p1,p2,p3,p4,p5⟩:=I8.pin (s.heap.objs.size,Aw its n) (gm _ (xu _ iy));have len:its.toArray.size<=sizeLine:=by
     have:=rv.length;simp only [dm];omega
    refine wpAny_list_append_plain (hsz:=len) ⟨n,p1⟩ ?_;rintro h' ⟨n',pl⟩ sb;have pl':h'.get? s.heap.objs.size=some (Aw (its++[y]) n'):=by rw [pl];simp [Aw]
    have lD:s.heap.objs.size < (pushCells ((s.heap.push (Aw [] 0)).push { cls:=.type "dict",data:=.dict #[] }) scope.names).objs.size:=by
     refine fj ?_ (Fp _ _);rw [ji,ji];omega
    have cne:∀ z c,X'.env.cells.lookup z=some c->c≠s.heap.objs.size:=λz c e q=>by
     obtain ⟨v,hv⟩:=I8.cell z c e;obtain ⟨o,ho,hd⟩:=hv;rw [q] at ho;rw [show s8.heap.get? s.heap.objs.size=some (Aw its n) from p1] at ho;cases ho;cases hd
    have J9:Inv X' (Jk fp s5.heap) σ6 H8 { s8 with heap:=h' }:=by
     refine Inv.turned (t':=s8.toks) (it:=s.heap.objs.size) (I8.pins_of λp hp=>I8.pin p (gm _ (gm _ hp))) (λb o hb e=>sb.extBut b o hb e) p2 (by rw [hL];exact fu (jq _)) (.inr (by rw [hS0];exact cg _)) cne λp hp=>?_
     rw [hpn] at hp;rcases jl.mp hp with hp|hp
     ·have:p.1 < s.heap.objs.size:=Heap.lt_size (I.pin p hp).1;exact fu this
     ·obtain ⟨hb,_⟩:=Ol hp;have:p.1 < s.heap.objs.size:=let ⟨o,e,_⟩:=T.obj 0 _ st p.1 hb;Heap.lt_size e;exact fu this
    have I9:Inv X' ([(s.heap.objs.size,Aw (its++[y]) n')]++Jk fp s5.heap) σ6 H8 { s8 with heap:=h' }:=by
     refine J9.pins_of λp hp=>?_
     rcases jl.mp hp with hp|hp
     ·have e:p=(s.heap.objs.size,Aw (its++[y]) n'):=by simpa using hp
      subst e;exact ⟨pl',p2,p3,p4,λv=>by intro z;cases z⟩
     ·exact J9.pin p (gm _ hp)
    exact back I9 (rv.append (.cons r8 .nil)) (by rw [bh,um];omega) q8
 exact codeAny_compStart_list loop (T.self X.A 0 _ _ _ st0 loop)
theorem oZ (hc:X.calm=true) (S:CompOk X scope) (hit:PI X target iter wi)
  (hg:∀ pins C cells s₀ H₀ fp,PG (Cp X pins N' scope C cells s₀ H₀ fp) target g)
  (hi:∀ pins C cells s₀ H₀ fp,PIf (Cp X pins N' scope C cells s₀ H₀ fp) ifs tc)
  (he:∀ pins C cells s₀ H₀ fp,PE (Cp X pins N' scope C cells s₀ H₀ fp) elt te)
  (hs:∀ x,foldedSetIterable iter X.env x=pure x:=by intro _;rfl) :
  PE X (.ListComp elt [⟨target,iter,ifs,0⟩] scope pos) (cL X N' scope wi g tc te):=by
 intro pins s σ H Q I h;rw [eval_ListComp];have hfree:∀ x∈scope.names,x.2=.free->∃ c,X.env.cells.lookup x.1=some c:=λx hx e=>I.ok.has x.1 (S.fr x hx e)
 refine HY (use:=none) rfl hs (Gi hfree) S.kind (λx hx e=>Ci S.nd (by rw [← e];exact hx)) (thn (hit pins s σ H _ I h) λv s1 h1=>thn h1 λitv s2 h2=>?_);obtain ⟨it,fp,tn,J,H2,e,I2,T,st2,f2,σ0,hσ,W,w0,turn⟩:=h2;subst e;refine M5 (QQ:=λacc H=>∀ p,H p=none->Q (.ref p) (upd H p (.lst acc))) (RR:=λacc C=>compPost (model X.prog X.w) X.A X.xe none (EP X pins σ Q) acc C) hc S hg hi he I2 T st2 f2 hσ W w0 turn ?_;intro C acc H' s' m q I' hD hn hC hne hle;refine ⟨m,hn,λh' sb=>?_⟩;obtain ⟨oC,_,_,hoC,_⟩:=id hn;have uC:upd H' s2.heap.objs.size (.lst acc) C=none:=by rw [Ac hne];exact hC
 have hCL:C≠X.env.locals:=jz (fj I2.lt hle);refine ⟨.ref s2.heap.objs.size,_,I'.turned (t':=s'.toks) (it:=C) (λb o hb e=>sb.extBut b o hb e) uC hCL (.inr (ig I2.sz hle)) (λx c e z=>?_) λp hp z=>?_,rfl,q _ hD⟩
 ·obtain ⟨v,hv⟩:=I2.cell x c e;have:=hv.lt;rw [z] at this;exact jw _ (fj this hle)
 ·have:=Heap.lt_size (I2.pin p hp).1;rw [z] at this;exact jw _ (fj this hle)
theorem Vn {y:Str}{py spos:Pos}{gy:TG}(hc:X.calm=true) (S:CompOk X scope) (hit:PI X target iter wi)
  (hg:∀ pins C cells s₀ H₀ fp,PG (Cp X pins N' scope C cells s₀ H₀ fp) target g)
  (hi:∀ pins C cells s₀ H₀ fp,PIf (Cp X pins N' scope C cells s₀ H₀ fp) ifs tc)
  (he:∀ pins C cells s₀ H₀ fp,PE (Cp X pins N' scope C cells s₀ H₀ fp) elt te)
  (hgy:PG X (.Name y py) gy)
  (hsw:swapsWith (.ListComp elt [⟨target,iter,ifs,0⟩] scope pos) (some (.Name y py)) spos.line X.env=pure true)
  (hs:∀ x,foldedSetIterable iter X.env x=pure x:=by intro _;rfl) :
  PS X (.Assign [.Name y py] (.ListComp elt [⟨target,iter,ifs,0⟩] scope pos) spos) (vW (cL X N' scope wi g tc te) gy):=by
 intro pins s σ H D I h;rw [exec_Assign_Name_used _ _ _ _ hsw];refine ao (GD (ao ?_));show wpAny _ X.A (do let _ ← comprehension (.ListComp elt [⟨target,iter,ifs,0⟩] scope pos) scope X.env _ (newList []) false (eval iter X.env) (some (assign (.Name y py) X.env))) _ _ s;have hfree:∀ x∈scope.names,x.2=.free->∃ c,X.env.cells.lookup x.1=some c:=λx hx e=>I.ok.has x.1 (S.fr x hx e)
 refine ao (qb (HY (use:=some (assign (.Name y py) X.env)) (Q:=λ_ s'=>SP X pins D .next s') rfl hs (Gi hfree) S.kind (λx hx e=>Ci S.nd (by rw [← e];exact hx)) (thn (hit pins s σ H _ I h) λv s1 h1=>thn h1 λitv s2 h2=>?_))
  (λ_ s' hq=>cu (cu hq)) λ_ _ e=>e)
 obtain ⟨it,fp,tn,J,H2,e,I2,T,st2,f2,σ0,hσ,W,w0,turn⟩:=h2;subst e;refine M5 (QQ:=λacc H=>∀ p,H p=none->gy (.ref p) σ (upd H p (.lst acc)) D.nx) (RR:=λacc C=>compPost (model X.prog X.w) X.A X.xe (some (assign (.Name y py) X.env)) (λ_ s'=>SP X pins D .next s') acc C) hc S hg hi he I2 T st2 f2 hσ W w0 turn ?_;intro C acc H' s' m q I' hD hn hC hne hle;obtain ⟨oC,esC,epC,hoC,hdC⟩:=id hn;have uC:upd H' s2.heap.objs.size (.lst acc) C=none:=by rw [Ac hne];exact hC
 have hCL:C≠X.env.locals:=jz (fj I2.lt hle);have hCfs:C ∉ X.fs:=I2.nofs hle;have pinC:Inv X (pins++[(C,oC)]) σ (upd H' s2.heap.objs.size (.lst acc)) s':=by
  refine I'.pins_of λp hp=>?_
  rcases jl.mp hp with hp|hp
  ·exact I'.pin p (gm _ hp)
  ·have e:p=(C,oC):=by simpa using hp
   subst e;refine ⟨hoC,uC,hCL,hCfs,λv z=>?_⟩;rw [hdC.1] at z;cases z
 refine thn (hgy _ s' σ _ (.ref s2.heap.objs.size) _ _ pinC rfl (q _ hD)) ?_;rintro _ s'' ⟨σ2,H3,I3,q3⟩;obtain ⟨p1,p2,p3,p4,p5⟩:=I3.pin (C,oC) (gm _ (gm _ iy));refine ⟨m,⟨oC,esC,epC,p1,hdC⟩,λh' sb=>?_⟩;refine ⟨σ2,H3,(Inv.unpinned I3).turned (t':=s''.toks) (it:=C) (λb o hb e=>sb.extBut b o hb e) p2 hCL (.inr (ig I2.sz hle)) (λx c e z=>?_) λp hp z=>?_,q3⟩
 ·obtain ⟨v,hv⟩:=I2.cell x c e;have:=hv.lt;rw [z] at this;exact jw _ (fj this hle)
 ·have:=Heap.lt_size (I2.pin p hp).1;rw [z] at this;exact jw _ (fj this hle)
end
end L2
namespace DL
open PySem PySem.Spec PyProof.Rows L2
noncomputable abbrev St:=L2.St
structure CloI where
 ps:List Str
 N:List Str
 fr:List Str
 scope:Scope
 body:List Stmt
 inn:Option Str:=none
inductive D where
 | non | bl (b:Bool) | int (i:Int) | str (x:Str) | tup (ds:List D) | ref (n:Nat) | rol (ds:List D) | obj (c:Str) (ks:List Str) (ds:List D) | fn (x:Str) | lam | clo (I:CloI) (ds:List D)
 deriving Inhabited
inductive MO where
 | lst (ds:List D)
 | dct (kvs:List (Key×D))
 | dtk (kvs:List (PyData×D))
 | plc
 | plq (x:Str)
 | plw (x:Str) (o:Option (Nat×Nat×Nat))
 | plr (q:Str)
 | fzd
noncomputable abbrev MH:=List MO
noncomputable abbrev Loc:=List (Option D)
noncomputable def Hy (K:aj) (H:Hp) (a:Addr) (xs:List V):Prop:=(∃ o,H a=some (.frz o (.lst xs))) \/
  ∃ (o:Obj) (its:Array Value) (n:Nat),K.lookup a=some o/\o.cls=.type "list"/\o.dict=none/\o.data=.seq its n/\its.size<=sizeLine/\Vals xs its.toList
theorem Hy.sq {K:aj}{H:Hp}{a:Addr}{xs:List V}(h:Hy K H a xs):SqL K H a xs:=by
 rcases h with ⟨o,h⟩|h
 ·exact .inl (.inr ⟨o,h⟩)
 ·exact .inr h
noncomputable def Xg (fd:FuncData):Prop:=∃ (name qual:Str) (ps:Arguments) (x y:Str) (p q pt:Pos) (k:Nat) (sc:Scope) (pm cdv ct:Value),fd=vm name qual ps (.Tuple [.Name x p,.Name y q] k pt) sc [] pm cdv ct /\
  FnScope [x,y] [x,y] sc/\(x==("__debug__":Str))=false/\(x==("__classdict__":Str))=false/\(y==("__debug__":Str))=false/\(y==("__classdict__":Str))=false/\∀ u v,bindArgs fd ⟨[u,v],[]⟩=pure [(x,u),(y,v)]
noncomputable def H9 (H:Hp) (v:Value) (q:Str):Prop:=∃ c oc u vs tq,v=.ref c/\H c=some (.frz oc u)/\oc.data=.fields vs/\vs[1]?=some (.str q tq)
noncomputable def Xh (H:Hp) (a:Addr):Prop:=∃ o u fd,H a=some (.frz o u)/\o.data=.func fd/\Xg fd/\H9 H fd.code fd.qualname
structure CloSc (I:CloI):Prop where
 kind:I.scope.kind=.function
 co:I.scope.isCoroutine=false
 gen:I.scope.isGenerator=false
 nd:(I.N++I.fr).Nodup
 pre:I.N.take I.ps.length=I.ps
 par:∀ x∈I.ps,I.scope.names.lookup x=some .local
 nocell:∀ y∈I.scope.names,y.2≠.cell
 free:∀ x,I.scope.names.lookup x=some .free->x∈I.fr
 frs:∀ x∈I.fr,I.scope.names.lookup x=some .free
noncomputable def Xi (I:CloI) (fd:FuncData) (cl:List (Str×Addr)):Prop:=((∃ (name qual:Str) (params:Arguments) (doc pm cdv ctv:Value),I.inn=none/\fd=PySem.W.fnX name qual params I.body I.scope cl .none .none doc pm none cdv ctv) \/
  ∃ (name qual:Str) (params:Arguments) (body:Expr) (pos:Pos) (pm cdv ctv:Value),I.body=[.Return (some body) pos]/\fd=vm name qual params body I.scope cl pm cdv ctv)/\∀ us:List Value,us.length=I.ps.length->bindArgs fd ⟨us,[]⟩=pure (I.ps.zip us)
noncomputable def Bu (H:Hp):List Addr->List V->Prop
 | [],[]=>True
 | c::cs,v::vs=>(∃ oc u w,H c=some (.frz oc u)/\oc.data=.cell (some w)/\RelV v w)/\Bu H cs vs
 | _,_=>False
noncomputable def Jx (H:Hp) (v:Value) (P:Addr):Prop:=∃ c oc u vs file tf flags tg inF text tt,v=.ref c/\H c=some (.frz oc u)/\oc.cls=.type "code"/\oc.data=.fields vs/\vs[11]?=some (.ref P)/\vs.getD 11 .none=.ref P/\vs.getD 18 .none=.str file tf/\vs.getD 7 .none=.int flags tg/\vs.getD 9 .none=.bool inF/\vs.getD 10 .none=.int text tt/\c≠P
noncomputable def Jy (H:Hp) (I:CloI) (fd:FuncData) (xs ys:List V):Prop:=match I.inn with
 | none=>xs=ys
 | some q=>fd.qualname ++ ".<locals>." ++ "<lambda>"=q/\∃ P,xs=.ref P::ys/\Jx H fd.code P
noncomputable def Xj (H:Hp) (a:Addr) (I:CloI) (xs:List V):Prop:=∃ o u fd cl,H a=some (.frz o u)/\o.data=.func fd/\CloSc I/\Xi I fd cl/\H9 H fd.code fd.qualname/\cl.map (·.1)=I.fr/\(cl.map (·.2)).Nodup/\∃ ys,Jy H I fd xs ys/\Bu H (cl.map (·.2)) ys
mutual
inductive RD (K:aj) (H:Hp) (ρ:List Addr):D->V->Prop
 | non:RD K H ρ .non .non
 | bl (b:Bool):RD K H ρ (.bl b) (.bl b)
 | int (i:Int):RD K H ρ (.int i) (.int i)
 | str (x:Str):RD K H ρ (.str x) (.str x)
 | tup {ds:List D} {a:Addr} {xs:List V}:SqT K H a xs->RDs K H ρ ds xs->RD K H ρ (.tup ds) (.ref a)
 | ref {n:Nat} {a:Addr}:ρ[n]?=some a->RD K H ρ (.ref n) (.ref a)
 | rol {ds:List D} {a:Addr} {xs:List V}:Hy K H a xs->RDs K H ρ ds xs->RD K H ρ (.rol ds) (.ref a)
 | obj {c:Str} {ks:List Str} {ds:List D} {a C dx:Addr} {xs:List V}:gn K mainGlobals c=some (some (.ref C))->H a=some (.ins C dx (ks.zip xs))->ks.length=xs.length->RDs K H ρ ds xs->RD K H ρ (.obj c ks ds) (.ref a)
 | fn {x:Str} {a:Addr}:gn K mainGlobals x=some (some (.ref a))->RD K H ρ (.fn x) (.ref a)
 | lam {a:Addr}:Xh H a->RD K H ρ .lam (.ref a)
 | clo {I:CloI} {ds:List D} {a:Addr} {xs:List V}:Xj H a I xs->RDs K H ρ ds xs->RD K H ρ (.clo I ds) (.ref a)
inductive RDs (K:aj) (H:Hp) (ρ:List Addr):List D->List V->Prop
 | nil:RDs K H ρ [] []
 | cons {d:D} {v:V} {ds:List D} {vs:List V}:RD K H ρ d v->RDs K H ρ ds vs->RDs K H ρ (d::ds) (v::vs)
end
structure Ev (K:aj) (H:Hp) (ρ:List Addr) (H':Hp) (ρ':List Addr):Prop where
 tup:∀ a xs,SqT K H a xs->SqT K H' a xs
 pre:ρ <+: ρ'
 perm:∀ a xs,Hy K H a xs->Hy K H' a xs
 ins:∀ a C dx fs,H a=some (.ins C dx fs)->H' a=some (.ins C dx fs)
 frz:∀ a o u,H a=some (.frz o u)->H' a=some (.frz o u)
theorem Ev.refl {K:aj}{H:Hp}{ρ:List Addr}:Ev K H ρ H ρ:=⟨λ_ _ h=>h,BR _,λ_ _ h=>h,λ_ _ _ _ h=>h,λ_ _ _ h=>h⟩
theorem Ev.trans {K:aj}{H H1 H2:Hp}{ρ ρ1 ρ2:List Addr}(a:Ev K H ρ H1 ρ1) (b:Ev K H1 ρ1 H2 ρ2):Ev K H ρ H2 ρ2:=⟨λx xs h=>b.tup x xs (a.tup x xs h),a.pre.trans b.pre,λx xs h=>b.perm x xs (a.perm x xs h),λx C dx fs h=>b.ins x C dx fs (a.ins x C dx fs h),λx o u h=>b.frz x o u (a.frz x o u h)⟩
theorem Ev.at {K:aj}{H H':Hp}{ρ ρ':List Addr}(e:Ev K H ρ H' ρ') {n:Nat}{a:Addr}(h:ρ[n]?=some a):ρ'[n]?=some a:=by
 obtain ⟨t,rfl⟩:=e.pre;obtain ⟨hl,_⟩:=bf.mp h;rw [dw hl];exact h
theorem H9.mono {H H':Hp}(e:∀ a o u,H a=some (.frz o u)->H' a=some (.frz o u)) {v:Value}{q:Str}(h:H9 H v q):H9 H' v q :=
 let ⟨c,oc,u,vs,tq,h1,h2,h3⟩:=h;⟨c,oc,u,vs,tq,h1,e _ _ _ h2,h3⟩
theorem Xh.mono {H H':Hp}(e:∀ a o u,H a=some (.frz o u)->H' a=some (.frz o u)) {a:Addr}(h:Xh H a):Xh H' a :=
 let ⟨o,u,fd,h1,h2,h3,h4⟩:=h;⟨o,u,fd,e _ _ _ h1,h2,h3,h4.mono e⟩
theorem Bu.mono {H H':Hp}(e:∀ a o u,H a=some (.frz o u)->H' a=some (.frz o u)):∀ {cs:List Addr}{vs:List V},Bu H cs vs->Bu H' cs vs
 | [],[],_=>trivial
 | _::_,_::_,⟨⟨oc,u,w,h1,h2,h3⟩,t⟩=>⟨⟨oc,u,w,e _ _ _ h1,h2,h3⟩,Bu.mono e t⟩
theorem Jx.mono {H H':Hp}(e:∀ a o u,H a=some (.frz o u)->H' a=some (.frz o u)) {v:Value}{P:Addr}(h:Jx H v P):Jx H' v P :=
 let ⟨c,oc,u,vs,f,tf,fl,tg,i,t,tt,h1,h2,h3⟩:=h;⟨c,oc,u,vs,f,tf,fl,tg,i,t,tt,h1,e _ _ _ h2,h3⟩
theorem Jy.mono {H H':Hp}(e:∀ a o u,H a=some (.frz o u)->H' a=some (.frz o u)) {I:CloI}{fd:FuncData}{xs ys:List V}(h:Jy H I fd xs ys):Jy H' I fd xs ys:=by
 unfold Jy at h ⊢;cases hi:I.inn with
 | none=>rw [hi] at h;exact h
 | some J=>rw [hi] at h;obtain ⟨h0,P,h1,h2⟩:=h;exact ⟨h0,P,h1,h2.mono e⟩
theorem Xj.mono {H H':Hp}(e:∀ a o u,H a=some (.frz o u)->H' a=some (.frz o u)) {a:Addr}{I:CloI}{xs:List V}(h:Xj H a I xs):Xj H' a I xs :=
 let ⟨o,u,fd,cl,h1,h2,h3,h4,h5,h6,h7,ys,h8,h9⟩:=h;⟨o,u,fd,cl,e _ _ _ h1,h2,h3,h4,h5.mono e,h6,h7,ys,h8.mono e,h9.mono e⟩
mutual
theorem RD.mono {K:aj}{H H':Hp}{ρ ρ':List Addr}(e:Ev K H ρ H' ρ'):∀ {d:D}{v:V},RD K H ρ d v->RD K H' ρ' d v
 | _,_,.non=>.non
 | _,_,.bl b=>.bl b
 | _,_,.int i=>.int i
 | _,_,.str x=>.str x
 | _,_,.tup s r=>.tup (e.tup _ _ s) (RDs.mono e r)
 | _,_,.ref h=>.ref (e.at h)
 | _,_,.rol s r=>.rol (e.perm _ _ s) (RDs.mono e r)
 | _,_,.obj n s l r=>.obj n (e.ins _ _ _ _ s) l (RDs.mono e r)
 | _,_,.fn h=>.fn h
 | _,_,.lam h=>.lam (h.mono e.frz)
 | _,_,.clo h r=>.clo (h.mono e.frz) (RDs.mono e r)
theorem RDs.mono {K:aj}{H H':Hp}{ρ ρ':List Addr}(e:Ev K H ρ H' ρ'):∀ {ds:List D}{vs:List V},RDs K H ρ ds vs->RDs K H' ρ' ds vs
 | _,_,.nil=>.nil
 | _,_,.cons r t=>.cons (RD.mono e r) (RDs.mono e t)
end
section
variable {K:aj}{H H':Hp}{ρ ρ':List Addr}
theorem RDs.length:∀ {ds:List D}{vs:List V},RDs K H ρ ds vs->ds.length=vs.length
 | _,_,.nil=>rfl
 | _,_,.cons _ t=>by rw [jk,jk,RDs.length t]
theorem RDs.get:∀ {ds:List D}{vs:List V}{i:Nat}{d:D},RDs K H ρ ds vs->ds[i]?=some d->∃ v,vs[i]?=some v/\RD K H ρ d v
 | _,_,_,_,.nil,e=>by simp at e
 | _,_,0,_,.cons r _,e=>by simp at e;subst e;exact ⟨_,by simp,r⟩
 | _,_,i+1,d,.cons _ t,e=>by
  obtain ⟨v,h1,h2⟩:=RDs.get (i:=i) (d:=d) t (by simpa using e);exact ⟨v,by simpa using h1,h2⟩
theorem RDs.append:∀ {ds es:List D}{vs us:List V},RDs K H ρ ds vs->RDs K H ρ es us->RDs K H ρ (ds++es) (vs++us)
 | _,_,_,_,.nil,s=>s
 | _,_,_,_,.cons r t,s=>.cons r (RDs.append t s)
theorem RDs.take:∀ {ds:List D}{vs:List V}(n:Nat),RDs K H ρ ds vs->RDs K H ρ (ds.take n) (vs.take n)
 | _,_,0,_=>.nil
 | _,_,_+1,.nil=>.nil
 | _,_,n+1,.cons r t=>.cons r (RDs.take n t)
theorem RDs.drop:∀ {ds:List D}{vs:List V}(n:Nat),RDs K H ρ ds vs->RDs K H ρ (ds.drop n) (vs.drop n)
 | _,_,0,r=>r
 | _,_,_+1,.nil=>.nil
 | _,_,n+1,.cons _ t=>RDs.drop n t
theorem RDs.set {d:D}{v:V}(r:RD K H ρ d v):∀ {ds:List D}{vs:List V}(n:Nat),RDs K H ρ ds vs->RDs K H ρ (ds.set n d) (vs.set n v)
 | _,_,_,.nil=>.nil
 | _,_,0,.cons _ t=>.cons r t
 | _,_,n+1,.cons q t=>.cons q (RDs.set r n t)
theorem RDs.reverse {ds:List D}{vs:List V}(h:RDs K H ρ ds vs):RDs K H ρ ds.reverse vs.reverse:=by
 induction ds generalizing vs with
 | nil=>cases h;exact .nil
 | cons d ds ih =>
  cases h with
  | cons r t =>
   rw [BK,BK];exact (ih t).append (.cons r .nil)
theorem RDs.ints:∀ (ns:List Int),RDs K H ρ (ns.map D.int) (ns.map V.int)
 | []=>.nil
 | n::r=>.cons (.int n) (RDs.ints r)
noncomputable def pA (K:aj) (a:Addr):Prop:=∃ (f:Addr) (o:Obj) (fd:FuncData) (c bm:Addr) (ob:Obj),gn K mainGlobals "pattern_of"=some (some (.ref f))/\K.lookup f=some o/\o.data=.func fd/\fd.code=.ref c/\vz K c a=true /\
  gn K mainGlobals "__builtins__"=some (some (.ref bm))/\K.lookup bm=some ob/\ob.cls=.type "module"/\ob.dict=some builtinsNs/\ob.data=.plain/\bm≠builtinsNs/\bm≠mainGlobals
noncomputable abbrev pB:Str:=("pattern_of":Str) ++ ".<locals>." ++ "<lambda>"
noncomputable def cM (K:aj) (H:Hp) (a:Addr):Prop:=∃ ps,H a=some (.tbl ps)/\TriplesOk ps.toList/\(∀ pos v,codeAmong pos ps.toList=some v->H9 H v pB)/\pA K a
noncomputable def M6 (K:aj) (x:Str) (a:Addr):Prop:=∃ (f:Addr) (o:Obj) (fd:FuncData) (c bm:Addr) (ob:Obj),gn K mainGlobals x=some (some (.ref f))/\K.lookup f=some o/\o.data=.func fd/\fd.code=.ref c/\vz K c a=true /\
  gn K mainGlobals "__builtins__"=some (some (.ref bm))/\K.lookup bm=some ob/\ob.cls=.type "module"/\ob.dict=some builtinsNs/\ob.data=.plain/\bm≠builtinsNs/\bm≠mainGlobals
noncomputable def Vo (x:Str):Str:=if x == "law" || x == "_law_worlds" || x == "_law_run" then "_law_pick" else "<lambda>"
noncomputable abbrev Qn (x:Str):Str:=x ++ ".<locals>."++Vo x
noncomputable def cN (K:aj) (H:Hp) (x:Str) (a:Addr):Prop:=∃ ps,H a=some (.tbl ps)/\TriplesOk ps.toList/\(∀ pos v,codeAmong pos ps.toList=some v->H9 H v (Qn x))/\M6 K x a
noncomputable def cO (K:aj) (H:Hp) (q:Str) (a:Addr):Prop:=∃ ps,H a=some (.tbl ps)/\TriplesOk ps.toList/\(∀ pos v,codeAmong pos ps.toList=some v->H9 H v q)/\∃ x pl,M6 K x pl
noncomputable def cP (K:aj) (H:Hp) (ρ:List Addr) (x:Str) (a:Addr):Option (Nat×Nat×Nat)->Prop
 | none=>H a=some (.tbl #[])/\M6 K x a
 | some (l,c,n)=>∃ ps,H a=some (.tbl ps)/\TriplesOk ps.toList/\M6 K x a/\∀ pos:Pos,pos.line=l->pos.col=c->∃ v P,codeAmong pos ps.toList=some v/\H9 H v (Qn x)/\Jx H v P/\ρ[n]?=some P
mutual
noncomputable def toD:PyData->D
 | .int i=>.int i
 | .str x=>.str x
 | .bool b=>.bl b
 | .tuple xs=>.tup (Acv xs)
 | _=>.non
noncomputable def Acv:List PyData->List D
 | []=>[]
 | x::r=>toD x::Acv r
end
noncomputable def kOk (k:PyData):Prop:=kCl k=true/\k.canLay0=true/\k.depth<=8
inductive KN (K:aj) (H:Hp) (ρ:List Addr):List (PyData×D)->List (PyData×Addr×V)->Prop
 | nil:KN K H ρ [] []
 | cons {k:PyData} {d:D} {b:Addr} {v:V} {kvs:List (PyData×D)} {xs:List (PyData×Addr×V)}:kOk k->RD K H ρ (toD k) (.ref b)->RD K H ρ d v->KN K H ρ kvs xs->KN K H ρ ((k,d)::kvs) ((k,b,v)::xs)
theorem KN.mono {kvs:List (PyData×D)}{xs:List (PyData×Addr×V)}(e:Ev K H ρ H' ρ') (h:KN K H ρ kvs xs):KN K H' ρ' kvs xs:=by
 induction h with
 | nil=>exact .nil
 | cons a b c _ ih=>exact .cons a (b.mono e) (c.mono e) ih
noncomputable def RO (K:aj) (H:Hp) (ρ:List Addr) (a:Addr):MO->Prop
 | .lst ds=>∃ xs,H a=some (.lst xs)/\RDs K H ρ ds xs
 | .plc=>cM K H a
 | .plq x=>cN K H x a
 | .plw x o=>cP K H ρ x a o
 | .plr q=>cO K H q a
 | .fzd=>∃ o u,H a=some (.frz o u)
 | .dtk kvs=>∃ xs,H a=some (.dN xs)/\KN K H ρ kvs xs
 | .dct kvs=>∃ xs:List (Key×V),H a=some (.dK xs)/\xs.map (·.1)=kvs.map (·.1)/\RDs K H ρ (kvs.map (·.2)) (xs.map (·.2))
structure RS (K:aj) (H:Hp) (ρ:List Addr) (mh:MH):Prop where
 len:ρ.length=mh.length
 nd:ρ.Nodup
 obj:∀ (n:Nat) (a:Addr) (o:MO),ρ[n]?=some a->mh[n]?=some o->RO K H ρ a o
noncomputable def RL (K:aj) (H:Hp) (ρ:List Addr) (loc:Loc) (σ:St):Prop:=loc.length=σ.length/\∀ (i:Nat) (d:D),loc[i]?=some (some d)->∃ v,σ[i]?=some (some v)/\RD K H ρ d v
theorem RL.mono {loc:Loc}{σ:St}(e:Ev K H ρ H' ρ') (h:RL K H ρ loc σ):RL K H' ρ' loc σ:=⟨h.1,λi d q=>let ⟨v,e1,r⟩:=h.2 i d q;⟨v,e1,r.mono e⟩⟩
theorem RL.set {loc:Loc}{σ:St}{d:D}{v:V}{i:Nat}(h:RL K H ρ loc σ) (r:RD K H ρ d v):RL K H ρ (loc.set i (some d)) (σ.set i (some v)):=by
 refine ⟨by rw [iw,iw];exact h.1,λj d' q=>?_⟩
 by_cases e:i=j
 ·subst e;rw [xg] at q;simp only [if_true] at q;split at q
  ·rename_i hl;cases q;refine ⟨v,?_,r⟩;rw [xg];simp only [if_true];rw [if_pos (by rw [← h.1];exact hl)]
  ·cases q
 ·rw [gk e] at q;rw [gk e];exact h.2 j d' q
theorem RS.at {mh:MH}(h:RS K H ρ mh) {n:Nat}{o:MO}(e:mh[n]?=some o):∃ a,ρ[n]?=some a/\RO K H ρ a o:=by
 obtain ⟨hl,_⟩:=bf.mp e;have hl':n < ρ.length:=by rw [h.len];exact hl
 exact ⟨ρ[n],bw hl',h.obj n _ o (bw hl') e⟩
theorem RS.tracked {mh:MH}(h:RS K H ρ mh) {a:Addr}(ha:a∈ρ):∃ o,H a=some o:=by
 obtain ⟨n,hn,rfl⟩:=wj ha;have hl:n < mh.length:=by rw [← h.len];exact hn
 have q:=h.obj n _ _ (bw hn) (bw hl);cases e:mh[n] with
 | lst ds=>rw [e] at q;obtain ⟨xs,q,_⟩:=q;exact ⟨_,q⟩
 | dct kvs=>rw [e] at q;obtain ⟨xs,q,_⟩:=q;exact ⟨_,q⟩
 | dtk kvs=>rw [e] at q;obtain ⟨xs,q,_⟩:=q;exact ⟨_,q⟩
 | plc=>rw [e] at q;obtain ⟨xs,q,_⟩:=q;exact ⟨_,q⟩
 | plq x=>rw [e] at q;obtain ⟨xs,q,_⟩:=q;exact ⟨_,q⟩
 | plw x o =>
  rw [e] at q;cases o with
  | none=>exact ⟨_,q.1⟩
  | some o=>obtain ⟨xs,q,_⟩:=q;exact ⟨_,q⟩
 | plr x=>rw [e] at q;obtain ⟨xs,q,_⟩:=q;exact ⟨_,q⟩
 | fzd=>rw [e] at q;obtain ⟨o,u,q⟩:=q;exact ⟨_,q⟩
theorem RO.read {a:Addr}{ds:List D}(h:RO K H ρ a (.lst ds)):∃ xs,SqL K H a xs/\RDs K H ρ ds xs:=by
 obtain ⟨xs,q,r⟩:=h;exact ⟨xs,.inl (.inl q),r⟩
theorem Xk {a p:Addr}{o:HO}{xs:List V}(hp:H p=none) (h:SqT K H a xs):SqT K (upd H p o) a xs:=by
 rcases h with (h|⟨ob,h⟩)|h
 ·exact .inl (.inl (by rw [Ac (Ad h hp)];exact h))
 ·exact .inl (.inr ⟨ob,by rw [Ac (Ad h hp)];exact h⟩)
 ·exact .inr h
theorem pC {a p:Addr}{ys zs xs:List V}(hp:H p=some (.lst ys)) (h:SqT K H a xs):SqT K (upd H p (.lst zs)) a xs:=by
 rcases h with (h|⟨ob,h⟩)|h
 ·exact .inl (.inl (by rw [Ac (Ju h hp (by intro z;cases z))];exact h))
 ·exact .inl (.inr ⟨ob,by rw [Ac (Ju h hp (by intro z;cases z))];exact h⟩)
 ·exact .inr h
theorem S7 {a p:Addr}{o:HO}{xs:List V}(hp:H p=none) (h:Hy K H a xs):Hy K (upd H p o) a xs:=by
 rcases h with ⟨ob,h⟩|h
 ·exact .inl ⟨ob,by rw [Ac (Ad h hp)];exact h⟩
 ·exact .inr h
theorem cQ {a p:Addr}{ys zs xs:List V}(hp:H p=some (.lst ys)) (h:Hy K H a xs):Hy K (upd H p (.lst zs)) a xs:=by
 rcases h with ⟨ob,h⟩|h
 ·exact .inl ⟨ob,by rw [Ac (Ju h hp (by intro z;cases z))];exact h⟩
 ·exact .inr h
theorem Ev.new {p:Addr}{o:HO}(hp:H p=none):Ev K H ρ (upd H p o) ρ:=⟨λ_ _ h=>Xk hp h,BR _,λ_ _ h=>S7 hp h,λa _ _ _ h=>by rw [Ac (Ad h hp)];exact h,λa _ _ h=>by rw [Ac (Ad h hp)];exact h⟩
theorem Ev.newL {p:Addr}{o:HO}(hp:H p=none):Ev K H ρ (upd H p o) (ρ++[p]):=⟨λ_ _ h=>Xk hp h,List.prefix_append _ _,λ_ _ h=>S7 hp h,λa _ _ _ h=>by rw [Ac (Ad h hp)];exact h,λa _ _ h=>by rw [Ac (Ad h hp)];exact h⟩
theorem Ev.lst {p:Addr}{ys zs:List V}(hp:H p=some (.lst ys)):Ev K H ρ (upd H p (.lst zs)) ρ:=⟨λ_ _ h=>pC hp h,BR _,λ_ _ h=>cQ hp h,λa _ _ _ h=>by rw [Ac (Ju h hp (by intro z;cases z))];exact h,λa _ _ h=>by rw [Ac (Ju h hp (by intro z;cases z))];exact h⟩
theorem RO.mono {a:Addr}{o:MO}(e:Ev K H ρ H' ρ') (s:H' a=H a) (h:RO K H ρ a o):RO K H' ρ' a o:=by
 cases o with
 | lst ds=>obtain ⟨xs,q,r⟩:=h;exact ⟨xs,by rw [s];exact q,r.mono e⟩
 | dct kvs=>obtain ⟨xs,q,k,r⟩:=h;exact ⟨xs,by rw [s];exact q,k,r.mono e⟩
 | dtk kvs=>obtain ⟨xs,q,r⟩:=h;exact ⟨xs,by rw [s];exact q,r.mono e⟩
 | plc=>obtain ⟨ps,q,t,c,k⟩:=h;exact ⟨ps,by rw [s];exact q,t,λpos v z=>(c pos v z).mono e.frz,k⟩
 | plq x=>obtain ⟨ps,q,t,c,k⟩:=h;exact ⟨ps,by rw [s];exact q,t,λpos v z=>(c pos v z).mono e.frz,k⟩
 | plw x o =>
  cases o with
  | none=>exact ⟨by rw [s];exact h.1,h.2⟩
  | some o =>
   obtain ⟨ps,q,t,k,c⟩:=h;refine ⟨ps,by rw [s];exact q,t,k,λpos l1 l2=>?_⟩;obtain ⟨v,P,c1,c2,c3,c4⟩:=c pos l1 l2;exact ⟨v,P,c1,c2.mono e.frz,c3.mono e.frz,e.at c4⟩
 | plr x=>obtain ⟨ps,q,t,c,k⟩:=h;exact ⟨ps,by rw [s];exact q,t,λpos v z=>(c pos v z).mono e.frz,k⟩
 | fzd=>obtain ⟨o,u,q⟩:=h;exact ⟨o,u,by rw [s];exact q⟩
theorem RS.new {mh:MH}{p:Addr}{o:HO}(h:RS K H ρ mh) (hp:H p=none):RS K (upd H p o) ρ mh :=
 ⟨h.len,h.nd,λn a ob e1 e2=>(h.obj n a ob e1 e2).mono (Ev.new hp) (by
  obtain ⟨oo,q⟩:=h.tracked (di e1)
  rw [Ac (Ad q hp)])⟩
theorem RS.newL {mh:MH}{p:Addr}{xs:List V}{ds:List D}(h:RS K H ρ mh) (hp:H p=none) (r:RDs K H ρ ds xs):RS K (upd H p (.lst xs)) (ρ++[p]) (mh++[.lst ds]):=by
 have hnp:p ∉ ρ:=λz=>by
  obtain ⟨o,q⟩:=h.tracked z;rw [hp] at q;cases q
 refine ⟨by rw [bh,bh,h.len];rfl,?_,λn a ob e1 e2=>?_⟩
 ·rw [vd]
  exact ⟨h.nd,zx _ _,λa ha b hb z=>by
   rw [jg.mp hb] at z;rw [z] at ha;exact hnp ha⟩
 ·by_cases hn:n < ρ.length
  ·rw [dw hn] at e1;rw [dw (by rw [← h.len];exact hn)] at e2;refine (h.obj n a ob e1 e2).mono (Ev.newL hp) ?_;obtain ⟨oo,q⟩:=h.tracked (di e1);rw [Ac (Ad q hp)]
  ·rw [gb (by omega)] at e1;rw [gb (by rw [← h.len];omega)] at e2;have n0:n - ρ.length=0:=by
    have:=(bf.mp e1).1;simp at this;omega
   rw [n0] at e1;rw [← h.len,n0] at e2;cases e1;cases e2;exact ⟨xs,Ai,r.mono (Ev.newL hp)⟩
theorem RS.setL {mh:MH}{n:Nat}{p:Addr}{ys xs:List V}{ds:List D}(h:RS K H ρ mh) (hn:ρ[n]?=some p) (hp:H p=some (.lst ys)) (r:RDs K H ρ ds xs):RS K (upd H p (.lst xs)) ρ (mh.set n (.lst ds)):=by
 refine ⟨by rw [iw];exact h.len,h.nd,λm a ob e1 e2=>?_⟩
 by_cases hm:n=m
 ·subst hm;rw [hn] at e1;cases e1;rw [xg] at e2;simp only [if_true] at e2;split at e2
  ·cases e2;exact ⟨xs,Ai,r.mono (Ev.lst hp)⟩
  ·cases e2
 ·rw [gk hm] at e2;refine (h.obj m a ob e1 e2).mono (Ev.lst hp) ?_;rw [Ac];intro z;subst z;exact hm ((vf (bf.mp hn).1 h.nd).mp (hn.trans e1.symm))
end
noncomputable abbrev DM (α:Type):=Loc->MH->Option (α×MH)
noncomputable def DM.bnd {α β:Type}(m:DM α) (f:α->DM β):DM β:=λloc mh=>match m loc mh with
 | none=>none
 | some (a,mh')=>f a loc mh'
theorem Al {α β:Type}{m:DM α}{f:α->DM β}{loc:Loc}{mh:MH}{r:β×MH}(h:m.bnd f loc mh=some r):∃ a m1,m loc mh=some (a,m1)/\f a loc m1=some r:=by
 unfold DM.bnd at h;split at h
 ·cases h
 ·rename_i a m1 e;exact ⟨a,m1,e,h⟩
noncomputable def Zr {α:Type}(a:α):DM α:=λ_ mh=>some (a,mh)
noncomputable def Zl {α:Type}(f:MH->Option (α×MH)):DM α:=λ_ mh=>f mh
noncomputable def Zb {α:Type}:DM α:=λ_ _=>none
noncomputable def Co (K:aj) (H:Hp) (ρ:List Addr) (mh':MH) (d:D) (Q:VK):Prop:=∀ H' ρ' v,Ev K H ρ H' ρ'->RS K H' ρ' mh'->RD K H' ρ' d v->Q v H'
noncomputable def tD (K:aj) (loc:Loc) (mh:MH) (r:Option (D×MH)):TE:=λσ H Q=>∃ ρ d mh',r=some (d,mh')/\RL K H ρ loc σ/\RS K H ρ mh/\Co K H ρ mh' d Q
noncomputable def tDT (K:aj) (loc:Loc) (mh:MH) (r:Option (Bool×MH)):TT:=λσ H Q=>∃ ρ b mh',r=some (b,mh')/\RL K H ρ loc σ/\RS K H ρ mh/\∀ H' ρ',Ev K H ρ H' ρ'->RS K H' ρ' mh'->Q b H'
noncomputable def tDA (K:aj) (loc:Loc) (mh:MH) (r:Option (List D×MH)):TA:=λσ H Q=>∃ ρ ds mh',r=some (ds,mh')/\RL K H ρ loc σ/\RS K H ρ mh/\∀ H' ρ' vs,Ev K H ρ H' ρ'->RS K H' ρ' mh'->RDs K H' ρ' ds vs->Q vs H'
noncomputable def DE (X:Cx) (e:Expr) (m:DM D):Prop:=∀ loc mh,PE X e (tD X.K loc mh (m loc mh))
noncomputable def DT (X:Cx) (e:Expr) (m:DM Bool):Prop:=∀ loc mh,PT X e (tDT X.K loc mh (m loc mh))
noncomputable def DA (X:Cx) (es:List Expr) (m:DM (List D)):Prop:=∀ loc mh,PA X es (tDA X.K loc mh (m loc mh))
theorem Bt {X:Cx}{e:Expr}{t t':TE}(h:PE X e t) (i:∀ σ H Q,t' σ H Q->t σ H Q):PE X e t':=λpins s σ H Q I q=>h pins s σ H Q I (i σ H Q q)
theorem Qo {X:Cx}{e:Expr}{t t':TT}(h:PT X e t) (i:∀ σ H Q,t' σ H Q->t σ H Q):PT X e t':=λpins s σ H Q I q=>h pins s σ H Q I (i σ H Q q)
theorem Qp {X:Cx}{es:List Expr}{t t':TA}(h:PA X es t) (i:∀ σ H Q,t' σ H Q->t σ H Q):PA X es t':=λpos pins s σ H Q I q=>h pos pins s σ H Q I (i σ H Q q)
theorem pD {K:aj}{loc:Loc}{mh:MH}{σ:St}{H:Hp}{Q:VK}(h:tD K loc mh none σ H Q):False:=by obtain ⟨_,_,_,e,_⟩:=h;cases e
theorem Dq {X:Cx}{e:Expr}{loc:Loc}{mh:MH}:PE X e (tD X.K loc mh none):=λ_ _ _ _ _ _ h=>(pD h).elim
theorem Xl {X:Cx}{e:Expr}{loc:Loc}{mh:MH}:PT X e (tDT X.K loc mh none):=λ_ _ _ _ _ _ h=>by obtain ⟨_,_,_,e,_⟩:=h;cases e
theorem Xm {X:Cx}{es:List Expr}{loc:Loc}{mh:MH}:PA X es (tDA X.K loc mh none):=λ_ _ _ _ _ _ _ h=>by obtain ⟨_,_,_,e,_⟩:=h;cases e
theorem Ak {X:Cx}{e:Expr}:DE X e Zb:=λ_ _=>Dq
theorem Ef {X:Cx}{e:Expr}:DT X e Zb:=λ_ _=>Xl
theorem cR {X:Cx}{es:List Expr}:DA X es Zb:=λ_ _=>Xm
section
variable {X:Cx}{a b c e:Expr}{ma mb mc:DM D}{pos:Pos}
theorem pF {d:D}{v:V}(h:PE X e (tC v)) (r:∀ K H ρ,RD K H ρ d v):DE X e (Zr d):=by
 refine λloc mh=>Bt h ?_
 rintro σ H Q ⟨ρ,d',mh',q,rl,rs,co⟩;cases q;exact co H ρ v Ev.refl rs (r _ _ _)
theorem cT {i:Nat}{x:Str}(hN:X.N[i]?=some x) (hv:Vis X.env.scope x) (hd:(x==("__debug__":Str))=false) (hcd:(x==("__classdict__":Str))=false) :
  DE X (.Name x pos) (λloc mh=>match loc[i]? with | some (some d)=>some (d,mh) | _=>none):=by
 refine λloc mh=>Bt (Kq hN hv hd hcd) ?_
 rintro σ H Q ⟨ρ,d',mh',q,rl,rs,co⟩;dsimp only at q;split at q
 ·rename_i d e;cases q;obtain ⟨v,h1,h2⟩:=rl.2 i d' e;exact ⟨v,h1,co H ρ v Ev.refl rs h2⟩
 ·cases q
noncomputable def rD (K:aj) (f:D->D->MH->Option (D×MH)):R2:=λx y H Q=>∃ ρ mh dx dy d mh',f dx dy mh=some (d,mh')/\RS K H ρ mh/\RD K H ρ dx x/\RD K H ρ dy y/\Co K H ρ mh' d Q
noncomputable def rD1 (K:aj) (f:D->MH->Option (D×MH)):V->Hp->VK->Prop:=λx H Q=>∃ ρ mh dx d mh',f dx mh=some (d,mh')/\RS K H ρ mh/\RD K H ρ dx x/\Co K H ρ mh' d Q
noncomputable def rDs (K:aj) (f:List D->MH->Option (D×MH)):List V->Hp->VK->Prop:=λxs H Q=>∃ ρ mh ds d mh',f ds mh=some (d,mh')/\RS K H ρ mh/\RDs K H ρ ds xs/\Co K H ρ mh' d Q
theorem Co.ev {K:aj}{H H1:Hp}{ρ ρ1:List Addr}{mh':MH}{d:D}{Q:VK}(e:Ev K H ρ H1 ρ1) (c:Co K H ρ mh' d Q):Co K H1 ρ1 mh' d Q:=λH' ρ' v e' rs r=>c H' ρ' v (e.trans e') rs r
noncomputable def dop (f:D->D->MH->Option (D×MH)) (ma mb:DM D):DM D:=ma.bnd λx=>mb.bnd λy=>Zl (f x y)
theorem two {K:aj}{f:D->D->MH->Option (D×MH)}{loc:Loc}{mh:MH}{σ:St}{H:Hp}{Q:VK}(h:tD K loc mh (dop f ma mb loc mh) σ H Q) :
  ∃ x m1,ma loc mh=some (x,m1)/\tOp (rD K f) (tD K loc mh (ma loc mh)) (tD K loc m1 (mb loc m1)) σ H Q:=by
 obtain ⟨ρ,d,mh',q,rl,rs,co⟩:=h;obtain ⟨x,m1,ea,q⟩:=Al q;obtain ⟨y,m2,eb,q⟩:=Al q;refine ⟨x,m1,ea,ρ,x,m1,ea,rl,rs,λH1 ρ1 v1 e1 rs1 r1=>⟨ρ1,y,m2,eb,rl.mono e1,rs1,λH2 ρ2 v2 e2 rs2 r2=>?_⟩⟩;exact ⟨ρ2,m2,x,y,d,mh',q,rs2,r1.mono e2,r2,co.ev (e1.trans e2)⟩
theorem Vp {f:D->D->MH->Option (D×MH)}(h:∀ ta tb,PE X a ta->PE X b tb->PE X e (tOp (rD X.K f) ta tb)) (ha:DE X a ma) (hb:DE X b mb):DE X e (dop f ma mb):=λloc mh=>by
 cases ea:ma loc mh with
 | none =>
  have:dop f ma mb loc mh=none:=by unfold dop DM.bnd;rw [ea]
  rw [this];exact Dq
 | some p =>
  refine Bt (h _ _ (ha loc mh) (hb loc p.2)) λσ H Q q=>?_
  obtain ⟨x,m1,e1,q⟩:=two q;rw [ea] at e1;cases e1;exact q
theorem Acw {op:Operator}{f:D->D->MH->Option (D×MH)}(ho:OpR X (binaryOp op) (rD X.K f)) (ha:DE X a ma) (hb:DE X b mb):DE X (.BinOp a op b pos) (dop f ma mb):=Vp (λ_ _ p q=>Acb ho p q) ha hb
theorem xJ {op:CmpOp}{f:D->D->MH->Option (D×MH)}(ho:OpR X (compareOp op) (rD X.K f)) (hm:behindInMarks op b=false) (ha:DE X a ma) (hb:DE X b mb):DE X (.Compare a [op] [b] pos) (dop f ma mb):=Vp (λ_ _ p q=>oG ho p q hm) ha hb
theorem Acx {f:D->D->MH->Option (D×MH)}(ho:IxR X (rD X.K f)) (hs:Qg b) (ha:DE X a ma) (hb:DE X b mb):DE X (.Subscript a b pos) (dop f ma mb):=Vp (λ_ _ p q=>Aco ho p q hs) ha hb
theorem Acy {op:UnaryOp}{f:D->MH->Option (D×MH)}(ho:UnR X (unaryOp op) (rD1 X.K f)) (ha:DE X a ma):DE X (.UnaryOp op a pos) (ma.bnd λx=>Zl (f x)):=λloc mh =>
 Bt (Acd ho (ha loc mh)) λσ H Q ⟨ρ,d,mh',q,rl,rs,co⟩=>by
 obtain ⟨x,m1,ea,q⟩:=Al q
 ·exact ⟨ρ,x,m1,ea,rl,rs,λH1 ρ1 v1 e1 rs1 r1=>⟨ρ1,m1,x,d,mh',q,rs1,r1,co.ev e1⟩⟩
noncomputable def asB:D->Option Bool
 | .bl b=>some b
 | _=>none
noncomputable def Ar (ma:DM D):DM Bool:=ma.bnd λx=>match asB x with | some b=>Zr b | none=>Zb
theorem pG {f:D->D->MH->Option (D×MH)}(h:∀ ta tb,PE X a ta->PE X b tb->PT X e (bR (tOp (rD X.K f) ta tb))) (ha:DE X a ma) (hb:DE X b mb):DT X e (Ar (dop f ma mb)):=λloc mh=>by
 cases ea:ma loc mh with
 | none =>
  have:Ar (dop f ma mb) loc mh=none:=by unfold Ar dop DM.bnd;rw [ea]
  rw [this];exact Xl
 | some p =>
  refine Qo (h _ _ (ha loc mh) (hb loc p.2)) ?_;rintro σ H Q ⟨ρ,k,mh',q,rl,rs,co⟩;unfold Ar at q;cases ed:dop f ma mb loc mh with
  | none=>unfold DM.bnd at q;rw [ed] at q;cases q
  | some z =>
   obtain ⟨d,m2⟩:=z;unfold DM.bnd at q;rw [ed] at q;cases d with
   | bl k' =>
    cases q;have t:tD X.K loc mh (dop f ma mb loc mh) σ H (λx H'=>∃ k,x=.bl k/\Q k H'):=⟨ρ,.bl k,mh',ed,rl,rs,λH' ρ' v e' rs' r'=>by cases r';exact ⟨k,rfl,co H' ρ' e' rs'⟩⟩;obtain ⟨x,m1,e1,q⟩:=two t;rw [ea] at e1;cases e1;exact q
   | non=>cases q
   | int i=>cases q
   | str s=>cases q
   | tup ds=>cases q
   | ref n=>cases q
   | rol ds=>cases q
   | obj c ks ds=>cases q
   | fn x=>cases q
   | lam=>cases q
   | clo=>cases q
theorem xK {op:CmpOp}{f:D->D->MH->Option (D×MH)}(ho:OpR X (compareOp op) (rD X.K f)) (hm:behindInMarks op b=false) (ha:DE X a ma) (hb:DE X b mb):DT X (.Compare a [op] [b] pos) (Ar (dop f ma mb)):=pG (λ_ _ p q=>oH ho p q hm) ha hb
noncomputable def Gv (t u:DM Bool):DM Bool:=t.bnd λc=>if c=true then u else Zr false
noncomputable def Fz (t u:DM Bool):DM Bool:=t.bnd λc=>if c=true then Zr true else u
noncomputable def Ce (t:DM Bool):DM Bool:=t.bnd λc=>Zr (!c)
noncomputable def DW (X:Cx) (e:Expr) (m:DM Bool):Prop:=∀ loc mh,PW X e (tDT X.K loc mh (m loc mh))
theorem Xn {loc:Loc}{mh:MH}:PW X e (tDT X.K loc mh none):=λ_ _ _ _ _ _ _ h=>by obtain ⟨_,_,_,e,_⟩:=h;cases e
theorem cU {t t':TT}(h:PW X e t) (i:∀ σ H Q,t' σ H Q->t σ H Q):PW X e t':=λwh pins s σ H Q I q=>h wh pins s σ H Q I (i σ H Q q)
theorem DW.dt {m:DM Bool}(h:DW X e m):DT X e m:=λloc mh=>(h loc mh).pt
variable {t u:DM Bool}{rest:List Expr}
theorem pI (ha:DT X a t):DW X (.BoolOp .And [a] pos) t:=λloc mh=>nR (ha loc mh)
theorem xM (ha:DT X a t):DW X (.BoolOp .Or [a] pos) t:=λloc mh=>vJ (ha loc mh)
theorem xN (ha:DT X a t) (hb:DW X (.BoolOp .And (b::rest) pos) u):DW X (.BoolOp .And (a::b::rest) pos) (Gv t u):=λloc mh=>by
 cases ea:t loc mh with
 | none =>
  have:Gv t u loc mh=none:=by unfold Gv DM.bnd;rw [ea]
  rw [this];exact Xn
 | some p =>
  obtain ⟨k,m1⟩:=p;refine cU (vK (ha loc mh) (hb loc m1)) ?_;rintro σ H Q ⟨ρ,k',mh',q,rl,rs,co⟩;have q':(if k=true then u else Zr false) loc m1=some (k',mh'):=by unfold Gv DM.bnd at q;rw [ea] at q;exact q
  refine ⟨ρ,k,m1,ea,rl,rs,λH1 ρ1 e1 rs1=>?_⟩;cases k with
  | true=>exact S5 ⟨ρ1,k',mh',q',rl.mono e1,rs1,λH2 ρ2 e2 rs2=>co H2 ρ2 (e1.trans e2) rs2⟩
  | false=>cases q';exact Sy (co H1 ρ1 e1 rs1)
theorem Acz (ha:DT X a t) (hb:DW X (.BoolOp .Or (b::rest) pos) u):DW X (.BoolOp .Or (a::b::rest) pos) (Fz t u):=λloc mh=>by
 cases ea:t loc mh with
 | none =>
  have:Fz t u loc mh=none:=by unfold Fz DM.bnd;rw [ea]
  rw [this];exact Xn
 | some p =>
  obtain ⟨k,m1⟩:=p;refine cU (Abz (ha loc mh) (hb loc m1)) ?_;rintro σ H Q ⟨ρ,k',mh',q,rl,rs,co⟩;have q':(if k=true then Zr true else u) loc m1=some (k',mh'):=by unfold Fz DM.bnd at q;rw [ea] at q;exact q
  refine ⟨ρ,k,m1,ea,rl,rs,λH1 ρ1 e1 rs1=>?_⟩;cases k with
  | true=>cases q';exact S5 (co H1 ρ1 e1 rs1)
  | false=>exact Sy ⟨ρ1,k',mh',q',rl.mono e1,rs1,λH2 ρ2 e2 rs2=>co H2 ρ2 (e1.trans e2) rs2⟩
theorem xO (ha:DT X a t):DT X (.UnaryOp .Not a pos) (Ce t):=λloc mh=>by
 refine Qo (vL (ha loc mh)) ?_;rintro σ H Q ⟨ρ,k',mh',q,rl,rs,co⟩;obtain ⟨k,m1,ea,q⟩:=Al q
 ·cases q;exact ⟨ρ,k,mh',ea,rl,rs,λH1 ρ1 e1 rs1=>co H1 ρ1 e1 rs1⟩
noncomputable def dIf (t:DM Bool) (ma mb:DM D):DM D:=t.bnd λc=>if c=true then ma else mb
theorem Ac0 (hc:DT X c t) (ha:DE X a ma) (hb:DE X b mb):DE X (.IfExp c a b pos) (dIf t ma mb):=λloc mh=>by
 cases ea:t loc mh with
 | none =>
  have:dIf t ma mb loc mh=none:=by unfold dIf DM.bnd;rw [ea]
  rw [this];exact Dq
 | some p =>
  obtain ⟨k,m1⟩:=p;refine Bt (bI (hc loc mh) (ha loc m1) (hb loc m1)) ?_;rintro σ H Q ⟨ρ,d,mh',q,rl,rs,co⟩;have q':(if k=true then ma else mb) loc m1=some (d,mh'):=by unfold dIf DM.bnd at q;rw [ea] at q;exact q
  refine ⟨ρ,k,m1,ea,rl,rs,λH1 ρ1 e1 rs1=>?_⟩;cases k with
  | true=>exact S5 ⟨ρ1,d,mh',q',rl.mono e1,rs1,co.ev e1⟩
  | false=>exact Sy ⟨ρ1,d,mh',q',rl.mono e1,rs1,co.ev e1⟩
noncomputable def Ca (ma mb:DM D):DM D:=(Ar ma).bnd λc=>if c=true then mb else Zr (.bl false)
noncomputable def S8 (ma mb:DM D):DM D:=(Ar ma).bnd λc=>if c=true then Zr (.bl true) else mb
theorem Ft {loc:Loc}{mh:MH}{k:Bool}{m1:MH}(h:Ar ma loc mh=some (k,m1)):ma loc mh=some (.bl k,m1):=by
 obtain ⟨x,m2,ea,h⟩:=Al h
 ·cases x with
  | bl b=>cases h;exact ea
  | non=>cases h
  | int i=>cases h
  | str s=>cases h
  | tup ds=>cases h
  | ref n=>cases h
  | rol ds=>cases h
  | obj c ks ds=>cases h
  | fn x=>cases h
  | lam=>cases h
  | clo=>cases h
theorem xP {op}(ha:DE X a ma):DE X (.BoolOp op [a] pos) ma:=λloc mh=>vM (ha loc mh)
theorem xQ (ha:DE X a ma) (hb:DE X (.BoolOp .And (b::rest) pos) mb):DE X (.BoolOp .And (a::b::rest) pos) (Ca ma mb):=λloc mh=>by
 cases ea:Ar ma loc mh with
 | none =>
  have:Ca ma mb loc mh=none:=by unfold Ca DM.bnd;rw [ea]
  rw [this];exact Dq
 | some p =>
  obtain ⟨k,m1⟩:=p;refine Bt (vN (ha loc mh) (hb loc m1)) ?_;rintro σ H Q ⟨ρ,d,mh',q,rl,rs,co⟩;have q':(if k=true then mb else Zr (.bl false)) loc m1=some (d,mh'):=by unfold Ca DM.bnd at q;rw [ea] at q;exact q
  refine ⟨ρ,.bl k,m1,Ft ea,rl,rs,λH1 ρ1 v e1 rs1 r1=>?_⟩;cases r1;refine ⟨k,rfl,?_⟩;cases k with
  | true=>exact S5 ⟨ρ1,d,mh',q',rl.mono e1,rs1,co.ev e1⟩
  | false=>cases q';exact Sy (co H1 ρ1 _ e1 rs1 (.bl false))
theorem Ac1 (ha:DE X a ma) (hb:DE X (.BoolOp .Or (b::rest) pos) mb):DE X (.BoolOp .Or (a::b::rest) pos) (S8 ma mb):=λloc mh=>by
 cases ea:Ar ma loc mh with
 | none =>
  have:S8 ma mb loc mh=none:=by unfold S8 DM.bnd;rw [ea]
  rw [this];exact Dq
 | some p =>
  obtain ⟨k,m1⟩:=p;refine Bt (Ab2 (ha loc mh) (hb loc m1)) ?_;rintro σ H Q ⟨ρ,d,mh',q,rl,rs,co⟩;have q':(if k=true then Zr (.bl true) else mb) loc m1=some (d,mh'):=by unfold S8 DM.bnd at q;rw [ea] at q;exact q
  refine ⟨ρ,.bl k,m1,Ft ea,rl,rs,λH1 ρ1 v e1 rs1 r1=>?_⟩;cases r1;refine ⟨k,rfl,?_⟩;cases k with
  | true=>cases q';exact S5 (co H1 ρ1 _ e1 rs1 (.bl true))
  | false=>exact Sy ⟨ρ1,d,mh',q',rl.mono e1,rs1,co.ev e1⟩
theorem xR (ha:DE X a ma):DE X (.UnaryOp .Not a pos) ((Ar ma).bnd λc=>Zr (.bl (!c))):=λloc mh=>by
 refine Bt (vO (ha loc mh)) ?_;rintro σ H Q ⟨ρ,d,mh',q,rl,rs,co⟩;cases ea:Ar ma loc mh with
 | none=>unfold DM.bnd at q;rw [ea] at q;cases q
 | some p =>
  obtain ⟨k,m1⟩:=p;unfold DM.bnd at q;rw [ea] at q;cases q;refine ⟨ρ,.bl k,mh',Ft ea,rl,rs,λH1 ρ1 v e1 rs1 r1=>?_⟩;cases r1;exact ⟨k,rfl,co H1 ρ1 _ e1 rs1 (.bl _)⟩
noncomputable def cV:D->MH->Option Bool
 | .non,_=>some false
 | .bl b,_=>some b
 | .int i,_=>some (i != 0)
 | .str y,_=>if y.length<=sizeLine then some ((y.length:Int) != 0) else none
 | .tup ds,_=>some (!ds.isEmpty)
 | .ref n,mh=>match mh[n]? with | some (.lst o)=>some (!o.isEmpty) | _=>none
 | .rol ds,_=>some (!ds.isEmpty)
 | .obj ..,_=>none
 | .fn _,_=>none
 | .lam,_=>none
 | .clo _ _,_=>none
theorem Ia {K:aj}{H:Hp}{ρ:List Addr}{ds:List D}{xs:List V}(r:RDs K H ρ ds xs):ds.isEmpty=xs.isEmpty:=by cases r <;> rfl
theorem pJ {K:aj}{H:Hp}{ρ:List Addr}{mh:MH}{d:D}{v:V}{k:Bool}(rs:RS K H ρ mh) (r:RD K H ρ d v) (e:cV d mh=some k):wM K v H k:=by
 cases r with
 | non=>cases e;rfl
 | bl b=>cases e;rfl
 | int i=>cases e;rfl
 | str x =>
  have e:(if x.length<=sizeLine then some ((x.length:Int) != 0) else none)=some k:=e;split at e
  ·rename_i hz;cases e;exact ⟨hz,rfl⟩
  ·cases e
 | tup s r=>cases e;exact .inr (.inl ⟨_,s,by rw [Ia r]⟩)
 | rol s r=>cases e;exact .inl ⟨_,s.sq,by rw [Ia r]⟩
 | obj n s l r=>cases e
 | fn h=>cases e
 | lam h=>cases e
 | clo=>cases e
 | @ref n a h =>
  have e:(match mh[n]? with | some (.lst o)=>some (!o.isEmpty) | _=>none)=some k:=e;split at e
  ·rename_i o eo;cases e;obtain ⟨a',ha,ro⟩:=rs.at eo;rw [h] at ha;cases ha;obtain ⟨xs,q,r⟩:=ro.read;exact .inl ⟨xs,q,by rw [Ia r]⟩
  ·cases e
noncomputable def Dh (ma:DM D):DM Bool:=ma.bnd λx=>λ_ mh=>match cV x mh with | some k=>some (k,mh) | none=>none
theorem S9 (ha:DE X a ma) (he:∀ whole,isTrue a X.env whole=(do let v ← whole;standAt a.pos;holding [v] (truthy v))):DT X a (Dh ma):=λloc mh=>by
 refine Qo (bV (ha loc mh) he) ?_;rintro σ H Q ⟨ρ,k,mh',q,rl,rs,co⟩;obtain ⟨x,m1,ea,q⟩:=Al q
 ·split at q
  ·rename_i k' ek;cases q;exact ⟨ρ,x,mh',ea,rl,rs,λH1 ρ1 v e1 rs1 r1=>⟨k,pJ rs1 r1 ek,co H1 ρ1 e1 rs1⟩⟩
  ·cases q
noncomputable def Aa (ma:DM D) (mr:DM (List D)):DM (List D):=ma.bnd λx=>mr.bnd λxs=>Zr (x::xs)
theorem Vq:DA X [] (Zr []):=by
 refine λloc mh=>Qp Vi ?_
 rintro σ H Q ⟨ρ,ds,mh',q,rl,rs,co⟩;cases q;exact co H ρ [] Ev.refl rs .nil
theorem Mi {es:List Expr}{mr:DM (List D)}(ha:DE X a ma) (hr:DA X es mr) (hs:starEach (a::es) X.env=(false,eval a X.env)::starEach es X.env):DA X (a::es) (Aa ma mr):=λloc mh=>by
 cases ea:ma loc mh with
 | none =>
  have:Aa ma mr loc mh=none:=by unfold Aa DM.bnd;rw [ea]
  rw [this];exact Xm
 | some p =>
  obtain ⟨x,m1⟩:=p;refine Qp (G8 (ha loc mh) (hr loc m1) hs) ?_;rintro σ H Q ⟨ρ,ds,mh',q,rl,rs,co⟩;obtain ⟨x2,m2,ea2,q⟩:=Al q;rw [ea] at ea2;cases ea2;obtain ⟨xs,m2,er,q'⟩:=Al q
  ·cases q';exact ⟨ρ,x,m1,ea,rl,rs,λH1 ρ1 v e1 rs1 r1=>⟨ρ1,xs,mh',er,rl.mono e1,rs1,λH2 ρ2 vs e2 rs2 r2=>co H2 ρ2 _ (e1.trans e2) rs2 (.cons (r1.mono e2) r2)⟩⟩
noncomputable def Oz (ds:List D) (mh:MH):Option (D×MH):=if ds.length<=sizeLine then some (.tup ds,mh) else none
noncomputable def O1 (ds:List D) (mh:MH):Option (D×MH):=if ds.length<=sizeLine then some (.ref mh.length,mh++[.lst ds]) else none
theorem RS.last {K:aj}{H:Hp}{ρ:List Addr}{mh:MH}(h:RS K H ρ mh) (p:Addr):(ρ++[p])[mh.length]?=some p:=by rw [← h.len];simp
theorem Co.newT {K:aj}{H:Hp}{ρ:List Addr}{mh:MH}{ds:List D}{vs:List V}{Q:VK}(rs:RS K H ρ mh) (r:RDs K H ρ ds vs) (co:Co K H ρ mh (.tup ds) Q):∀ p,H p=none->Q (.ref p) (upd H p (.tup vs)):=λp hp =>
 co _ ρ _ (Ev.new hp) (rs.new hp) (.tup (.inl (.inl Ai)) (r.mono (Ev.new hp)))
theorem Co.newL {K:aj}{H:Hp}{ρ:List Addr}{mh:MH}{ds:List D}{vs:List V}{Q:VK}(rs:RS K H ρ mh) (r:RDs K H ρ ds vs) (co:Co K H ρ (mh++[.lst ds]) (.ref mh.length) Q):∀ p,H p=none->Q (.ref p) (upd H p (.lst vs)):=λp hp =>
 co _ (ρ++[p]) _ (Ev.newL hp) (rs.newL hp r) (.ref (rs.last p))
theorem xT {es:List Expr}{mr:DM (List D)}{x1}(h:DA X es mr):DE X (.Tuple es x1 pos) (mr.bnd λds=>Zl (Oz ds)):=λloc mh=>by
 refine Bt (cA (h loc mh)) ?_;rintro σ H Q ⟨ρ,d,mh',q,rl,rs,co⟩;obtain ⟨ds,m1,ea,q⟩:=Al q
 ·unfold Zl Oz at q;split at q
  ·rename_i hz;cases q;exact ⟨ρ,ds,mh',ea,rl,rs,λH1 ρ1 vs e1 rs1 r1=>⟨by rw [← r1.length];exact hz,Co.newT rs1 r1 (co.ev e1)⟩⟩
  ·cases q
theorem xU {es:List Expr}{mr:DM (List D)}(h:DA X es mr):DE X (.List es pos) (mr.bnd λds=>Zl (O1 ds)):=λloc mh=>by
 refine Bt (wO (h loc mh)) ?_;rintro σ H Q ⟨ρ,d,mh',q,rl,rs,co⟩;obtain ⟨ds,m1,ea,q⟩:=Al q
 ·unfold Zl O1 at q;split at q
  ·rename_i hz;cases q;exact ⟨ρ,ds,m1,ea,rl,rs,λH1 ρ1 vs e1 rs1 r1=>⟨by rw [← r1.length];exact hz,Co.newL rs1 r1 (co.ev e1)⟩⟩
  ·cases q
theorem Es {f:List D->MH->Option (D×MH)}{es:List Expr}{mr:DM (List D)}{x:Str}{p:Pos}{id:String}(hc:Br X (.builtin id) (rDs X.K f)) (hg:Gl X x) (hm:X.mg x=none) (hv:bootBuiltins x=some (.builtin id)) (ha:DA X (a::es) mr)
  (hn:x ≠ "__name__") (hdb:(x==("__debug__":Str))=false) (he:starEach (a::es) X.env=(false,eval a X.env)::starEach es X.env) (hpl:(backTo pos (starEach es X.env)).any (·.1)=false) :
  DE X (.Call (.Name x p) (a::es) [] pos) (mr.bnd λds=>Zl (f ds)):=λloc mh=>by
 refine Bt (Sw hc hg hm hv (ha loc mh) hn hdb he hpl) ?_;rintro σ H Q ⟨ρ,d,mh',q,rl,rs,co⟩;obtain ⟨ds,m1,ea,q⟩:=Al q
 ·exact ⟨ρ,ds,m1,ea,rl,rs,λH1 ρ1 vs e1 rs1 r1=>⟨ρ1,m1,ds,d,mh',q,rs1,r1,co.ev e1⟩⟩
theorem Ku {f:List D->MH->Option (D×MH)}{es:List Expr}{mr:DM (List D)}{x:Str}{p:Pos}{T:String}(hc:Br X (.type T) (rDs X.K f)) (hg:Gl X x) (hm:X.mg x=none) (hv:bootBuiltins x=some (.type T)) (ha:DA X (a::es) mr)
  (hn:x ≠ "__name__") (hdb:(x==("__debug__":Str))=false) (he:starEach (a::es) X.env=(false,eval a X.env)::starEach es X.env) (hpl:(backTo pos (starEach es X.env)).any (·.1)=false) :
  DE X (.Call (.Name x p) (a::es) [] pos) (mr.bnd λds=>Zl (f ds)):=λloc mh=>by
 refine Bt (Y5 hc hg hm hv (ha loc mh) hn hdb he hpl) ?_;rintro σ H Q ⟨ρ,d,mh',q,rl,rs,co⟩;obtain ⟨ds,m1,ea,q⟩:=Al q
 ·exact ⟨ρ,ds,m1,ea,rl,rs,λH1 ρ1 vs e1 rs1 r1=>⟨ρ1,m1,ds,d,mh',q,rs1,r1,co.ev e1⟩⟩
end
section
variable {X:Cx}
theorem Mj {f:Value->Value->Sem Value}{r r':R2}(h:OpR X f r) (i:∀ x y H Q,r' x y H Q->r x y H Q):OpR X f r':=λpins s σ H x y v u Q I rx ry q=>h pins s σ H x y v u Q I rx ry (i x y H Q q)
noncomputable def iop (C:Int->Int->Bool) (g:Int->Int->Int):D->D->MH->Option (D×MH)
 | .int i,.int j,mh=>if C i j=true then some (.int (g i j),mh) else none
 | _,_,_=>none
theorem Kv {f:Value->Value->Sem Value}{C:Int->Int->Prop}{Cb:Int->Int->Bool}{g:Int->Int->Int}(h:OpR X f (rI C λi j=>.int (g i j))) (hC:∀ i j,Cb i j=true->C i j):OpR X f (rD X.K (iop Cb g)):=by
 refine Mj h ?_;rintro x y H Q ⟨ρ,mh,dx,dy,d,mh',q,rs,rx,ry,co⟩;cases rx with
 | int i =>
  cases ry with
  | int j =>
   have q:(if Cb i j=true then some (D.int (g i j),mh) else none)=some (d,mh'):=q;split at q
   ·rename_i hc;cases q;exact ⟨i,j,rfl,rfl,hC i j hc,co H ρ _ Ev.refl rs (.int _)⟩
   ·cases q
  | _=>cases q
 | _=>cases q
theorem pK {f:Value->Value->Sem Value}{g:Int->Int->Int}(h:OpR X f (rI0 λi j=>.int (g i j))):OpR X f (rD X.K (iop (λ_ _=>true) g)) :=
 Kv (C:=λ_ _=>True) (Mj h λx y H Q ⟨i,j,e1,e2,_,q⟩=>⟨i,j,e1,e2,q⟩) λ_ _ _=>trivial
noncomputable def Qq (g:Int->Int->Bool):D->D->MH->Option (D×MH)
 | .int i,.int j,mh=>some (.bl (g i j),mh)
 | _,_,_=>none
theorem Ml {f:Value->Value->Sem Value}{g:Int->Int->Bool}(h:OpR X f (rI0 λi j=>.bl (g i j))):OpR X f (rD X.K (Qq g)):=by
 refine Mj h ?_;rintro x y H Q ⟨ρ,mh,dx,dy,d,mh',q,rs,rx,ry,co⟩;cases rx with
 | int i =>
  cases ry with
  | int j =>
   cases q;exact ⟨i,j,rfl,rfl,co H ρ _ Ev.refl rs (.bl _)⟩
  | _=>cases q
 | _=>cases q
noncomputable def Be:D->D->MH->Option (D×MH)
 | .int i,.int j,mh=>some (.int (i+j),mh)
 | .str i,.str j,mh=>if i.length+j.length<=sizeLine then some (.str (i++j),mh) else none
 | .tup xs,.tup ys,mh=>if xs.length+ys.length<=sizeLine then some (.tup (xs++ys),mh) else none
 | .ref n,.ref m,mh=>match mh[n]?,mh[m]? with
  | some (.lst xs),some (.lst ys)=>if xs.length+ys.length<=sizeLine then some (.ref mh.length,mh++[.lst (xs++ys)]) else none
  | _,_=>none
 | _,_,_=>none
end
noncomputable def Gx {α β:Type}(f:α->Option β):List α->Option (List β)
 | []=>some []
 | x::xs=>match f x with
  | some y=>match Gx f xs with
   | some ys=>some (y::ys)
   | none=>none
  | none=>none
noncomputable def py (mh:MH):Nat->D->Option PyData
 | _,.non=>some .none
 | _,.bl b=>some (.bool b)
 | _,.int i=>some (.int i)
 | _,.str x=>if uc x=true then some (.str x) else none
 | 0,.tup _=>none
 | 0,.ref _=>none
 | 0,.rol _=>none
 | 0,.obj ..=>none
 | _+1,.obj ..=>none
 | 0,.fn _=>none
 | 0,.lam=>none
 | 0,.clo _ _=>none
 | _+1,.fn _=>none
 | _+1,.lam=>none
 | _+1,.clo _ _=>none
 | n+1,.tup ds=>match Gx (py mh n) ds with | some xs=>some (.tuple xs) | none=>none
 | n+1,.rol ds=>match Gx (py mh n) ds with | some xs=>some (.list xs) | none=>none
 | n+1,.ref k=>match mh[k]? with
  | some (.lst o)=>match Gx (py mh n) o with | some xs=>some (.list xs) | none=>none
  | _=>none
section
variable {X:Cx}{pins:List (Addr×Obj)}{σ:St}{H:Hp}{s:Shared}{ρ:List Addr}{mh:MH}
theorem Et (I:Inv X pins σ H s) (rs:RS X.K H ρ mh):∀ (n:Nat) (d:D) (v:V) (u:Value) (a:PyData),py mh n d=some a->RD X.K H ρ d v->RelV v u->(∃ as,Reads s.heap u a as)/\a.canLay0=true/\a.depth<=n:=by
 intro n
 induction n with
 | zero =>
  intro d v u a e r rv;cases r with
  | non=>cases e;cases rv;exact ⟨⟨_,.none⟩,rfl,cg _⟩
  | bl b=>cases e;cases rv;exact ⟨⟨_,.bool b⟩,rfl,cg _⟩
  | int i=>cases e;obtain ⟨t,rfl⟩:=rv;exact ⟨⟨_,.int i t⟩,rfl,cg _⟩
  | str x =>
   have e:(if uc x=true then some (LQ x) else none)=some a:=e;split at e
   ·cases e;obtain ⟨t,rfl⟩:=rv;exact ⟨⟨_,.str x t⟩,by assumption,cg _⟩
   ·cases e
  | tup s r=>cases e
  | ref h=>cases e
  | rol s r=>cases e
  | obj n s l r=>cases e
  | fn h=>cases e
  | lam h=>cases e
  | clo=>cases e
 | succ n ih =>
  have all:∀ (ds:List D) (vs:List V) (us:List Value) (as:List PyData),Gx (py mh n) ds=some as->RDs X.K H ρ ds vs->Vals vs us->(∃ bs,ReadsAll s.heap us as bs)/\QK as=true/\PyData.depthAll as<=n:=by
   intro ds
   induction ds with
   | nil=>intro vs us as e r rv;cases e;cases r;cases rv;exact ⟨⟨_,.nil⟩,rfl,oh _⟩
   | cons d ds ihd =>
    intro vs us as e r rv;cases r with
    | cons r1 r2 =>
     cases rv with
     | cons v1 v2 =>
      simp only [Gx] at e;split at e
      ·rename_i y ey;split at e
       ·rename_i ys eys;cases e;obtain ⟨⟨a1,h1⟩,h2,h3⟩:=ih _ _ _ _ ey r1 v1;obtain ⟨⟨b1,g1⟩,g2,g3⟩:=ihd _ _ _ eys r2 v2;refine ⟨⟨_,.cons h1 g1⟩,?_,?_⟩
        ·simp only [QK,h2,g2,Bool.and_self]
        ·simp only [PyData.depthAll];omega
       ·cases e
      ·cases e
  intro d v u a e r rv;cases r with
  | non=>cases e;cases rv;exact ⟨⟨_,.none⟩,rfl,oh _⟩
  | bl b=>cases e;cases rv;exact ⟨⟨_,.bool b⟩,rfl,oh _⟩
  | int i=>cases e;obtain ⟨t,rfl⟩:=rv;exact ⟨⟨_,.int i t⟩,rfl,oh _⟩
  | str x =>
   have e:(if uc x=true then some (LQ x) else none)=some a:=e;split at e
   ·cases e;obtain ⟨t,rfl⟩:=rv;exact ⟨⟨_,.str x t⟩,by assumption,oh _⟩
   ·cases e
  | @tup ds a' xs sq r =>
   cases rv;have e:(match Gx (py mh n) ds with | some xs=>some (PyData.tuple xs) | none=>none)=some a:=e;split at e
   ·rename_i ys ey;cases e;obtain ⟨its,rv,⟨o,h1,h2,n',h3⟩,_⟩:=I.tuple sq;obtain ⟨⟨bs,g1⟩,g2,g3⟩:=all ds xs its ys ey r rv;refine ⟨⟨_,.tuple h1 h2 h3 (by simpa using g1)⟩,by simpa [zq] using g2,?_⟩;simp only [PyData.depth];omega
   ·cases e
  | obj n s l r=>cases e
  | fn h=>cases e
  | lam h=>cases e
  | clo=>cases e
  | @rol ds a' xs sq r =>
   cases rv;have e:(match Gx (py mh n) ds with | some xs=>some (PyData.list xs) | none=>none)=some a:=e;split at e
   ·rename_i ys ey;cases e;obtain ⟨its,rv,⟨ob,n',h1,h2,h2',h3⟩,_⟩:=I.list sq.sq;obtain ⟨⟨bs,g1⟩,g2,g3⟩:=all _ xs its ys ey r rv;refine ⟨⟨_,.list h1 h2 h3 (by simpa using g1)⟩,by simpa [zq] using g2,?_⟩;simp only [PyData.depth];omega
   ·cases e
  | @ref k a' h =>
   cases rv;have e:(match mh[k]? with | some (.lst o)=>(match Gx (py mh n) o with | some xs=>some (PyData.list xs) | none=>none) | _=>none)=some a:=e;split at e
   ·rename_i o eo;split at e
    ·rename_i ys ey;cases e;obtain ⟨a2,ha,ro⟩:=rs.at eo;rw [h] at ha;cases ha;obtain ⟨xs,sq,r⟩:=ro.read;obtain ⟨its,rv,⟨ob,n',h1,h2,h2',h3⟩,_⟩:=I.list sq;obtain ⟨⟨bs,g1⟩,g2,g3⟩:=all _ xs its ys ey r rv;refine ⟨⟨_,.list h1 h2 h3 (by simpa using g1)⟩,by simpa [zq] using g2,?_⟩;simp only [PyData.depth];omega
    ·cases e
   ·cases e
noncomputable def eqB (mh:MH) (x y:D):Option Bool:=match py mh 60 x,py mh 60 y with
 | some a,some b=>some (CK a b)
 | _,_=>none
noncomputable def eqD (x y:D) (mh:MH):Option (D×MH):=match eqB mh x y with | some k=>some (.bl k,mh) | none=>none
noncomputable def neD (x y:D) (mh:MH):Option (D×MH):=match eqB mh x y with | some k=>some (.bl (!k),mh) | none=>none
theorem cW {A:Around}{a b:PyData}(hu:A.units+64 < cLine) (h:a.depth<=60):A.units+min a.depth b.depth < cLine:=by omega
theorem Tc {x y:D}{k:Bool}(h:eqB mh x y=some k):∃ a b,py mh 60 x=some a/\py mh 60 y=some b/\k=CK a b:=by
 unfold eqB at h;split at h
 ·rename_i a b ea eb;cases h;exact ⟨a,b,ea,eb,rfl⟩
 ·cases h
theorem xV (hu:X.A.units+64 < cLine):OpR X (compareOp .NotEq) (rD X.K neD):=by
 rintro pins s σ H x y v u Q I rx ry ⟨ρ,mh,dx,dy,d,mh',q,rs,r1,r2,co⟩;unfold neD at q;split at q
 ·rename_i k ek;cases q;obtain ⟨a,b,ea,eb,rfl⟩:=Tc ek;obtain ⟨⟨as,h1⟩,h2,h3⟩:=Et I rs 60 dx x v a ea r1 rx;obtain ⟨⟨bs,g1⟩,g2,g3⟩:=Et I rs 60 dy y u b eb r2 ry;exact SeqAt.compareNe_reads h1 g1 h2 g2 (cW hu h3) ⟨.bl _,H,I,rfl,co H ρ _ Ev.refl rs (.bl _)⟩
 ·cases q
noncomputable def inB (mh:MH) (x c:D):Option Bool:=match py mh 60 x,py mh 60 c with
 | some a,some (.list xs)=>some (xs.any λy=>CK y a)
 | some a,some (.tuple xs)=>some (xs.any λy=>CK y a)
 | _,_=>none
noncomputable def xW (neg:Bool) (x c:D) (mh:MH):Option (D×MH):=match inB mh x c with | some k=>some (.bl (if neg then !k else k),mh) | none=>none
theorem pL (hu:X.A.units+64 < cLine):OpR X (compareOp .In) (rD X.K (xW false)):=by
 rintro pins s σ H x y v u Q I rx ry ⟨ρ,mh,dx,dy,d,mh',q,rs,r1,r2,co⟩;unfold xW at q;split at q
 ·rename_i k ek;cases q;unfold inB at ek;split at ek
  ·rename_i a xs ea eb;cases ek;obtain ⟨⟨as,h1⟩,h2,h3⟩:=Et I rs 60 dx x v a ea r1 rx;obtain ⟨⟨bs,g1⟩,g2,g3⟩:=Et I rs 60 dy y u _ eb r2 ry;exact SeqAt.in_list_reads g1 h1 (by simpa [zq] using g2) h2 (by simp only [PyData.depth] at g3;omega) ⟨.bl _,H,I,rfl,co H ρ _ Ev.refl rs (.bl _)⟩
  ·rename_i a xs ea eb;cases ek;obtain ⟨⟨as,h1⟩,h2,h3⟩:=Et I rs 60 dx x v a ea r1 rx;obtain ⟨⟨bs,g1⟩,g2,g3⟩:=Et I rs 60 dy y u _ eb r2 ry;exact SeqAt.in_tuple_reads g1 h1 (by simpa [zq] using g2) h2 (by simp only [PyData.depth] at g3;omega) ⟨.bl _,H,I,rfl,co H ρ _ Ev.refl rs (.bl _)⟩
  ·cases ek
 ·cases q
end
section
variable {X:Cx}
noncomputable def isD (neg:Bool) (x y:D) (mh:MH):Option (D×MH):=match y with
 | .non=>some (.bl (if neg then !(match x with | .non=>true | _=>false) else match x with | .non=>true | _=>false),mh)
 | .bl b=>(match x with
  | .bl a=>some (.bl (if neg then a != b else a==b),mh)
  | .non=>some (.bl neg,mh)
  | _=>none)
 | _=>none
theorem xX:OpR X (compareOp .Is) (rD X.K (isD false)):=by
 rintro pins s σ H x y v u Q I rx ry ⟨ρ,mh,dx,dy,d,mh',q,rs,r1,r2,co⟩;cases r2 with
 | non =>
  cases q;cases ry;refine is_none_gen ⟨.bl _,H,I,?_,co H ρ _ Ev.refl rs (.bl _)⟩;rw [rx.none_iff];cases r1 <;> rfl
 | bl b =>
  cases r1 with
  | bl a=>cases q;cases rx;cases ry;exact is_bool ⟨.bl _,H,I,rfl,co H ρ _ Ev.refl rs (.bl _)⟩
  | non=>cases q;cases rx;cases ry;exact cu (a:=Value.bool false) ⟨.bl _,H,I,rfl,co H ρ _ Ev.refl rs (.bl _)⟩
  | _=>cases q
 | _=>cases q
theorem Y9:OpR X (compareOp .IsNot) (rD X.K (isD true)):=by
 rintro pins s σ H x y v u Q I rx ry ⟨ρ,mh,dx,dy,d,mh',q,rs,r1,r2,co⟩;cases r2 with
 | non =>
  cases q;cases ry;refine isnot_none_gen ⟨.bl _,H,I,?_,co H ρ _ Ev.refl rs (.bl _)⟩;rw [rx.none_iff];cases r1 <;> rfl
 | bl b =>
  cases r1 with
  | bl a=>cases q;cases rx;cases ry;exact isnot_bool ⟨.bl _,H,I,rfl,co H ρ _ Ev.refl rs (.bl _)⟩
  | non=>cases q;cases rx;cases ry;exact cu (a:=Value.bool true) ⟨.bl _,H,I,rfl,co H ρ _ Ev.refl rs (.bl _)⟩
  | _=>cases q
 | _=>cases q
theorem cX:OpR X (binaryOp .Add) (λx y H Q=>∃ a b ys,x=.ref a/\y=.ref b/\SqT X.K H a []/\SqT X.K H b ys/\Q (.ref b) H):=by
 rintro pins s σ H x y v u Q I rx ry ⟨a,b,ys,e1,e2,ha,hb,q⟩;subst e1;subst e2;cases rx;cases ry;obtain ⟨its,r1,p1,_⟩:=I.tuple ha;obtain ⟨its2,r2,p2,_⟩:=I.tuple hb;cases r1;obtain ⟨⟨cls,dd,data,sl⟩,ho,hc,n,hd⟩:=id p1;obtain ⟨⟨cls2,dd2,data2,sl2⟩,ho2,hc2,n2,hd2⟩:=id p2;simp only at hc hd hc2 hd2;subst hc hd hc2 hd2;exact PL ⟨_,ho,rfl⟩ ⟨_,ho2,rfl⟩ HS MN BL zu (zb _ _) (tuple_addW0 a b _ _ n n2 dd dd2 sl sl2 (by simp)) ⟨ho,ho2,⟨.ref b,H,I,rfl,q⟩⟩
theorem pM:OpR X (binaryOp .Add) (rD X.K Be):=by
 refine Mj (wF.or (Vf.or (oO.or (xG.or cX)))) ?_;rintro x y H Q ⟨ρ,mh,dx,dy,d,mh',q,rs,rx,ry,co⟩;cases rx with
 | int i =>
  cases ry with
  | int j=>cases q;exact .inl ⟨i,j,rfl,rfl,co H ρ _ Ev.refl rs (.int _)⟩
  | _=>cases q
 | str i =>
  cases ry with
  | str j =>
   have q:(if i.length+j.length<=sizeLine then some (D.str (i++j),mh) else none)=some (d,mh'):=q;split at q
   ·rename_i hz;cases q;exact .inr (.inl ⟨i,j,rfl,rfl,hz,co H ρ _ Ev.refl rs (.str _)⟩)
   ·cases q
  | _=>cases q
 | @tup xs a us s1 r1 =>
  cases ry with
  | @tup ys b ws s2 r2 =>
   have q:(if xs.length+ys.length<=sizeLine then some (D.tup (xs++ys),mh) else none)=some (d,mh'):=q;split at q
   ·rename_i hz;cases q
    by_cases hne:xs=[]
    ·subst hne;cases r1;exact .inr (.inr (.inr (.inr ⟨a,b,ws,rfl,rfl,s1,s2,co H ρ _ Ev.refl rs (.tup s2 r2)⟩)))
    ·refine .inr (.inr (.inl ⟨a,b,us,ws,rfl,rfl,s1,s2,λz=>hne ?_,by rw [← r1.length,← r2.length];exact hz,?_⟩))
     ·rw [z] at r1;cases r1;rfl
     ·refine ⟨λz=>?_,λz=>Co.newT rs (r1.append r2) co⟩;subst z;cases r2;exact co H ρ _ Ev.refl rs (.tup s1 (by rw [ni];exact r1))
   ·cases q
  | _=>cases q
 | @ref n a ha =>
  cases ry with
  | @ref m b hb =>
   have q:(match mh[n]?,mh[m]? with
    | some (.lst xs),some (.lst ys)=>if xs.length+ys.length<=sizeLine then some (D.ref mh.length,mh++[.lst (xs++ys)]) else none
    | _,_=>none)=some (d,mh'):=q
   split at q
   ·rename_i xs ys e1 e2;split at q
    ·rename_i hz;cases q;obtain ⟨a2,h1,us,g1,r1⟩:=rs.at e1;obtain ⟨b2,h2,ws,g2,r2⟩:=rs.at e2;rw [ha] at h1;rw [hb] at h2;cases h1;cases h2;exact .inr (.inr (.inr (.inl ⟨a,b,us,ws,rfl,rfl,g1,g2,by rw [← r1.length,← r2.length];exact hz,Co.newL rs (r1.append r2) co⟩)))
    ·cases q
   ·cases q
  | _=>cases q
 | _=>cases q
end
section
variable {X:Cx}
theorem Kw {f:Value}{r r':List V->Hp->VK->Prop}(h:Br X f r) (i:∀ xs H Q,r' xs H Q->r xs H Q):Br X f r':=λpins s σ H xs us Q I rx q=>h pins s σ H xs us Q I rx (i xs H Q q)
theorem pN {r r':R2}(h:IxR X r) (i:∀ x y H Q,r' x y H Q->r x y H Q):IxR X r':=λa b pins s σ H x y v u Q I rx ry q hs=>h a b pins s σ H x y v u Q I rx ry (i x y H Q q) hs
theorem pO {r r':V->Option Int->Option Int->Hp->VK->Prop}(h:SlR X r) (i:∀ x lo hi H Q,r' x lo hi H Q->r x lo hi H Q):SlR X r':=λpins s σ H x v vl vu lo hi sl Q I rx hs pl pu q=>h pins s σ H x v vl vu lo hi sl Q I rx hs pl pu (i x lo hi H Q q)
noncomputable def Dn:D->MH->Option (List D)
 | .tup ds,_=>some ds
 | .ref n,mh=>match mh[n]? with | some (.lst o)=>some o | _=>none
 | .rol ds,_=>some ds
 | _,_=>none
theorem Hf {K:aj}{H:Hp}{ρ:List Addr}{mh:MH}{d:D}{v:V}{ds:List D}(rs:RS K H ρ mh) (r:RD K H ρ d v) (e:Dn d mh=some ds):∃ p xs,v=.ref p/\(SqL K H p xs\/SqT K H p xs)/\RDs K H ρ ds xs:=by
 cases r with
 | tup s r=>cases e;exact ⟨_,_,rfl,.inr s,r⟩
 | rol s r=>cases e;exact ⟨_,_,rfl,.inl s.sq,r⟩
 | @ref n a h =>
  have e:(match mh[n]? with | some (.lst o)=>some o | _=>none)=some ds:=e;split at e
  ·rename_i o eo;cases e;obtain ⟨a',ha,ro⟩:=rs.at eo;rw [h] at ha;cases ha;obtain ⟨xs,q,r⟩:=ro.read;exact ⟨_,xs,rfl,.inl q,r⟩
  ·cases e
 | _=>cases e
theorem pP {K:aj}{H:Hp}{ρ:List Addr}{ds:List D}{xs:List V}{i:Int}{d:D}(r:RDs K H ρ ds xs) (e:atI ds i=some d):∃ v,atI xs i=some v/\RD K H ρ d v:=by
 unfold atI at e ⊢;rw [← r.length];cases q:ixN ds.length i with
 | none=>rw [q] at e;cases e
 | some j =>
  rw [q] at e;exact r.get e
noncomputable def cY (x y:D) (mh:MH):Option (D×MH):=match y with
 | .int i=>(match x with
  | .str z=>if z.length<=sizeLine then (match atI z.cps.toList i with | some c=>some (.str ⟨#[c]⟩,mh) | none=>none) else none
  | _=>match Dn x mh with
   | some ds=>(match atI ds i with | some d=>some (d,mh) | none=>none)
   | none=>none)
 | _=>none
theorem Ac2:IxR X (rD X.K cY):=by
 refine pN (wX (X:=X)) ?_;rintro x y H Q ⟨ρ,mh,dx,dy,d,mh',q,rs,rx,ry,co⟩;have seq:∀ i:Int,y=.int i->(match Dn dx mh with | some ds=>(match atI ds i with | some d=>some (d,mh) | none=>none) | none=>none)=some (d,mh')->rIx X.K x y H Q:=λi ey q=>by
  split at q
  ·rename_i ds e1;split at q
   ·rename_i d' e2;cases q;obtain ⟨p,xs,rfl,hq,r⟩:=Hf rs rx e1;obtain ⟨v,e3,r3⟩:=pP r e2;rcases hq with hq|hq
    ·exact .inl ⟨p,xs,i,v,rfl,ey,hq,e3,co H ρ v Ev.refl rs r3⟩
    ·exact .inr (.inl ⟨p,xs,i,v,rfl,ey,hq,e3,co H ρ v Ev.refl rs r3⟩)
   ·cases q
  ·cases q
 cases ry with
 | int i =>
  cases rx with
  | str z =>
   have q:(if z.length<=sizeLine then (match atI z.cps.toList i with | some c=>some (D.str ⟨#[c]⟩,mh) | none=>none) else none)=some (d,mh'):=q;split at q
   ·rename_i hz;split at q
    ·rename_i c ec;cases q;exact .inr (.inr ⟨z,i,c,rfl,rfl,hz,ec,co H ρ _ Ev.refl rs (.str _)⟩)
    ·cases q
   ·cases q
  | non=>exact seq i rfl q
  | bl b=>exact seq i rfl q
  | int j=>exact seq i rfl q
  | tup s r=>exact seq i rfl q
  | ref h=>exact seq i rfl q
  | rol s r=>exact seq i rfl q
  | obj n s l r=>exact seq i rfl q
  | fn h=>exact seq i rfl q
  | lam h=>exact seq i rfl q
  | clo=>exact seq i rfl q
 | _=>cases q
noncomputable def cutD {α:Type}(xs:List α) (lo hi:Option Int):List α:=(xs.drop (HT.sIx xs.length 0 lo)).take (HT.sIx xs.length xs.length hi - HT.sIx xs.length 0 lo)
theorem Qs {K:aj}{H:Hp}{ρ:List Addr}{ds:List D}{xs:List V}{lo hi:Option Int}(r:RDs K H ρ ds xs):RDs K H ρ (cutD ds lo hi) (Sx xs lo hi):=by
 unfold cutD Sx;rw [r.length];exact (r.drop _).take _
theorem Jg {prog:Program}{w:World}{A:Around}{E:Value->Shared->Prop}{s:Shared}{t sl:Addr}{items:Array Value}{vl vu:Value}{lo hi:Option Int}{Q:Value->Shared->Prop}(ht:IsTup s.heap t items) (hs:s.heap.IsSliceOf sl vl vu .none) (pl:IsPart vl lo) (pu:IsPart vu hi)
  (h0:HT.sIx items.size 0 lo=0) (h1:HT.sIx items.size items.size hi=items.size) (h:Q (.ref t) s):wpAny (model prog w) A (getItem (.ref t) (.ref sl)) Q E s:=by
 obtain ⟨os,hos,hcs,hds⟩:=id hs
 have hTs:s.TypeIs (.ref sl) "slice":=⟨os,hos,hcs⟩
 unfold getItem
 try with_reducible refine ye ?_
 first | refine ao (cu ?_) | skip
 refine ao (GP ht.typeIs (by decide) ?_)
 refine ao (nq (name:=Str.ofString "__getitem__") ht.typeIs PyProof.Rows.slot_tuple_getitem
  (qz PyProof.Rows.slot_tuple_getitem ht.typeIs CZ ?_ (FP _ _)))
 show wpAny _ _ (yh (.ref t) >>= _) _ _ s;refine ao (MP ht ?_);refine ao (HW hTs ?_);rw [if_pos (by decide)];refine ao (HT.sliceApplied_gen hs pl pu ?_);rw [h0,h1];have hyes:((((0:Nat):Int)==0&&(1:Int)==1&&(items.size - 0)==items.size)=true):=by simp
 show wpAny _ _ (if (((0:Nat):Int)==0&&(1:Int)==1&&(items.size - 0)==items.size)=true then _ else _) _ _ s;rw [if_pos hyes];unfold Builtin.Tuple.tupleIsExact;refine ao (ao (HW ht.typeIs (cu ?_)));rw [if_pos (by decide)];exact ao (GX (cu ⟨_,rfl,cu h⟩))
theorem Za:SlR X (λx lo hi H Q=>∃ a xs,x=.ref a/\SqT X.K H a xs/\HT.sIx xs.length 0 lo=0/\HT.sIx xs.length xs.length hi=xs.length/\Q (.ref a) H):=by
 intro pins s σ H x v vl vu lo hi sl Q I rx hs pl pu h;obtain ⟨a,xs,rfl,hx,h0,h1,q⟩:=h;cases rx;obtain ⟨its,r,ht,hz⟩:=I.tuple hx;have hlen:its.toArray.size=xs.length:=by rw [dm];exact r.length.symm
 refine ⟨"tuple",_,PyProof.Rows.slot_tuple_getitem.lookup,ht.typeIs,?_⟩;exact Jg ht hs pl pu (by rw [hlen];exact h0) (by rw [hlen];exact h1) ⟨.ref a,H,I,rfl,q⟩
noncomputable def slD (x:D) (lo hi:Option Int) (mh:MH):Option (D×MH):=match x with
 | .tup ds=>if HT.sIx ds.length 0 lo=0/\HT.sIx ds.length ds.length hi=ds.length then some (.tup ds,mh) else some (.tup (cutD ds lo hi),mh)
 | .ref n=>match mh[n]? with
  | some (.lst o)=>some (.ref mh.length,mh++[.lst (cutD o lo hi)])
  | _=>none
 | .rol ds=>some (.ref mh.length,mh++[.lst (cutD ds lo hi)])
 | _=>none
noncomputable def Ae6 (K:aj):V->Option Int->Option Int->Hp->VK->Prop:=λx lo hi H Q=>∃ ρ mh dx d mh',slD dx lo hi mh=some (d,mh')/\RS K H ρ mh/\RD K H ρ dx x/\Co K H ρ mh' d Q
theorem Ae7:SlR X (Ae6 X.K):=by
 refine pO (Za.or (wR.or oU)) ?_;rintro x lo hi H Q ⟨ρ,mh,dx,d,mh',q,rs,rx,co⟩;cases rx with
 | @tup ds a xs s r =>
  have q:(if HT.sIx ds.length 0 lo=0/\HT.sIx ds.length ds.length hi=ds.length then some (D.tup ds,mh) else some (D.tup (cutD ds lo hi),mh))=some (d,mh'):=q;have hl:=r.length;split at q
  ·rename_i hw;cases q;exact .inl ⟨a,xs,rfl,s,by rw [← hl];exact hw.1,by rw [← hl];exact hw.2,co H ρ _ Ev.refl rs (.tup s r)⟩
  ·rename_i hw;cases q;exact .inr (.inl ⟨a,xs,rfl,s,by rw [← hl];exact hw,Co.newT rs (Qs r) co⟩)
 | @ref n a h =>
  have q:(match mh[n]? with | some (.lst o)=>some (D.ref mh.length,mh++[.lst (cutD o lo hi)]) | _=>none)=some (d,mh'):=q;split at q
  ·rename_i o eo;cases q;obtain ⟨a',ha,ro⟩:=rs.at eo;rw [h] at ha;cases ha;obtain ⟨xs,sq,r⟩:=ro.read;exact .inr (.inr ⟨a,xs,rfl,sq,Co.newL rs (Qs r) co⟩)
  ·cases q
 | @rol ds a xs s r =>
  cases q;exact .inr (.inr ⟨a,xs,rfl,s.sq,Co.newL rs (Qs r) co⟩)
 | _=>cases q
noncomputable def Jz (m:Option (DM D)):DM (Option Int):=match m with
 | none=>Zr none
 | some m=>m.bnd λx=>match x with | .int i=>Zr (some i) | _=>Zb
noncomputable def cZ (X:Cx) (e:Option Expr) (m:Option (DM D)):Prop:=match e,m with
 | none,none=>True
 | some e,some m=>DE X e m
 | _,_=>False
noncomputable def tDO (K:aj) (loc:Loc) (mh:MH) (r:Option (Option Int×MH)):TO:=λσ H Q=>∃ ρ o mh',r=some (o,mh')/\RL K H ρ loc σ/\RS K H ρ mh/\∀ H' ρ',Ev K H ρ H' ρ'->RS K H' ρ' mh'->Q o H'
theorem Ac3 {e:Option Expr}{m:Option (DM D)}(h:cZ X e m) (loc:Loc) (mh:MH):PO X e (tDO X.K loc mh (Jz m loc mh)):=by
 rintro pins s σ H Q I ⟨ρ,o,mh',q,rl,rs,co⟩;cases e with
 | none =>
  cases m with
  | none =>
   cases q;exact oM pins s σ H Q I (co H ρ Ev.refl rs)
  | some m=>exact h.elim
 | some e =>
  cases m with
  | none=>exact h.elim
  | some m =>
   obtain ⟨x,m1,ea,q⟩:=Al q;cases x with
   | int i =>
    cases q;refine oN (h loc mh) pins s σ H Q I ⟨ρ,.int i,mh',ea,rl,rs,λH' ρ' v e' rs' r'=>?_⟩;cases r';exact ⟨i,rfl,co H' ρ' e' rs'⟩
   | non=>cases q
   | bl b=>cases q
   | str z=>cases q
   | tup ds=>cases q
   | ref n=>cases q
   | rol ds=>cases q
   | obj c ks ds=>cases q
   | fn x=>cases q
   | lam=>cases q
   | clo=>cases q
noncomputable def dSl (ma:DM D) (ml mu:Option (DM D)):DM D:=ma.bnd λx=>(Jz ml).bnd λl=>(Jz mu).bnd λu=>Zl (slD x l u)
theorem dB {a:Expr}{ma:DM D}{lo hi:Option Expr}{ml mu:Option (DM D)}{p2 pos:Pos}(ha:DE X a ma) (hl:cZ X lo ml) (hu:cZ X hi mu):DE X (.Subscript a (.Slice lo hi none p2) pos) (dSl ma ml mu):=λloc mh=>by
 cases ea:ma loc mh with
 | none =>
  have:dSl ma ml mu loc mh=none:=by unfold dSl DM.bnd;rw [ea]
  rw [this];exact Dq
 | some p =>
  obtain ⟨x,m1⟩:=p;cases el:Jz ml loc m1 with
  | none =>
   have:dSl ma ml mu loc mh=none:=by unfold dSl;unfold DM.bnd;rw [ea];dsimp only;rw [el]
   rw [this];exact Dq
  | some p2 =>
   obtain ⟨l,m2⟩:=p2;refine Bt (cG Ae7 (ha loc mh) (Ac3 hl loc m1) (Ac3 hu loc m2)) ?_;rintro σ H Q ⟨ρ,d,mh',q,rl,rs,co⟩;obtain ⟨x',m1',ea',q⟩:=Al q;rw [ea] at ea';cases ea';obtain ⟨l',m2',el',q⟩:=Al q;rw [el] at el';cases el';obtain ⟨u,m3,eu,q⟩:=Al q
   exact ⟨ρ,x,m1,ea,rl,rs,λH1 ρ1 v e1 rs1 r1=>⟨ρ1,l,m2,el,rl.mono e1,rs1,λH2 ρ2 e2 rs2=>⟨ρ2,u,m3,eu,(rl.mono e1).mono e2,rs2,λH3 ρ3 e3 rs3 =>
    ⟨ρ3,m3,x,d,mh',q,rs3,(r1.mono e2).mono e3,co.ev (e1.trans (e2.trans e3))⟩⟩⟩⟩
theorem dD (its:List Value):slicePick its.toArray none none (some (-1))=its.reverse.toArray:=by
 unfold slicePick sliceBounds sliceRange;simp only [Option.getD_some];have h1:¬ ((-1:Int) > 0):=by decide
 simp only [h1,if_false,dm];congr 1;have hc:(if ((its.length:Int) - 1 > -1) then ((its.length:Int) - 1 - -1 - -1 - 1) / (- -1) else 0).toNat=its.length:=by
  split
  ·have:((its.length:Int) - 1 - -1 - -1 - 1) / (- -1)=its.length:=by
    have e:(- -1:Int)=1:=by decide
    rw [e,PN];omega
   rw [this];omega
  ·omega
 rw [hc];have e:∀ k,k<=its.length->(List.map (λ(k:Nat)=>((its.length:Int) - 1+-1 * (k:Int)).toNat) (vg k)).filterMap (λx=>its.toArray[x]?)=its.reverse.take k:=by
  intro k
  induction k with
  | zero=>intro _;simp
  | succ k ih =>
   intro hk;rw [List.range_succ,jb,KD,ih (by omega),mj];congr 1;have e1:((its.length:Int) - 1+-1 * (k:Int)).toNat=its.length - 1 - k:=by omega
   have hlt:k < its.length:=by omega
   have hlt2:its.length - 1 - k < its.length:=by omega
   simp only [mq,PX,qy,zc,e1,List.getElem?_toArray,KH hlt,bw hlt2,QC]
 rw [e its.length (cg _),wz (by simp)]
noncomputable def dF:D->MH->Option (D×MH)
 | .ref n,mh=>match mh[n]? with | some (.lst o)=>some (.ref mh.length,mh++[.lst o.reverse]) | _=>none
 | .tup ds,mh=>some (.tup ds.reverse,mh)
 | _,_=>none
end
end DL
namespace HT
open PySem PySem.Spec PyProof.Rows
section
variable {prog:Program}{w:World}{A:Around}{E:Value->Shared->Prop}{s:Shared}
theorem Ky {sl:Addr}{t n:Nat}{Q:Int×Int×Nat->Shared->Prop}(hs:s.heap.IsSliceOf sl .none .none (.int (-1) t)) (h:Q ((n:Int) - 1,-1,n) s):wpAny (model prog w) A (ur (.ref sl) (pure (n:Int))) Q E s:=by
 obtain ⟨os,hos,hcs,hds⟩:=id hs;unfold ur GZ;refine ao (ao (ju hos hds (x:=.none) rfl (ao (ju hos hds (x:=.none) rfl (ao (ju hos hds (x:=.int (-1) t) rfl (cu ?_)))))));refine ao (slicePart_int ?_);show wpAny _ _ (if ((-1:Int)==0)=true then _ else _) _ _ s;rw [if_neg (by decide)];refine ao (DR (ao (DR (ao (cu ?_)))));show wpAny _ _ (pure ((n:Int) - 1,(-1:Int),lg ((n:Int) - 1) (-1) (-1))) _ _ s;have e:lg ((n:Int) - 1) (-1) (-1)=n:=by
  unfold lg;rw [if_neg (by decide),show (- -1:Int)=1 from rfl,PN];split <;> omega
 rw [e];exact cu h
theorem Zc (xs:Array Value):((vg xs.size).filterMap λ(m:Nat)=>xs[((xs.size:Int) - 1+(m:Int) * -1).toNat]?).toArray=xs.toList.reverse.toArray:=by
 congr 1;have e:∀ k,k<=xs.size->((vg k).filterMap λ(m:Nat)=>xs[((xs.size:Int) - 1+(m:Int) * -1).toNat]?)=xs.toList.reverse.take k:=by
  intro k
  induction k with
  | zero=>intro _;simp
  | succ k ih =>
   intro hk;rw [List.range_succ,KD,ih (by omega),mj];congr 1;have e1:((xs.size:Int) - 1+(k:Int) * -1).toNat=xs.size - 1 - k:=by omega
   have hlt:k < xs.toList.length:=by rw [qj];omega
   have hlt2:xs.size - 1 - k < xs.size:=by omega
   simp only [qy,zc,e1,KH hlt,qj,KC,Array.getElem?_eq_getElem hlt2,QC]
 rw [e _ (cg _),wz (by simp)]
theorem getItem_tuple_rev {t sl:Addr}{n:Nat}{items:Array Value}{Q:Value->Shared->Prop}(ht:IsTup s.heap t items) (hs:s.heap.IsSliceOf sl .none .none (.int (-1) n))
  (h:Q (.ref s.heap.objs.size) { s with heap:=s.heap.push { cls:=.type "tuple",data:=.seq items.toList.reverse.toArray } })
  (hsz:items.size<=sizeLine):wpAny (model prog w) A (getItem (.ref t) (.ref sl)) Q E s:=by
 have htake:sizeOk (.seq items.toList.reverse.toArray):=by
  show items.toList.reverse.toArray.size<=sizeLine;rw [dm,DK,qj];exact hsz
 obtain ⟨os,hos,hcs,hds⟩:=id hs
 have hTs:s.TypeIs (.ref sl) "slice":=⟨os,hos,hcs⟩
 unfold getItem
 try with_reducible refine ye ?_
 first | refine ao (cu ?_) | skip
 refine ao (GP ht.typeIs (by decide) ?_)
 refine ao (nq (name:=Str.ofString "__getitem__") ht.typeIs PyProof.Rows.slot_tuple_getitem
  (qz PyProof.Rows.slot_tuple_getitem ht.typeIs CZ ?_ (FP _ _)))
 show wpAny _ _ (yh (.ref t) >>= _) _ _ s;refine ao (MP ht ?_);refine ao (HW hTs ?_);rw [if_pos (by decide)];refine ao (Ky hs ?_);have hno:¬ ((((items.size:Int) - 1)==0&&(-1:Int)==1&&items.size==items.size)=true):=by
  intro q;rw [au,au] at q;exact absurd q.1.2 (by decide)
 show wpAny _ _ (if (((items.size:Int) - 1)==0&&(-1:Int)==1&&items.size==items.size)=true then _ else _) _ _ s;rw [if_neg hno,Zc]
 first
  | exact ao (m:=jx _) (jo (cu ⟨_,rfl,cu h⟩) htake)
  | exact ao (m:=jx _) (jo (ao (cu (cu ⟨_,rfl,cu h⟩))) htake)
  | exact ao (ao (m:=jx _) (jo (cu (cu ⟨_,rfl,cu h⟩)) htake))
  | exact ao (ao (m:=jx _) (jo (cu ⟨_,rfl,cu h⟩) htake))
end
end HT
namespace DL
open PySem PySem.Spec PyProof.Rows L2
section
variable {X:Cx}
theorem xY {a:Expr}{ma:DM D}{k:Nat}{p1 p2 p3 pos:Pos}(ha:DE X a ma):DE X (.Subscript a (.Slice none none (some (.UnaryOp .USub (.Constant (.int 1) k p1) p2)) p3) pos) (ma.bnd λx=>Zl (dF x)):=λloc mh=>by
 rintro pins s σ H Q I ⟨ρ,d,mh',q,rl,rs,co⟩;obtain ⟨x,m1,ea,q⟩:=Al q;refine RB (thn (ha loc mh pins s σ H (λv H1=>∃ ρ1,Ev X.K H ρ H1 ρ1/\RS X.K H1 ρ1 m1/\RD X.K H1 ρ1 x v) I ⟨ρ,x,m1,ea,rl,rs,λH1 ρ1 v e1 rs1 r1=>⟨ρ1,e1,rs1,r1⟩⟩) ?_);rintro v s1 ⟨xv,H1,I1,r1,ρ1,e1,rs1,rd⟩;refine wpAny_Slice ?_;rw [MT,evalPart_some];refine cu (cu ?_);refine UnaryOp_ (OD (neg_int ?_));cases rd with
 | @ref n b hb =>
  have q:(match m1[n]? with | some (.lst o)=>some (D.ref m1.length,m1++[.lst o.reverse]) | _=>none)=some (d,mh'):=q;split at q
  ·rename_i o eo;cases q;obtain ⟨a',ha',ro⟩:=rs1.at eo;rw [hb] at ha';cases ha';obtain ⟨xs,sq,r⟩:=ro.read;cases r1;have I2:=(I1.tok (s1.toks+1)).tok (s1.toks+1+1)
   have I3:Inv X pins σ H1 { s1 with heap:=s1.heap.push { cls:=.type "slice",data:=.fields #[.none,.none,.int (-1) (s1.toks+1)] },toks:=s1.toks+1+1 }:=I2.kept (t':=s1.toks+1+1) λb ob q=>ak _ q
   obtain ⟨its,rv,ht,hz⟩:=I3.list sq;have hlen:=rv.length;refine QX (ops:=[.ref b,.ref s1.heap.objs.size]) ht.isList.typeIs slot_list_getitem.lookup (HX ht.isList (Heap.IsSliceOf.new ..) .none .none (.int (-1) _) (by decide) ?_ (by rw [dm];omega)) (by with_unfolding_all rfl);rw [dD];refine ⟨.ref _,_,I3.laid (t':=s1.toks+1+1) (o:=.lst xs.reverse) (λb ob q=>ak _ q) (cg _) ⟨?_,_,0,rv.reverse,dh _ rfl⟩,rfl,Co.newL rs1 r.reverse (co.ev e1) _ (I3.hok.fresh (cg _))⟩;rw [DK];exact hz
  ·cases q
 | @tup ds b xs sq r =>
  cases q;cases r1;have I2:=(I1.tok (s1.toks+1)).tok (s1.toks+1+1)
  have I3:Inv X pins σ H1 { s1 with heap:=s1.heap.push { cls:=.type "slice",data:=.fields #[.none,.none,.int (-1) (s1.toks+1)] },toks:=s1.toks+1+1 }:=I2.kept (t':=s1.toks+1+1) λb ob q=>ak _ q
  obtain ⟨its,rv,ht,hz⟩:=I3.tuple sq;have hlen:=rv.length;refine QX (ops:=[.ref b,.ref s1.heap.objs.size]) ht.typeIs PyProof.Rows.slot_tuple_getitem.lookup (HT.getItem_tuple_rev ht (Heap.IsSliceOf.new ..) ?_ (by rw [dm];omega)) (by with_unfolding_all rfl);refine ⟨.ref _,_,I3.laid (t':=s1.toks+1+1) (o:=.tup xs.reverse) (λb ob q=>ak _ q) (cg _) ⟨?_,_,rv.reverse,Mu.new _ _⟩,rfl,Co.newT rs1 r.reverse (co.ev e1) _ (I3.hok.fresh (cg _))⟩;rw [DK];exact hz
 | _=>cases q
noncomputable def Xo:List D->MH->Option (D×MH)
 | [.str z],mh=>if z.length<=sizeLine then some (.int z.length,mh) else none
 | [x],mh=>match Dn x mh with | some ds=>some (.int ds.length,mh) | none=>none
 | _,_=>none
theorem Kz {K:aj}{H:Hp}{ρ:List Addr}{d:D}{xs:List V}(h:RDs K H ρ [d] xs):∃ v,xs=[v]/\RD K H ρ d v:=by
 cases h with
 | cons r t=>cases t;exact ⟨_,rfl,r⟩
theorem Vr:Br X (.builtin "len") (rDs X.K Xo):=by
 refine Kw (Qi.or Qj) ?_;rintro xs H Q ⟨ρ,mh,ds,d,mh',q,rs,r,co⟩
 match ds,q with
 | [x],q =>
  obtain ⟨v,rfl,rx⟩:=Kz r;have seq:(match Dn x mh with | some ds=>some (D.int ds.length,mh) | none=>none)=some (d,mh')->∃ p ys,[v]=[.ref p]/\(SqL X.K H p ys\/SqT X.K H p ys)/\Q (.int ys.length) H:=λq=>by
   split at q
   ·rename_i ds e1;cases q;obtain ⟨p,ys,rfl,hq,r⟩:=Hf rs rx e1;exact ⟨p,ys,rfl,hq,by rw [← r.length];exact co H ρ _ Ev.refl rs (.int _)⟩
   ·cases q
  cases rx with
  | str z =>
   have q:(if z.length<=sizeLine then some (D.int z.length,mh) else none)=some (d,mh'):=q;split at q
   ·rename_i hz;cases q;exact .inr ⟨z,rfl,hz,co H ρ _ Ev.refl rs (.int _)⟩
   ·cases q
  | non=>exact .inl (seq q)
  | bl b=>exact .inl (seq q)
  | int i=>exact .inl (seq q)
  | tup s r=>exact .inl (seq q)
  | ref h=>exact .inl (seq q)
  | rol s r=>exact .inl (seq q)
  | obj n s l r=>exact .inl (seq q)
  | fn h=>exact .inl (seq q)
  | lam h=>exact .inl (seq q)
  | clo=>exact .inl (seq q)
 | [],q=>cases q
 | _::_::_,q=>simp [Xo] at q
noncomputable def O3:List D->MH->Option (D×MH)
 | [x],mh=>match Dn x mh with | some ds=>some (.ref mh.length,mh++[.lst ds]) | none=>none
 | _,_=>none
theorem Vs:Br X (.type "list") (rDs X.K O3):=by
 refine Kw Qk ?_;rintro xs H Q ⟨ρ,mh,ds,d,mh',q,rs,r,co⟩
 match ds,q with
 | [x],q =>
  obtain ⟨v,rfl,rx⟩:=Kz r;have q:(match Dn x mh with | some ds=>some (D.ref mh.length,mh++[.lst ds]) | none=>none)=some (d,mh'):=q;split at q
  ·rename_i ds e1;cases q;obtain ⟨p,ys,rfl,hq,r⟩:=Hf rs rx e1;exact ⟨p,ys,rfl,hq,Co.newL rs r co⟩
  ·cases q
 | [],q=>cases q
 | _::_::_,q=>cases q
noncomputable def Bh:List D->MH->Option (D×MH)
 | [x],mh=>match Dn x mh with | some ds=>some (.tup ds,mh) | none=>none
 | _,_=>none
theorem Td:Br X (.type "tuple") (rDs X.K Bh):=by
 refine Kw Og ?_;rintro xs H Q ⟨ρ,mh,ds,d,mh',q,rs,r,co⟩
 match ds,q with
 | [x],q =>
  obtain ⟨v,rfl,rx⟩:=Kz r;have q:(match Dn x mh with | some ds=>some (D.tup ds,mh) | none=>none)=some (d,mh'):=q;split at q
  ·rename_i ds e1;cases q;obtain ⟨p,ys,rfl,hq,r⟩:=Hf rs rx e1;rcases hq with hq|hq
   ·exact ⟨p,ys,rfl,.inl ⟨hq,Co.newT rs r co⟩⟩
   ·exact ⟨p,ys,rfl,.inr ⟨hq,co H ρ _ Ev.refl rs (.tup hq r)⟩⟩
  ·cases q
 | [],q=>cases q
 | _::_::_,q=>cases q
noncomputable def Vt:D->MH->Option String
 | .non,_=>some "NoneType"
 | .bl _,_=>some "bool"
 | .int _,_=>some "int"
 | .str _,_=>some "str"
 | .tup _,_=>some "tuple"
 | .ref n,mh=>match mh[n]? with | some (.lst _)=>some "list" | _=>none
 | .rol _,_=>some "list"
 | .obj ..,_=>none
 | .fn _,_=>none
 | .lam,_=>none
 | .clo _ _,_=>none
noncomputable def xZ (t c:String):Option Bool :=
 if t==c then some true else
 if ["NoneType", "bool", "int", "str", "tuple", "list"].contains t&&["bool", "int", "str", "tuple", "list", "dict"].contains c then some (t == "bool"&&c == "int") else none
theorem Hg {K:aj}{t c:String}{b:Bool}(ht:t∈["NoneType", "bool", "int", "str", "tuple", "list"]) (hc:c∈["bool", "int", "str", "tuple", "list", "dict"]) (h:xZ t c=some b):PySem.W.kitOne K (.type t) (.type c)=some b:=by
 simp only [dg,jh,or_false] at ht hc;rcases ht with rfl | rfl | rfl | rfl | rfl | rfl <;> rcases hc with rfl | rfl | rfl | rfl | rfl | rfl <;> (first | (have e:b=true:=by (have h':=h;revert h';decide +revert));subst e;kernel_rfl | (have e:b=false:=by (have h':=h;revert h';decide +revert));subst e;kernel_rfl)
end
inductive Src where
 | seq (ds:List D) | lref (n:Nat) | enum (s:Src) | zip (s t:Src)
noncomputable def uD:Nat->List D->List D
 | _,[]=>[]
 | i,d::r=>.tup [.int i,d]::uD (i+1) r
noncomputable def Src.items:Src->MH->List D
 | .seq ds,_=>ds
 | .lref n,mh=>match mh[n]? with | some (.lst o)=>o | _=>[]
 | .enum s,mh=>uD 0 (s.items mh)
 | .zip s t,mh=>gw (λa b=>.tup [a,b]) (s.items mh) (t.items mh)
noncomputable def Src.ok:Src->MH->Bool
 | .seq _,_=>true
 | .lref n,mh=>match mh[n]? with | some (.lst _)=>true | _=>false
 | .enum s,mh=>s.ok mh
 | .zip s t,mh=>s.ok mh&&t.ok mh
noncomputable def Src.get (s:Src) (mh:MH) (i:Nat):Option D:=(s.items mh)[i]?
noncomputable def Src.stop (s:Src) (mh:MH) (i:Nat):Bool:=s.ok mh&&decide ((s.items mh).length<=i)
structure JR (K:aj) (H0:Hp) (ρ0:List Addr) (src:Src) (J:It):Prop where
 go:∀ H ρ mh i d,Ev K H0 ρ0 H ρ->RS K H ρ mh->src.get mh i=some d->J.go i H/\∀ x H',J.yld i H x H'->Ev K H ρ H' ρ/\RS K H' ρ mh/\RD K H' ρ d x
 stop:∀ H ρ mh i,Ev K H0 ρ0 H ρ->RS K H ρ mh->src.stop mh i=true->J.stop i H
noncomputable def tDI (K:aj) (loc:Loc) (mh:MH) (r:Option (Src×MH)):TI:=λσ H R=>∃ ρ src mh',r=some (src,mh')/\RL K H ρ loc σ/\RS K H ρ mh/\∀ H' ρ' J,Ev K H ρ H' ρ'->RS K H' ρ' mh'->JR K H' ρ' src J->R J H'
noncomputable def DI (X:Cx) (tg iter:Expr) (m:DM Src):Prop:=∀ loc mh,PI X tg iter (tDI X.K loc mh (m loc mh))
theorem yC {X:Cx}{tg e:Expr}{t t':TI}(h:PI X tg e t) (i:∀ σ H R,t' σ H R->t σ H R):PI X tg e t':=λpins s σ H R I q=>h pins s σ H R I (i σ H R q)
theorem Dw {X:Cx}{tg e:Expr}{loc:Loc}{mh:MH}:PI X tg e (tDI X.K loc mh none):=λ_ _ _ _ _ _ h=>by obtain ⟨_,_,_,e,_⟩:=h;cases e
section
variable {X:Cx}{tg:Expr}
theorem JR.tup {K:aj}{H0:Hp}{ρ0:List Addr}{ds:List D}{a:Addr}{xs:List V}(s:SqT K H0 a xs) (r:RDs K H0 ρ0 ds xs):JR K H0 ρ0 (.seq ds) (Itt K a) where
 go:=λH ρ mh i d e rs q=>by
  obtain ⟨v,e1,r1⟩:=(r.mono e).get q;refine ⟨⟨xs,v,e.tup _ _ s,e1⟩,?_⟩;rintro x H' ⟨h1,h2⟩;subst h1;have:=h2 xs (e.tup _ _ s);rw [e1] at this;cases this;exact ⟨Ev.refl,rs,r1⟩
 stop:=λH ρ mh i e rs q=>by
  refine ⟨xs,e.tup _ _ s,?_⟩;rw [← r.length];have q:(true&&decide (ds.length<=i))=true:=q;rw [gh] at q;exact of_decide_eq_true q
theorem JR.lst {K:aj}{H0:Hp}{ρ0:List Addr}{n:Nat}{a:Addr}(h:ρ0[n]?=some a):JR K H0 ρ0 (.lref n) (Itl K a) where
 go:=λH ρ mh i d e rs q=>by
  unfold Src.get Src.items at q;cases eo:mh[n]? with
  | none=>simp only [eo] at q;simp at q
  | some ob =>
   cases ob with
   | dct kvs=>simp only [eo] at q;simp at q
   | dtk kvs=>simp only [eo] at q;simp at q
   | plc=>simp only [eo] at q;simp at q
   | plq=>simp only [eo] at q;simp at q
   | plw=>simp only [eo] at q;simp at q
   | plr=>simp only [eo] at q;simp at q
   | fzd=>simp only [eo] at q;simp at q
   | lst o =>
   simp only [eo] at q;obtain ⟨a',ha,ro⟩:=rs.at eo;rw [e.at h] at ha;cases ha;obtain ⟨xs,sq,r⟩:=ro.read;obtain ⟨v,e1,r1⟩:=r.get q;refine ⟨⟨xs,v,sq,e1⟩,?_⟩;rintro x H' ⟨h1,h2⟩;subst h1;have:=h2 xs sq;rw [e1] at this;cases this;exact ⟨Ev.refl,rs,r1⟩
 stop:=λH ρ mh i e rs q=>by
  unfold Src.stop Src.ok Src.items at q;cases eo:mh[n]? with
  | none=>simp only [eo] at q;simp at q
  | some ob =>
   cases ob with
   | dct kvs=>simp only [eo] at q;simp at q
   | dtk kvs=>simp only [eo] at q;simp at q
   | plc=>simp only [eo] at q;simp at q
   | plq=>simp only [eo] at q;simp at q
   | plw=>simp only [eo] at q;simp at q
   | plr=>simp only [eo] at q;simp at q
   | fzd=>simp only [eo] at q;simp at q
   | lst o =>
   simp only [eo] at q;obtain ⟨a',ha,ro⟩:=rs.at eo;rw [e.at h] at ha;cases ha;obtain ⟨xs,sq,r⟩:=ro.read;exact ⟨xs,sq,by rw [← r.length];simpa using q⟩
theorem JR.rol {K:aj}{H0:Hp}{ρ0:List Addr}{ds:List D}{a:Addr}{xs:List V}(s:Hy K H0 a xs) (r:RDs K H0 ρ0 ds xs):JR K H0 ρ0 (.seq ds) (Itl K a) where
 go:=λH ρ mh i d e rs q=>by
  obtain ⟨v,e1,r1⟩:=(r.mono e).get q;have sq:=(e.perm _ _ s).sq;refine ⟨⟨xs,v,sq,e1⟩,?_⟩;rintro x H' ⟨h1,h2⟩;subst h1;have:=h2 xs sq;rw [e1] at this;cases this;exact ⟨Ev.refl,rs,r1⟩
 stop:=λH ρ mh i e rs q=>by
  refine ⟨xs,(e.perm _ _ s).sq,?_⟩;rw [← r.length];have q:(true&&decide (ds.length<=i))=true:=q;rw [gh] at q;exact of_decide_eq_true q
noncomputable def Bv (lo:Int) (n:Nat):List D:=(vg n).map λ(k:Nat)=>D.int (lo+(k:Int))
theorem JR.rng {K:aj}{H0:Hp}{ρ0:List Addr}{lo:Int}{n:Nat}:JR K H0 ρ0 (.seq (Bv lo n)) (Itr lo n) where
 go:=λH ρ mh i d e rs q=>by
  have q:(Bv lo n)[i]?=some d:=q;unfold Bv at q;rw [dj] at q
  by_cases hi:i < n
  ·rw [yq hi] at q;cases q;refine ⟨hi,?_⟩;rintro x H' ⟨h1,h2⟩;subst h1;subst h2;exact ⟨Ev.refl,rs,.int _⟩
  ·rw [KJ (by simp;omega)] at q;cases q
 stop:=λH ρ mh i e rs q=>by
  show n<=i;have q:(true&&decide ((Bv lo n).length<=i))=true:=q;rw [gh] at q;have:=of_decide_eq_true q;unfold Bv at this
  simpa using this
noncomputable def srcOf:D->MH->Option Src
 | .tup ds,_=>some (.seq ds)
 | .ref n,mh=>match mh[n]? with | some (.lst _)=>some (.lref n) | _=>none
 | .rol ds,_=>some (.seq ds)
 | _,_=>none
noncomputable def Cq (ma:DM D):DM Src:=ma.bnd λx=>λ_ mh=>match srcOf x mh with | some s=>some (s,mh) | none=>none
theorem Eg {a:Expr}{ma:DM D}(ha:DE X a ma):DI X tg a (Cq ma):=λloc mh=>by
 cases ea:ma loc mh with
 | none =>
  have:Cq ma loc mh=none:=by unfold Cq DM.bnd;rw [ea]
  rw [this];exact Dw
 | some p =>
  obtain ⟨x,m1⟩:=p;have eq:Cq ma loc mh=(match srcOf x m1 with | some s=>some (s,m1) | none=>none):=by unfold Cq DM.bnd;rw [ea]
  rw [eq];cases x with
  | tup ds =>
   rintro pins s σ H R I ⟨ρ,src,mh',q,rl,rs,co⟩;cases q;refine vZ (ha loc mh) pins s σ H R I ⟨ρ,_,_,ea,rl,rs,λH1 ρ1 v e1 rs1 r1=>?_⟩;cases r1 with
   | tup s r=>exact ⟨_,rfl,⟨_,s⟩,co H1 ρ1 _ e1 rs1 (JR.tup s r)⟩
  | ref n =>
   rintro pins s σ H R I ⟨ρ,src,mh',q,rl,rs,co⟩;cases eo:m1[n]? with
   | none=>simp only [srcOf,eo] at q;cases q
   | some ob =>
    cases ob with
    | dct kvs=>simp only [srcOf,eo] at q;cases q
    | dtk kvs=>simp only [srcOf,eo] at q;cases q
    | plc=>simp only [srcOf,eo] at q;cases q
    | plq=>simp only [srcOf,eo] at q;cases q
    | plw=>simp only [srcOf,eo] at q;cases q
    | plr=>simp only [srcOf,eo] at q;cases q
    | fzd=>simp only [srcOf,eo] at q;cases q
    | lst o =>
    simp only [srcOf,eo] at q;cases q;refine Xb (ha loc mh) pins s σ H R I ⟨ρ,_,_,ea,rl,rs,λH1 ρ1 v e1 rs1 r1=>?_⟩;cases r1 with
    | @ref _ a' h =>
     obtain ⟨a2,ha2,ro⟩:=rs1.at eo;rw [h] at ha2;cases ha2;obtain ⟨xs,sq,r⟩:=ro.read;exact ⟨_,rfl,⟨xs,sq⟩,co H1 ρ1 _ e1 rs1 (JR.lst h)⟩
  | rol ds =>
   rintro pins s σ H R I ⟨ρ,src,mh',q,rl,rs,co⟩;cases q;refine Xb (ha loc mh) pins s σ H R I ⟨ρ,_,_,ea,rl,rs,λH1 ρ1 v e1 rs1 r1=>?_⟩;cases r1 with
   | rol s r=>exact ⟨_,rfl,⟨_,s.sq⟩,co H1 ρ1 _ e1 rs1 (JR.rol s r)⟩
  | non=>exact Dw
  | bl b=>exact Dw
  | int i=>exact Dw
  | str z=>exact Dw
  | obj c ks ds=>exact Dw
  | fn x=>exact Dw
  | lam=>exact Dw
  | clo=>exact Dw
noncomputable def Jm (ds:List D):Option Src:=match ds with
 | [.int j]=>if -(2 ^ 62)<=j/\j < 2 ^ 62 then some (.seq (Bv 0 j.toNat)) else none
 | _=>none
theorem Zd {ds:List D}{s:Src}(h:Jm ds=some s):∃ j,ds=[.int j]/\-(2 ^ 62)<=j/\j < 2 ^ 62/\s=.seq (Bv 0 j.toNat):=by
 unfold Jm at h;split at h
 ·rename_i j;split at h
  ·rename_i hj;cases h;exact ⟨j,rfl,hj.1,hj.2,rfl⟩
  ·cases h
 ·cases h
noncomputable def Ib (f:List D->Option Src) (mr:DM (List D)):DM Src:=mr.bnd λds=>match f ds with | some s=>Zr s | none=>Zb
theorem O4 {f:List D->Option Src}{mr:DM (List D)}{loc:Loc}{mh:MH}{r:Src×MH}(h:Ib f mr loc mh=some r):∃ ds,mr loc mh=some (ds,r.2)/\f ds=some r.1:=by
 obtain ⟨ds,m1,ea,q⟩:=Al h;cases e:f ds with
 | none=>rw [e] at q;cases q
 | some s=>rw [e] at q;cases q;exact ⟨ds,ea,e⟩
theorem Ac4 {K:aj}{H:Hp}{ρ:List Addr}{d e:D}{xs:List V}(h:RDs K H ρ [d,e] xs):∃ v u,xs=[v,u]/\RD K H ρ d v/\RD K H ρ e u:=by
 cases h with
 | cons r t =>
  cases t with
  | cons r2 t=>cases t;exact ⟨_,_,rfl,r,r2⟩
theorem Ze {a:Expr}{mr:DM (List D)}{p pos:Pos}(hg:Gl X "range") (hm:X.mg "range"=none) (ha:DA X [a] mr) (hs:starEach [a] X.env=[(false,eval a X.env)]):DI X tg (.Call (.Name "range" p) [a] [] pos) (Ib Jm mr):=λloc mh=>by
 refine yC (Yz hg hm (ha loc mh) hs) ?_;rintro σ H R ⟨ρ,src,mh',q,rl,rs,co⟩;obtain ⟨ds,ea,q⟩:=O4 q;refine ⟨ρ,ds,mh',ea,rl,rs,λH1 ρ1 vs e1 rs1 r1=>?_⟩;obtain ⟨j,rfl,h1,h2,e⟩:=Zd q;obtain ⟨v,rfl,rv⟩:=Kz r1;cases rv;have e:src=.seq (Bv 0 j.toNat):=e;subst e;exact ⟨j,rfl,h1,h2,co H1 ρ1 _ e1 rs1 JR.rng⟩
end
inductive Fl where
 | nx | bk | ct | rt (d:D)
noncomputable abbrev SM:=Loc->MH->Option (Fl×Loc×MH)
noncomputable def CoS (K:aj) (H:Hp) (ρ:List Addr) (f:Fl) (loc':Loc) (mh':MH) (N:Ends):Prop:=match f with
 | .nx=>∀ H' ρ' σ',Ev K H ρ H' ρ'->RS K H' ρ' mh'->RL K H' ρ' loc' σ'->N.nx σ' H'
 | .bk=>∀ H' ρ' σ',Ev K H ρ H' ρ'->RS K H' ρ' mh'->RL K H' ρ' loc' σ'->N.bk σ' H'
 | .ct=>∀ H' ρ' σ',Ev K H ρ H' ρ'->RS K H' ρ' mh'->RL K H' ρ' loc' σ'->N.ct σ' H'
 | .rt d=>∀ H' ρ' v,Ev K H ρ H' ρ'->RS K H' ρ' mh'->RD K H' ρ' d v->N.rt v H'
theorem CoS.ev {K:aj}{H H1:Hp}{ρ ρ1:List Addr}{f:Fl}{loc':Loc}{mh':MH}{N:Ends}(e:Ev K H ρ H1 ρ1) (c:CoS K H ρ f loc' mh' N):CoS K H1 ρ1 f loc' mh' N:=by
 cases f with
 | nx=>exact λH' ρ' σ' e' rs r=>c H' ρ' σ' (e.trans e') rs r
 | bk=>exact λH' ρ' σ' e' rs r=>c H' ρ' σ' (e.trans e') rs r
 | ct=>exact λH' ρ' σ' e' rs r=>c H' ρ' σ' (e.trans e') rs r
 | rt d=>exact λH' ρ' σ' e' rs r=>c H' ρ' σ' (e.trans e') rs r
noncomputable def tS (K:aj) (m:SM):TS:=λN σ H=>∃ loc mh ρ f loc' mh',m loc mh=some (f,loc',mh')/\RL K H ρ loc σ/\RS K H ρ mh/\CoS K H ρ f loc' mh' N
noncomputable def DS (X:Cx) (st:Stmt) (m:SM):Prop:=PS X st (tS X.K m)
noncomputable def DSs (X:Cx) (sts:List Stmt) (m:SM):Prop:=PSs X sts (tS X.K m)
theorem Gm {X:Cx}{st:Stmt}{t t':TS}(h:PS X st t) (i:∀ N σ H,t' N σ H->t N σ H):PS X st t':=λpins s σ H N I q=>h pins s σ H N I (i N σ H q)
theorem Xp {X:Cx}{st:List Stmt}{t t':TS}(h:PSs X st t) (i:∀ N σ H,t' N σ H->t N σ H):PSs X st t':=λpins s σ H N I q=>h pins s σ H N I (i N σ H q)
noncomputable def SM.bad:SM:=λ_ _=>none
theorem Eh {X:Cx}{st:Stmt}:DS X st SM.bad:=λ_ _ _ _ _ _ h=>by obtain ⟨_,_,_,_,_,_,e,_⟩:=h;cases e
noncomputable def tDx (K:aj) (m:DM D):TE:=λσ H Q=>∃ loc mh,tD K loc mh (m loc mh) σ H Q
noncomputable def tTx (K:aj) (m:DM Bool):TT:=λσ H Q=>∃ loc mh,tDT K loc mh (m loc mh) σ H Q
noncomputable def tIx (K:aj) (m:DM Src):TI:=λσ H R=>∃ loc mh,tDI K loc mh (m loc mh) σ H R
theorem DE.x {X:Cx}{e:Expr}{m:DM D}(h:DE X e m):PE X e (tDx X.K m):=λpins s σ H Q I ⟨loc,mh,q⟩=>h loc mh pins s σ H Q I q
theorem DT.x {X:Cx}{e:Expr}{m:DM Bool}(h:DT X e m):PT X e (tTx X.K m):=λpins s σ H Q I ⟨loc,mh,q⟩=>h loc mh pins s σ H Q I q
theorem DI.x {X:Cx}{tg e:Expr}{m:DM Src}(h:DI X tg e m):PI X tg e (tIx X.K m):=λpins s σ H Q I ⟨loc,mh,q⟩=>h loc mh pins s σ H Q I q
section
variable {X:Cx}{st:Stmt}{sts:List Stmt}{m m1 m2:SM}{e:Expr}{me:DM D}{pos:Pos}
noncomputable def Zn:SM:=λloc mh=>some (.nx,loc,mh)
noncomputable def Ab (m1 m2:SM):SM:=λloc mh=>match m1 loc mh with
 | some (.nx,l,h)=>m2 l h
 | r=>r
theorem Xq:DSs X [] Zn:=by
 refine Xp nT ?_;rintro N σ H ⟨loc,mh,ρ,f,loc',mh',q,rl,rs,co⟩;cases q;exact co H ρ σ Ev.refl rs rl
theorem Te (h1:DS X st m1) (h2:DSs X sts m2):DSs X (st::sts) (Ab m1 m2):=by
 refine Xp (bJ h1 h2) ?_;rintro N σ H ⟨loc,mh,ρ,f,loc',mh',q,rl,rs,co⟩;unfold Ab at q;split at q
 ·rename_i l h e1;exact ⟨loc,mh,ρ,.nx,l,h,e1,rl,rs,λH1 ρ1 σ1 ev1 rs1 rl1=>⟨l,h,ρ1,f,loc',mh',q,rl1,rs1,co.ev ev1⟩⟩
 ·rename_i r hne;refine ⟨loc,mh,ρ,f,loc',mh',q,rl,rs,?_⟩;cases f with
  | nx=>exact absurd q (hne _ _)
  | bk=>exact co
  | ct=>exact co
  | rt d=>exact co
theorem pQ:DS X (.Pass pos) Zn:=by
 refine Gm nU ?_;rintro N σ H ⟨loc,mh,ρ,f,loc',mh',q,rl,rs,co⟩;cases q;exact co H ρ σ Ev.refl rs rl
theorem dG:DS X (.Break pos) (λloc mh=>some (.bk,loc,mh)):=by
 refine Gm bK ?_;rintro N σ H ⟨loc,mh,ρ,f,loc',mh',q,rl,rs,co⟩;cases q;exact co H ρ σ Ev.refl rs rl
theorem Tf:DS X (.Continue pos) (λloc mh=>some (.ct,loc,mh)):=by
 refine Gm Ss ?_;rintro N σ H ⟨loc,mh,ρ,f,loc',mh',q,rl,rs,co⟩;cases q;exact co H ρ σ Ev.refl rs rl
noncomputable def retS (me:DM D):SM:=λloc mh=>match me loc mh with | some (d,mh')=>some (.rt d,loc,mh') | none=>none
theorem dH (he:DE X e me):DS X (.Return (some e) pos) (retS me):=by
 refine Gm (vQ he.x) ?_;rintro N σ H ⟨loc,mh,ρ,f,loc',mh',q,rl,rs,co⟩;unfold retS at q;split at q
 ·rename_i d h1 ee;cases q;exact ⟨loc,mh,ρ,d,_,ee,rl,rs,co⟩
 ·cases q
theorem pR:DS X (.Return none pos) (λloc mh=>some (.rt .non,loc,mh)):=by
 refine Gm nY ?_;rintro N σ H ⟨loc,mh,ρ,f,loc',mh',q,rl,rs,co⟩;cases q;exact co H ρ _ Ev.refl rs .non
noncomputable def Dp (me:DM D):SM:=λloc mh=>match me loc mh with | some (_,mh')=>some (.nx,loc,mh') | none=>none
theorem pU (he:DE X e me) (hs:swapsWith e none pos.line X.env=pure false):DS X (.Expr e pos) (Dp me):=by
 refine Gm (nW he.x hs) ?_;rintro N σ H ⟨loc,mh,ρ,f,loc',mh',q,rl,rs,co⟩;unfold Dp at q;split at q
 ·rename_i d h1 ee;cases q;exact ⟨loc,mh,ρ,d,_,ee,rl,rs,λH' ρ' v e' rs' r'=>co H' ρ' σ e' rs' (rl.mono e')⟩
 ·cases q
noncomputable def ifS (t:DM Bool) (m1 m2:SM):SM:=λloc mh=>match t loc mh with
 | some (k,h)=>if k=true then m1 loc h else m2 loc h
 | none=>none
theorem Ac5 {c:Expr}{a b:List Stmt}{t:DM Bool}(hc:DT X c t) (ha:DSs X a m1) (hb:DSs X b m2):DS X (.If c a b pos) (ifS t m1 m2):=by
 refine Gm (Ab6 hc.x ha hb) ?_;rintro N σ H ⟨loc,mh,ρ,f,loc',mh',q,rl,rs,co⟩;unfold ifS at q;split at q
 ·rename_i k h ek;refine ⟨loc,mh,ρ,k,h,ek,rl,rs,λH1 ρ1 e1 rs1=>?_⟩;cases k with
  | true=>exact S5 ⟨loc,h,ρ1,f,loc',mh',by rw [if_pos rfl] at q;exact q,rl.mono e1,rs1,co.ev e1⟩
  | false=>exact Sy ⟨loc,h,ρ1,f,loc',mh',by rw [if_neg qe] at q;exact q,rl.mono e1,rs1,co.ev e1⟩
 ·cases q
noncomputable abbrev GM:=D->Loc->MH->Option (Loc×MH)
noncomputable def Ir (ws:List Nat) (σ σ':St):Prop:=σ'.length=σ.length/\∀ i,i ∉ ws->σ'[i]?=σ[i]?
noncomputable def tG (K:aj) (ws:List Nat) (g:GM):TG:=λv σ H Q=>∃ d loc mh ρ loc' mh',g d loc mh=some (loc',mh')/\RL K H ρ loc σ/\RS K H ρ mh/\RD K H ρ d v /\
 ∀ H' ρ' σ',Ev K H ρ H' ρ'->RS K H' ρ' mh'->RL K H' ρ' loc' σ'->Ir ws σ σ'->Q σ' H'
noncomputable def DG (X:Cx) (tg:Expr) (ws:List Nat) (g:GM):Prop:=PG X tg (tG X.K ws g)
theorem Vu {tg:Expr}{t t':TG}(h:PG X tg t) (i:∀ v σ H Q,t' v σ H Q->t v σ H Q):PG X tg t':=λpins s σ H v u Q I r q=>h pins s σ H v u Q I r (i v σ H Q q)
noncomputable def Aj (i:Nat):GM:=λd loc mh=>some (loc.set i (some d),mh)
theorem Ir.set {σ:St}{i:Nat}{o:Option V}:Ir [i] σ (σ.set i o):=⟨iw,λj hj=>gk (λe=>hj (by simp [e]))⟩
theorem pW {i:Nat}{x:Str}(hN:X.N.Nodup) (hi:X.N[i]?=some x) (hx:L2.Loc X.env.scope x) (hf:X.fn x=true\/X.env.scope.names.lookup x=some .local):DG X (.Name x pos) [i] (Aj i):=by
 refine Vu (W9 hN hi hx hf) ?_;rintro v σ H Q ⟨d,loc,mh,ρ,loc',mh',q,rl,rs,r,co⟩;cases q;exact co H ρ _ Ev.refl rs (rl.set r) Ir.set
noncomputable def M7:List Nat->List D->Loc->Loc
 | i::is,d::ds,loc=>M7 is ds (loc.set i (some d))
 | _,_,loc=>loc
noncomputable def J1:List Nat->List V->St->St
 | i::is,d::ds,loc=>J1 is ds (loc.set i (some d))
 | _,_,loc=>loc
noncomputable def gNs:List Nat->TGs
 | []=>Ab8
 | i::is=>tY (bL i) (gNs is)
theorem dI:∀ (is:List Nat) (vs:List V) (σ:St) (H:Hp) (Q:St->Hp->Prop),vs.length=is.length->Q (J1 is vs σ) H->gNs is vs σ H Q
 | [],[],_,_,_,_,q=>⟨rfl,q⟩
 | [],_::_,_,_,_,h,_=>by simp at h
 | _::_,[],_,_,_,h,_=>by simp at h
 | i::is,v::vs,σ,H,Q,h,q=>⟨v,vs,rfl,dI is vs _ H Q (by simpa using h) q⟩
theorem O5 {K:aj}{H:Hp}{ρ:List Addr}:∀ (is:List Nat) {ds:List D}{vs:List V}{loc:Loc}{σ:St},RDs K H ρ ds vs->RL K H ρ loc σ->RL K H ρ (M7 is ds loc) (J1 is vs σ)
 | [],_,_,_,_,.nil,rl=>rl
 | [],_,_,_,_,.cons _ _,rl=>rl
 | _::_,_,_,_,_,.nil,rl=>rl
 | i::is,_,_,_,_,.cons r t,rl=>O5 is t (rl.set r)
theorem Lh:∀ (is:List Nat) (vs:List V) (σ:St),Ir is σ (J1 is vs σ)
 | [],[],_=>⟨rfl,λ_ _=>rfl⟩
 | [],_::_,_=>⟨rfl,λ_ _=>rfl⟩
 | _::_,[],_=>⟨rfl,λ_ _=>rfl⟩
 | i::is,v::vs,σ=>by
  obtain ⟨h1,h2⟩:=Lh is vs (σ.set i (some v));refine ⟨h1.trans iw,λj hj=>?_⟩;have hj':¬ (j=i)/\j ∉ is:=by simpa using hj
  show (J1 is vs (σ.set i (some v)))[j]?=σ[j]?;rw [h2 j hj'.2,gk (λe=>hj'.1 e.symm)]
noncomputable def Fe (is:List Nat):GM:=λd loc mh=>match d with
 | .tup ds=>if ds.length=is.length then some (M7 is ds loc,mh) else none
 | _=>none
theorem yD {es:List Expr}{k:Nat}{is:List Nat}(hc:X.calm=true) (h:PGs X es (gNs is)) (hn:(assignEach es X.env).length=is.length) (hst:(assignEach es X.env).findIdx? (·.1)=none):DG X (.Tuple es k pos) is (Fe is):=by
 refine Vu (vU hc h hn hst) ?_;rintro v σ H Q ⟨d,loc,mh,ρ,loc',mh',q,rl,rs,r,co⟩;cases r with
 | @tup ds a xs s r =>
  have q:(if ds.length=is.length then some (M7 is ds loc,mh) else none)=some (loc',mh'):=q;split at q
  ·rename_i hl;cases q;exact ⟨a,xs,rfl,s,by rw [← r.length];exact hl,dI is xs σ H Q (by rw [← r.length];exact hl) (co H ρ _ Ev.refl rs (O5 is r rl) (Lh is xs σ))⟩
  ·cases q
 | _=>cases q
noncomputable def Tg (o i v:D) (mh:MH):Option MH:=match o with
 | .ref n=>(match i with
  | .int k=>(match mh[n]? with
   | some (.lst ds)=>(match ixN ds.length k with
    | some j=>some (mh.set n (.lst (ds.set j v)))
    | none=>none)
   | _=>none)
  | _=>none)
 | _=>none
noncomputable def O6 (mo mi:DM D):GM:=λv loc mh=>match mo loc mh with
 | some (o,m1)=>match mi loc m1 with
  | some (i,m2)=>match Tg o i v m2 with
   | some m3=>some (loc,m3)
   | none=>none
  | none=>none
 | none=>none
theorem Vv {o i v:D}{mh m:MH}(h:Tg o i v mh=some m):∃ n k ds j,o=.ref n/\i=.int k/\mh[n]?=some (.lst ds)/\ixN ds.length k=some j/\m=mh.set n (.lst (ds.set j v)):=by
 cases o with
 | ref n =>
  cases i with
  | int k =>
   have h:(match mh[n]? with | some (.lst ds)=>(match ixN ds.length k with | some j=>some (mh.set n (.lst (ds.set j v))) | none=>none) | _=>none)=some m:=h;split at h
   ·rename_i ds em;split at h
    ·rename_i j ej;cases h;exact ⟨n,k,ds,j,rfl,rfl,em,ej,rfl⟩
    ·cases h
   ·cases h
  | _=>cases h
 | _=>cases h
theorem yE {o i:Expr}{mo mi:DM D}(ho:DE X o mo) (hi:DE X i mi) (ha:∀ v,assign (.Subscript o i pos) X.env v=(do
      let ov ← holding [v] (eval o X.env)
      let iv ← holding [v,ov] (eval i X.env)
      standAt pos
      holding [v,ov,iv] (setItem ov iv v)
      release [v,ov,iv] [])):DG X (.Subscript o i pos) [] (O6 mo mi):=by
  refine Vu (vV ho.x hi.x set_list ha) ?_;rintro v σ H Q ⟨d,loc,mh,ρ,loc',mh',q,rl,rs,r,co⟩;unfold O6 at q;split at q
  · rename_i od m1 eo;split at q
    · rename_i idx m2 ei;split at q
      · rename_i m3 es;cases q;refine ⟨loc,mh,ρ,od,m1,eo,rl,rs,λH1 ρ1 v1 e1 rs1 r1=>⟨loc,m1,ρ1,idx,m2,ei,rl.mono e1,rs1,λH2 ρ2 v2 e2 rs2 r2=>?_⟩⟩;obtain ⟨n,k,ds,j,rfl,rfl,em,ej,rfl⟩:=Vv es;have r':=(r.mono e1).mono e2;cases r1.mono e2 with
        | @ref _ a hn =>
          cases r2;obtain ⟨a',ha',xs,hx,rx⟩:=rs2.at em;rw [hn] at ha';cases ha';refine ⟨a,xs,k,j,rfl,rfl,hx,by rw [← rx.length];exact ej,?_⟩;exact co _ ρ2 σ ((e1.trans e2).trans (Ev.lst hx)) (rs2.setL hn hx (rx.set r' j)) (((rl.mono e1).mono e2).mono (Ev.lst hx)) ⟨rfl,λ_ _=>rfl⟩
      · cases q
    · cases q
  · cases q
noncomputable def Ao (me:DM D) (g:GM):SM:=λloc mh=>match me loc mh with
 | some (d,h)=>match g d loc h with
  | some (l,h')=>some (.nx,l,h')
  | none=>none
 | none=>none
theorem Ti {ws:List Nat}{g:GM}{N:Ends}{σ:St}{H:Hp}(h:tS X.K (Ao me g) N σ H):vW (tDx X.K me) (tG X.K ws g) N σ H:=by
 obtain ⟨loc,mh,ρ,f,loc',mh',q,rl,rs,co⟩:=h;unfold Ao at q;split at q
 ·rename_i d h1 ee;split at q
  ·rename_i l h2 eg;cases q;exact ⟨loc,mh,ρ,d,h1,ee,rl,rs,λH1 ρ1 v e1 rs1 r1=>⟨d,loc,h1,ρ1,_,_,eg,rl.mono e1,rs1,r1,λH2 ρ2 σ2 e2 rs2 rl2 _=>co H2 ρ2 σ2 (e1.trans e2) rs2 rl2⟩⟩
  ·cases q
 ·cases q
theorem Vw {tg:Expr}{ws:List Nat}{g:GM}(he:DE X e me) (hg:DG X tg ws g) (hs:swapsWithSole [tg] e pos.line X.env=pure false) (hw:swappedStores [tg] e X.env=pure none) (h1:(assignEach [tg] X.env).map (·.2)=[assign tg X.env]):DS X (.Assign [tg] e pos) (Ao me g) :=
 Gm (vX he.x hg hs hw h1) λN σ H h=>Ti h
noncomputable def Ma (src:Src) (g:GM) (body:SM):Nat->Nat->SM
 | 0,i,loc,mh=>if src.stop mh i=true then some (.nx,loc,mh) else none
 | k+1,i,loc,mh=>match src.get mh i with
  | none=>if src.stop mh i=true then some (.nx,loc,mh) else none
  | some d=>match g d loc mh with
   | none=>none
   | some (l1,h1)=>match body l1 h1 with
    | some (.nx,l,h)=>Ma src g body k (i+1) l h
    | some (.ct,l,h)=>Ma src g body k (i+1) l h
    | some (.bk,l,h)=>some (.nx,l,h)
    | some (.rt d,l,h)=>some (.rt d,l,h)
    | none=>none
noncomputable def Ga (mi:DM Src) (g:GM) (body:SM):SM:=λloc mh=>match mi loc mh with
 | some (src,h)=>Ma src g body (src.items h).length 0 loc h
 | none=>none
theorem yF {tg iter:Expr}{body:List Stmt}{mi:DM Src}{ws:List Nat}{g:GM}{mb:SM}(hp:PassesOwn (model X.prog X.w) X.A X.env X.xe) (hc:X.calm=true) (hi:DI X tg iter mi) (hg:DG X tg ws g) (hb:DSs X body mb)
  (hs:∀ x,foldedSetIterable iter X.env x=pure x):DS X (.For tg iter body [] pos) (Ga mi g mb):=by
 refine Gm (wA hp hc hi.x hg hb hs) ?_;rintro N σ H ⟨loc,mh,ρ,f,loc',mh',q,rl,rs,co⟩;unfold Ga at q;split at q
 ·rename_i src h0 ei;refine ⟨loc,mh,ρ,src,h0,ei,rl,rs,λH1 ρ1 J e1 rs1 jr=>?_⟩
  refine ⟨λi k σ H=>∃ ρ loc mh f loc' mh',Ev X.K H1 ρ1 H ρ/\RL X.K H ρ loc σ/\RS X.K H ρ mh/\Ma src g mb k i loc mh=some (f,loc',mh')/\CoS X.K H ρ f loc' mh' N,
   ⟨_,ρ1,loc,h0,f,loc',mh',Ev.refl,rl.mono e1,rs1,q,co.ev e1⟩,?_⟩
  rintro i k σ H ⟨ρ,loc,mh,f,loc',mh',ev,rl,rs,q,co⟩;have stop:(if src.stop mh i=true then some (Fl.nx,loc,mh) else none)=some (f,loc',mh')->J.stop i H/\N.nx σ H:=λq=>by
   split at q
   ·rename_i hst;cases q;exact ⟨jr.stop H ρ mh i ev rs hst,co H ρ σ Ev.refl rs rl⟩
   ·cases q
  cases k with
  | zero=>exact .inl (stop q)
  | succ k =>
   simp only [Ma] at q;split at q
   ·exact .inl (stop q)
   ·rename_i d ed;obtain ⟨hgo,hyld⟩:=jr.go H ρ mh i d ev rs ed;split at q
    ·cases q
    ·rename_i l1 h1 eg
     refine .inr ⟨hgo,λσ' H'=>∃ ρ' loc mh f loc' mh',Ev X.K H1 ρ1 H' ρ'/\RL X.K H' ρ' loc σ'/\RS X.K H' ρ' mh/\Ma src g mb k (i+1) loc mh=some (f,loc',mh')/\CoS X.K H' ρ' f loc' mh' N,
      λσ' H' h=>⟨k,jq _,h⟩,λx H' hy=>?_⟩
     obtain ⟨ev2,rs2,rd2⟩:=hyld x H' hy;refine ⟨d,loc,mh,ρ,l1,h1,eg,rl.mono ev2,rs2,rd2,λH3 ρ3 σ3 ev3 rs3 rl3 _=>?_⟩;split at q
     ·rename_i l h eb;exact ⟨l1,h1,ρ3,.nx,l,h,eb,rl3,rs3,λH4 ρ4 σ4 ev4 rs4 rl4=>⟨ρ4,l,h,f,loc',mh',ev.trans (ev2.trans (ev3.trans ev4)),rl4,rs4,q,co.ev (ev2.trans (ev3.trans ev4))⟩⟩
     ·rename_i l h eb;exact ⟨l1,h1,ρ3,.ct,l,h,eb,rl3,rs3,λH4 ρ4 σ4 ev4 rs4 rl4=>⟨ρ4,l,h,f,loc',mh',ev.trans (ev2.trans (ev3.trans ev4)),rl4,rs4,q,co.ev (ev2.trans (ev3.trans ev4))⟩⟩
     ·rename_i l h eb;cases q;exact ⟨l1,h1,ρ3,.bk,_,_,eb,rl3,rs3,λH4 ρ4 σ4 ev4 rs4 rl4=>co H4 ρ4 σ4 (ev2.trans (ev3.trans ev4)) rs4 rl4⟩
     ·rename_i d' l h eb;cases q;exact ⟨l1,h1,ρ3,.rt d',_,_,eb,rl3,rs3,λH4 ρ4 v4 ev4 rs4 r4=>co H4 ρ4 v4 (ev2.trans (ev3.trans ev4)) rs4 r4⟩
     ·cases q
 ·cases q
end
section
variable {X:Cx}{pos:Pos}
end
noncomputable def Hv (cs:List (Option Nat)) (loc:Loc):Loc:=cs.map λo=>match o with | some j=>(match loc[j]? with | some d=>d | none=>none) | none=>none
noncomputable def Oh (cs:List (Option Nat)) (σ:St):St:=cs.map λo=>match o with | some j=>(match σ[j]? with | some d=>d | none=>none) | none=>none
theorem yG {K:aj}{H:Hp}{ρ:List Addr}{loc:Loc}{σ:St}(cs:List (Option Nat)) (h:RL K H ρ loc σ):RL K H ρ (Hv cs loc) (Oh cs σ):=by
 refine ⟨by unfold Hv Oh;rw [aq,aq],λi d e=>?_⟩;unfold Hv at e;unfold Oh;rw [dj] at e ⊢;cases q:cs[i]? with
 | none=>rw [q] at e;cases e
 | some o =>
  rw [q] at e;cases o with
  | none=>simp at e
  | some j =>
   simp only [uo,GQ] at e;cases ej:loc[j]? with
   | none=>rw [ej] at e;cases e
   | some d' =>
    rw [ej] at e;have e:d'=some d:=e;subst e;obtain ⟨v,e1,r⟩:=h.2 j d ej;exact ⟨v,by simp only [uo,e1],r⟩
structure CapOk (X:Cx) (N':List Str) (scope:Scope) (cs:List (Option Nat)):Prop where
 len:N'.length=cs.length
 cap:∀ (i:Nat) (x:Str) (j:Nat),N'[i]?=some x->cs[i]?=some (some j)->scope.names.lookup x=some .free/\X.N[j]?=some x
theorem CapOk.to {X:Cx}{N':List Str}{scope:Scope}{cs:List (Option Nat)}(h:CapOk X N' scope cs) (σ:St):Cap X N' scope σ (Oh cs σ):=by
 refine ⟨by unfold Oh;rw [aq];exact h.len.symm,λi x v e1 e2=>?_⟩;unfold Oh at e2;rw [dj] at e2;cases q:cs[i]? with
 | none=>rw [q] at e2;cases e2
 | some o =>
  rw [q] at e2;cases o with
  | none=>simp at e2
  | some j =>
   obtain ⟨h1,h2⟩:=h.cap i x j e1 q;refine ⟨h1,j,h2,?_⟩;simp only [uo,GQ] at e2;cases ej:σ[j]? with
   | none=>rw [ej] at e2;cases e2
   | some d'=>rw [ej] at e2;have e2:d'=some v:=e2;rw [e2]
theorem pX {cs:List (Option Nat)}{ws:List Nat}{σ σ2:St}(hw:∀ i∈ws,∀ j,cs[i]?≠some (some j)) (h:Ir ws (Oh cs σ) σ2):Kept (Oh cs σ) σ2:=by
 refine ⟨h.1,λi v e=>?_⟩;rw [h.2 i λhi=>?_]
 ·exact e
 ·unfold Oh at e;rw [dj] at e;cases q:cs[i]? with
  | none=>rw [q] at e;cases e
  | some o =>
   cases o with
   | none=>rw [q] at e;simp at e
   | some j=>exact hw i hi j q
noncomputable def Ge (src:Src) (g:GM) (tc:DM Bool) (me:DM D) (loc:Loc):Nat->Nat->List D->MH->Option (List D×MH)
 | 0,i,acc,mh=>if src.stop mh i=true then some (acc,mh) else none
 | k+1,i,acc,mh=>match src.get mh i with
  | none=>if src.stop mh i=true then some (acc,mh) else none
  | some d=>match g d loc mh with
   | none=>none
   | some (l1,h1)=>match tc l1 h1 with
    | none=>none
    | some (c,h2)=>if c=true then (match me l1 h2 with
      | some (y,h3)=>if acc.length < sizeLine then Ge src g tc me loc k (i+1) (acc++[y]) h3 else none
      | none=>none) else Ge src g tc me loc k (i+1) acc h2
noncomputable def Bj (mi:DM Src) (cs:List (Option Nat)) (g:GM) (tc:DM Bool) (me:DM D):DM D:=λloc mh=>match mi loc mh with
 | some (src,h)=>match Ge src g tc me (Hv cs loc) (src.items h).length 0 [] h with
  | some (ds,h')=>some (.ref h'.length,h'++[.lst ds])
  | none=>none
 | none=>none
section
variable {X:Cx}{N':List Str}{scope:Scope}{cs:List (Option Nat)}{ws:List Nat}{mi:DM Src}{g:GM}{tc:DM Bool}{me:DM D}{elt target iter:Expr}{ifs:List Expr}{pos:Pos}
theorem Tj (hcap:CapOk X N' scope cs) (hw:∀ i∈ws,∀ j,cs[i]?≠some (some j)) {σ:St}{H:Hp}{Q:VK}(h:tDx X.K (Bj mi cs g tc me) σ H Q) :
  cL X N' scope (tIx X.K mi) (tG X.K ws g) (tTx X.K tc) (tDx X.K me) σ H Q:=by
 obtain ⟨loc,mh,ρ,d,mh',q,rl,rs,co⟩:=h;unfold Bj at q;split at q
 ·rename_i src h0 ei;split at q
  ·rename_i ds h1 ec;cases q;refine ⟨loc,mh,ρ,src,h0,ei,rl,rs,λH1 ρ1 J e1 rs1 jr=>?_⟩;refine ⟨Oh cs σ,hcap.to σ,λi k acc H=>∃ ρ accD mh,Ev X.K H1 ρ1 H ρ/\RS X.K H ρ mh/\RDs X.K H ρ accD acc/\Ge src g tc me (Hv cs loc) k i accD mh=some (ds,h1),⟨_,ρ1,[],h0,Ev.refl,rs1,.nil,ec⟩,?_⟩;have co1:=co.ev e1;have rl1:=yG cs (rl.mono e1);rintro i k acc H ⟨ρ,accD,mh,ev,rs,ra,q⟩;have stop:(if src.stop mh i=true then some (accD,mh) else none)=some (ds,h1)->J.stop i H/\∀ p,H p=none->Q (.ref p) (upd H p (.lst acc)):=λq=>by
    split at q
    ·rename_i hst;cases q;exact ⟨jr.stop H ρ _ i ev rs hst,Co.newL rs ra (co1.ev ev)⟩
    ·cases q
   cases k with
   | zero=>exact .inl (stop q)
   | succ k =>
    simp only [Ge] at q;split at q
    ·exact .inl (stop q)
    ·rename_i d ed;obtain ⟨hgo,hyld⟩:=jr.go H ρ mh i d ev rs ed;split at q
     ·cases q
     ·rename_i l1 h2 eg;refine .inr ⟨hgo,λacc' H'=>∃ ρ accD mh,Ev X.K H1 ρ1 H' ρ/\RS X.K H' ρ mh/\RDs X.K H' ρ accD acc'/\Ge src g tc me (Hv cs loc) k (i+1) accD mh=some (ds,h1),λacc' H' h=>⟨k,jq _,h⟩,λx H' hy=>?_⟩;obtain ⟨ev2,rs2,rd2⟩:=hyld x H' hy;refine ⟨d,Hv cs loc,mh,ρ,l1,h2,eg,rl1.mono (ev.trans ev2),rs2,rd2,λH3 ρ3 σ3 ev3 rs3 rl3 kb=>⟨pX hw kb,?_⟩⟩;split at q
      ·cases q
      ·rename_i c h3 et;refine ⟨l1,h2,ρ3,c,h3,et,rl3,rs3,λH4 ρ4 ev4 rs4=>?_⟩;have evA:=ev2.trans (ev3.trans ev4);cases c with
       | false =>
        rw [if_neg qe] at q;exact Sy ⟨ρ4,accD,h3,ev.trans evA,rs4,ra.mono evA,q⟩
       | true =>
        rw [if_pos rfl] at q;split at q
        ·rename_i y h4 ey;split at q
         ·rename_i hz;refine S5 ⟨by rw [← ra.length];exact hz,l1,h3,ρ4,y,h4,ey,rl3.mono ev4,rs4,λH5 ρ5 v ev5 rs5 r5=>⟨ρ5,accD++[y],h4,ev.trans (evA.trans ev5),rs5,(ra.mono (evA.trans ev5)).append (.cons r5 .nil),q⟩⟩
         ·cases q
        ·cases q
  ·cases q
 ·cases q
noncomputable def DIf (X:Cx) (ifs:List Expr) (m:DM Bool):Prop:=PIf X ifs (tTx X.K m)
theorem pY:DIf X [] (Zr true):=by
 rintro pins s σ H Q I ⟨loc,mh,ρ,b,mh',q,rl,rs,co⟩;cases q;exact oX pins s σ H Q I (co H ρ Ev.refl rs)
theorem pZ {c:Expr}{m:DM Bool}(h:DT X c m):DIf X [c] m:=oY h.x
theorem qC (hc:X.calm=true) (S:CompOk X scope) (hcap:CapOk X N' scope cs) (hw:∀ i∈ws,∀ j,cs[i]?≠some (some j)) (hit:DI X target iter mi)
  (hg:∀ pins C cells s₀ H₀ fp,DG (Cp X pins N' scope C cells s₀ H₀ fp) target ws g)
  (hi:∀ pins C cells s₀ H₀ fp,DIf (Cp X pins N' scope C cells s₀ H₀ fp) ifs tc)
  (he:∀ pins C cells s₀ H₀ fp,DE (Cp X pins N' scope C cells s₀ H₀ fp) elt me)
  (hs:∀ x,foldedSetIterable iter X.env x=pure x):DE X (.ListComp elt [⟨target,iter,ifs,0⟩] scope pos) (Bj mi cs g tc me):=λloc mh =>
 Bt (oZ (N':=N') (g:=tG X.K ws g) (tc:=tTx X.K tc) (te:=tDx X.K me) hc S hit.x (λp C c s h f=>hg p C c s h f) (λp C c s h f=>hi p C c s h f) (λp C c s h f=>(he p C c s h f).x) hs) λσ H Q h=>Tj hcap hw ⟨loc,mh,h⟩
theorem Vx {y:Str}{py spos:Pos}{wy:List Nat}{gy:GM}(hc:X.calm=true) (S:CompOk X scope) (hcap:CapOk X N' scope cs) (hw:∀ i∈ws,∀ j,cs[i]?≠some (some j)) (hit:DI X target iter mi)
  (hg:∀ pins C cells s₀ H₀ fp,DG (Cp X pins N' scope C cells s₀ H₀ fp) target ws g)
  (hi:∀ pins C cells s₀ H₀ fp,DIf (Cp X pins N' scope C cells s₀ H₀ fp) ifs tc)
  (he:∀ pins C cells s₀ H₀ fp,DE (Cp X pins N' scope C cells s₀ H₀ fp) elt me) (hgy:DG X (.Name y py) wy gy)
  (hsw:swapsWith (.ListComp elt [⟨target,iter,ifs,0⟩] scope pos) (some (.Name y py)) spos.line X.env=pure true)
  (hs:∀ x,foldedSetIterable iter X.env x=pure x):DS X (.Assign [.Name y py] (.ListComp elt [⟨target,iter,ifs,0⟩] scope pos) spos) (Ao (Bj mi cs g tc me) gy) :=
 Gm (Vn (N':=N') (g:=tG X.K ws g) (tc:=tTx X.K tc) (te:=tDx X.K me) hc S hit.x (λp C c s h f=>hg p C c s h f) (λp C c s h f=>hi p C c s h f) (λp C c s h f=>(he p C c s h f).x) hgy hsw hs) λN σ H h=>Tj hcap hw (Ti h)
end
noncomputable def spD (K:aj) (n:Nat) (f:List D->MH->Option (D×MH)):Sp:=λvs H Q _=>vs.length=n/\rDs K f vs H Q
section
variable {X:Cx}
theorem Xr {CX:CXT}{k:Nat}{fa:Addr}{fd:FuncData}{ps:List Str}{f:List D->MH->Option (D×MH)}{x:Str}{p pos:Pos}{a:Expr}{es:List Expr}{mr:DM (List D)}{E:XK}
  (F:FnOk X.prog X.w X.K X.mg X.base CX k fa fd ps (spD X.K ps.length f)) (hr:Room k X.A) (hg:Gl X x) (hm:X.mg x=some (.ref fa)) (hk:jm X.K (.ref fa)=true) (hb:Binds X.K fd ps []) (hx:Dj CX X E)
  (ha:DA X (a::es) mr) (hf:∀ ds mh r,f ds mh=some r->ds.length=ps.length) (hdb:(x==("__debug__":Str))=false) (he:starEach (a::es) X.env=(false,eval a X.env)::starEach es X.env) (hpl:(backTo pos (starEach es X.env)).any (·.1)=false) :
  DE X (.Call (.Name x p) (a::es) [] pos) (mr.bnd λds=>Zl (f ds)):=λloc mh=>by
 refine Bt (Xd F hr hg hm hk hb .nil hx (ha loc mh) hdb he hpl) ?_;rintro σ H Q ⟨ρ,d,mh',q,rl,rs,co⟩;obtain ⟨ds,m1,ea,q⟩:=Al q;refine ⟨ρ,ds,m1,ea,rl,rs,λH1 ρ1 vs e1 rs1 r1=>?_⟩;show spD X.K ps.length f (vs++[]) H1 Q E;rw [ni];exact ⟨by rw [← r1.length];exact hf _ _ _ q,ρ1,m1,ds,d,mh',q,rs1,r1,co.ev e1⟩
theorem dJ {CX:CXT}{k:Nat}{fa:Addr}{fd:FuncData}{f:List D->MH->Option (D×MH)}{x:Str}{p pos:Pos}{E:XK}
  (F:FnOk X.prog X.w X.K X.mg X.base CX k fa fd [] (spD X.K 0 f)) (hr:Room k X.A) (hg:Gl X x) (hm:X.mg x=some (.ref fa)) (hk:jm X.K (.ref fa)=true) (hb:Binds X.K fd [] []) (hx:Dj CX X E) (hdb:(x==("__debug__":Str))=false) :
  DE X (.Call (.Name x p) [] [] pos) (Zl (f [])):=λloc mh=>by
 refine Bt (cB F hr hg hm hk hb .nil hx hdb) ?_;rintro σ H Q ⟨ρ,d,mh',q,rl,rs,co⟩;exact ⟨rfl,ρ,mh,[],d,mh',q,rs,.nil,co⟩
noncomputable def M8 (c:String) (x:D) (mh:MH):Option (D×MH):=match Vt x mh with
 | some t=>match xZ t c with
  | some b=>some (.bl b,mh)
  | none=>none
 | none=>none
theorem dM {c:String}(hc:c∈["bool", "int", "str", "tuple", "list", "dict"]):Br X (.builtin "isinstance") (λxs H Q=>∃ v,xs=[v,.ty c]/\rD1 X.K (M8 c) v H Q):=by
 rintro pins s σ H xs us Q I r ⟨v,e,ρ,mh,dx,d,mh',q,rs,rd,co⟩;subst e;obtain ⟨u,w',rfl,r1,r2⟩:=Vals.two r;cases (show w'=Value.type c from r2);unfold M8 at q;split at q
 ·rename_i t et;split at q
  ·rename_i b eb;cases q;have fin:∀ tk,EP X pins σ Q (.bool b) { s with toks:=tk }:=λtk=>⟨.bl b,H,I.tok tk,rfl,co H ρ _ Ev.refl rs (.bl b)⟩
   cases rd with
   | non=>cases et;cases (show u=Value.none from r1);exact uq PySem.W.kitx_none I.kIn True.intro (Hg (by decide) hc eb) (λz=>nomatch z) fin
   | bl y=>cases et;cases (show u=Value.bool y from r1);exact uq PySem.W.kitx_bool I.kIn True.intro (Hg (by decide) hc eb) (λz=>nomatch z) fin
   | int i=>cases et;obtain ⟨t,q⟩:=(show ∃ t,u=Value.int i t from r1);cases q;exact uq PySem.W.kitx_int I.kIn True.intro (Hg (by decide) hc eb) (λz=>nomatch z) fin
   | str y=>cases et;obtain ⟨t,q⟩:=(show ∃ t,u=Value.str y t from r1);cases q;exact uq PySem.W.kitx_str I.kIn True.intro (Hg (by decide) hc eb) (λz=>nomatch z) fin
   | @tup ds a xs sq r =>
    cases et;cases (show u=Value.ref a from r1);obtain ⟨its,_,⟨o,h1,h2,_⟩,_⟩:=I.tuple sq;exact uq PySem.W.kitx_tuple I.kIn ⟨o,h1,h2⟩ (Hg (by decide) hc eb) (λz=>nomatch z) fin
   | obj n s l r=>cases et
   | fn h=>cases et
   | lam h=>cases et
   | clo=>cases et
   | @rol ds a xs sq r =>
    cases et;cases (show u=Value.ref a from r1);obtain ⟨its,_,⟨ob,n',h1,h2,_⟩,_⟩:=I.list sq.sq;exact uq QL I.kIn ⟨ob,h1,h2⟩ (Hg (by decide) hc eb) (λz=>nomatch z) fin
   | @ref n a h =>
    have et:(match mh[n]? with | some (.lst _)=>some "list" | _=>none)=some t:=et;split at et
    ·rename_i o eo;cases et;cases (show u=Value.ref a from r1);obtain ⟨a',ha,ro⟩:=rs.at eo;rw [h] at ha;cases ha;obtain ⟨xs,sq,_⟩:=ro.read;obtain ⟨its,_,⟨ob,n',h1,h2,_⟩,_⟩:=I.list sq;exact uq QL I.kIn ⟨ob,h1,h2⟩ (Hg (by decide) hc eb) (λz=>nomatch z) fin
    ·cases et
  ·cases q
 ·cases q
theorem yH {c:Str}{T:String}{p p2 pos:Pos}{a:Expr}{ma:DM D}(hT:T∈["bool", "int", "str", "tuple", "list", "dict"]) (hg:Gl X "isinstance") (hm:X.mg "isinstance"=none) (hg2:Gl X c) (hm2:X.mg c=none) (hv2:bootBuiltins c=some (.type T)) (hn2:c ≠ "__name__") (hd2:(c==("__debug__":Str))=false) (ha:DE X a ma)
  (he:starEach (a::[.Name c p2]) X.env=(false,eval a X.env)::starEach [.Name c p2] X.env):DE X (.Call (.Name "isinstance" p) [a,.Name c p2] [] pos) (ma.bnd λx=>Zl (M8 T x)):=λloc mh=>by
 refine Bt (Sw (dM hT) hg hm boot_isinstance (G8 (ha loc mh) (G8 (nQ hg2 hm2 hv2 (v:=.ty T) rfl hn2 hd2) Vi) he) (by decide) (by decide) he) ?_;rintro σ H Q ⟨ρ,d,mh',q,rl,rs,co⟩;obtain ⟨x,m1,ea,q⟩:=Al q;exact ⟨ρ,x,m1,ea,rl,rs,λH1 ρ1 v e1 rs1 r1=>⟨v,rfl,ρ1,m1,x,d,mh',q,rs1,r1,co.ev e1⟩⟩
end
section
variable {X:Cx}{a b c e o:Expr}{ma mb mc mo:DM D}{pos:Pos}
noncomputable def Ie (f f':D->D->MH->Option (D×MH)) (ma mb mc:DM D):DM D:=ma.bnd λx=>mb.bnd λy=>(Ar (Zl (f x y))).bnd λk=>if k=true then mc.bnd λz=>Zl (f' y z) else Zr (.bl false)
theorem O7 {f f':D->D->MH->Option (D×MH)}{σ:St}{H:Hp}{Q:VK}(h:tDx X.K (Ie f f' ma mb mc) σ H Q):Vd (rD X.K f) (rD X.K f') (tDx X.K ma) (tDx X.K mb) (tDx X.K mc) σ H Q:=by
 obtain ⟨loc,mh,ρ,d,mh',q,rl,rs,co⟩:=h;obtain ⟨x,m1,ea,q⟩:=Al q;obtain ⟨y,m2,eb,q⟩:=Al q;obtain ⟨k,m3,ek,q⟩:=Al q;have ek:=Ft ek;refine ⟨loc,mh,ρ,x,m1,ea,rl,rs,λH1 ρ1 v1 e1 rs1 r1=>⟨loc,m1,ρ1,y,m2,eb,rl.mono e1,rs1,λH2 ρ2 v2 e2 rs2 r2=>⟨ρ2,m2,x,y,.bl k,m3,ek,rs2,r1.mono e2,r2,λH3 ρ3 v3 e3 rs3 r3=>?_⟩⟩⟩;cases r3;refine ⟨k,rfl,?_⟩;cases k with
 | true =>
  rw [if_pos rfl] at q;obtain ⟨z,m4,ec,q⟩:=Al q;exact S5 ⟨loc,m3,ρ3,z,m4,ec,((rl.mono e1).mono e2).mono e3,rs3,λH4 ρ4 v4 e4 rs4 r4=>⟨ρ4,m4,y,z,d,mh',q,rs4,(r2.mono e3).mono e4,r4,co.ev (e1.trans (e2.trans (e3.trans e4)))⟩⟩
 | false =>
  rw [if_neg qe] at q;cases q;exact Sy (co H3 ρ3 _ (e1.trans (e2.trans e3)) rs3 (.bl false))
theorem dO {op op':CmpOp}{f f':D->D->MH->Option (D×MH)}(ho:OpR X (compareOp op) (rD X.K f)) (ho':OpR X (compareOp op') (rD X.K f')) (hm:lastMarks [op,op'] [b,c]=false) (ha:DE X a ma) (hb:DE X b mb) (hc:DE X c mc) :
  DE X (.Compare a [op,op'] [b,c] pos) (Ie f f' ma mb mc):=λloc mh=>Bt (bT ho ho' ha.x hb.x hc.x hm) λσ H Q h=>O7 ⟨loc,mh,h⟩
theorem dR {op op':CmpOp}{f f':D->D->MH->Option (D×MH)}(ho:OpR X (compareOp op) (rD X.K f)) (ho':OpR X (compareOp op') (rD X.K f')) (hm:lastMarks [op,op'] [b,c]=false) (ha:DE X a ma) (hb:DE X b mb) (hc:DE X c mc) :
  DT X (.Compare a [op,op'] [b,c] pos) (Ar (Ie f f' ma mb mc)):=by
 refine λloc mh=>Qo (bU ho ho' ha.x hb.x hc.x hm) ?_
 rintro σ H Q ⟨ρ,k,mh',q,rl,rs,co⟩;have q:=Ft q;exact O7 ⟨loc,mh,ρ,_,_,q,rl,rs,λH' ρ' v e' rs' r'=>by cases r';exact ⟨k,rfl,co H' ρ' e' rs'⟩⟩
noncomputable def rDM (K:aj) (f:D->List D->MH->Option (D×MH)):V->List V->Hp->VK->Prop:=λx xs H Q=>∃ ρ mh dx ds d mh',f dx ds mh=some (d,mh')/\RS K H ρ mh/\RD K H ρ dx x/\RDs K H ρ ds xs/\Co K H ρ mh' d Q
noncomputable def Qt (T:String) (x:D) (mh:MH):Bool:=match x with
 | .str _=>T == "str"
 | .int _=>T == "int"
 | .ref n=>T == "list"&&(match mh[n]? with | some (.lst _)=>true | _=>false)
 | .tup _=>T == "tuple"
 | _=>false
theorem dU {K:aj}{H:Hp}{ρ:List Addr}{mh:MH}{T:String}{x:D}{v:V}(rs:RS K H ρ mh) (r:RD K H ρ x v) (h:Qt T x mh=true):tyV K T v H:=by
 cases r with
 | str z=>exact cj h
 | int i=>exact cj h
 | @ref n a hn =>
  have h:(T == "list"&&(match mh[n]? with | some (.lst _)=>true | _=>false))=true:=h;rw [au] at h;obtain ⟨o,eo⟩:∃ o,mh[n]?=some (.lst o):=by
   have h:=h.2;split at h
   ·exact ⟨_,‹_›⟩
   ·cases h
  obtain ⟨a',ha,ro⟩:=rs.at eo;rw [hn] at ha;cases ha;obtain ⟨xs,sq,_⟩:=ro.read;exact .inl ⟨cj h.1,xs,sq⟩
 | tup s r=>exact .inr (.inl ⟨cj h,_,s⟩)
 | _=>cases h
noncomputable def Bo (T:String) (f:D->List D->MH->Option (D×MH)) (mo:DM D) (mr:DM (List D)):DM D:=mo.bnd λx=>λloc mh=>if Qt T x mh=true then (mr.bnd λds=>Zl (f x ds)) loc mh else none
theorem Li {T id:String}{name:Str}{apos:Pos}{es:List Expr}{mr:DM (List D)}{f:D->List D->MH->Option (D×MH)}(pa:PlainAttrs T) (slot:Slot T name id) (hty:typeOf (.builtin id)=pure (.type "method_descriptor")) (hm:MtR X id (rDM X.K f)) (ho:DE X o mo) (ha:DA X (a::es) mr)
  (hbase:attributeBase o name X.env (eval o X.env)=eval o X.env)
  (hfew:((backTo pos (starEach (a::es) X.env)).all (λx=>!x.1)&&(backToKw pos (keywordEach [] X.env)).all (λx=>x.1.isSome)
   && decide ((a::es).length+([]:List Keyword).length+(if ([]:List Keyword).isEmpty then 0 else 1) < 30))=true)
  (hline:(apos.endLine==pos.line)=true) (hs:starEach (a::es) X.env=(false,eval a X.env)::starEach es X.env) (hplain:(backTo pos (starEach es X.env)).any (·.1)=false) :
  DE X (.Call (.Attribute o name apos) (a::es) [] pos) (Bo T f mo mr):=λloc mh=>by
 cases eo:mo loc mh with
 | none =>
  have:Bo T f mo mr loc mh=none:=by unfold Bo DM.bnd;rw [eo]
  rw [this];exact Dq
 | some p =>
  obtain ⟨x,m1⟩:=p;refine Bt (Acu pa slot hty hm (ho loc mh) (ha loc m1) hbase hfew hline hs hplain) ?_;rintro σ H Q ⟨ρ,d,mh',q,rl,rs,co⟩;obtain ⟨x',m1',eo',q⟩:=Al q;rw [eo] at eo';cases eo';split at q
  ·rename_i ht;obtain ⟨ds,m2,er,q⟩:=Al q;exact ⟨ρ,x,m1,eo,rl,rs,λH1 ρ1 v e1 rs1 r1=>⟨dU rs1 r1 ht,ρ1,ds,m2,er,rl.mono e1,rs1,λH2 ρ2 vs e2 rs2 r2=>⟨ρ2,m2,x,ds,d,mh',q,rs2,r1.mono e2,r2,co.ev (e1.trans e2)⟩⟩⟩
  ·cases q
theorem dW {T id:String}{name:Str}{apos:Pos}{f:D->List D->MH->Option (D×MH)}(pa:PlainAttrs T) (slot:Slot T name id) (hty:typeOf (.builtin id)=pure (.type "method_descriptor")) (hm:MtR X id (rDM X.K f)) (ho:DE X o mo)
  (hbase:attributeBase o name X.env (eval o X.env)=eval o X.env) (hline:(apos.endLine==pos.line)=true):DE X (.Call (.Attribute o name apos) [] [] pos) (Bo T f mo (Zr [])):=λloc mh=>by
 refine Bt (wY pa slot hty hm (ho loc mh) hbase hline) ?_;rintro σ H Q ⟨ρ,d,mh',q,rl,rs,co⟩;obtain ⟨x,m1,eo,q⟩:=Al q;split at q
 ·rename_i ht;exact ⟨ρ,x,m1,eo,rl,rs,λH1 ρ1 v e1 rs1 r1=>⟨dU rs1 r1 ht,ρ1,m1,x,[],d,mh',q,rs1,r1,.nil,co.ev e1⟩⟩
 ·cases q
theorem Xu {id:String}{r r':V->List V->Hp->VK->Prop}(h:MtR X id r) (i:∀ x xs H Q,r' x xs H Q->r x xs H Q):MtR X id r':=λpins s σ H x xs v us Q I rx rs q=>h pins s σ H x xs v us Q I rx rs (i x xs H Q q)
noncomputable def Bs:D->List D->MH->Option (D×MH)
 | .ref n,[y],mh=>match mh[n]? with
  | some (.lst ds)=>if ds.length < sizeLine then some (.non,mh.set n (.lst (ds++[y]))) else none
  | _=>none
 | _,_,_=>none
theorem Vy:MtR X "list.append" (rDM X.K Bs):=by
 refine Xu Y6 ?_;rintro x xs H Q ⟨ρ,mh,dx,ds,d,mh',q,rs,rx,r,co⟩
 match ds,q with
 | [y],q =>
  obtain ⟨v,rfl,rv⟩:=Kz r;cases rx with
  | @ref n a hn =>
   have q:(match mh[n]? with | some (.lst ds)=>if ds.length < sizeLine then some (D.non,mh.set n (.lst (ds++[y]))) else none | _=>none)=some (d,mh'):=q;split at q
   ·rename_i ds em;split at q
    ·rename_i hz;cases q;obtain ⟨a',ha,us,hu,ru⟩:=rs.at em;rw [hn] at ha;cases ha;exact ⟨a,us,v,rfl,rfl,hu,by rw [← ru.length];exact hz,co _ ρ _ (Ev.lst hu) (rs.setL hn hu (ru.append (.cons rv .nil))) .non⟩
    ·cases q
   ·cases q
  | _=>cases q
 | [],q=>cases dx <;> cases q
 | _::_::_,q=>cases dx <;> cases q
noncomputable def yI:D->MH->Option (D×MH)
 | .int i,mh=>some (.int (-i),mh)
 | _,_=>none
theorem qD:UnR X (unaryOp .USub) (rD1 X.K yI):=by
 rintro pins s σ H x v Q I rx ⟨ρ,mh,dx,d,mh',q,rs,r1,co⟩;cases r1 with
 | int i=>cases q;exact wL pins s σ H _ v Q I rx ⟨i,rfl,co H ρ _ Ev.refl rs (.int _)⟩
 | _=>cases q
end
section
variable {P:Program}{w:World}
variable {A:Around}{E:Value->Shared->Prop}{s:Shared}
end
section
variable {P:Program}{w:World}{A:Around}{R:Result->Shared->Prop}{I:Addr}{fp wr:List Addr}{G:Array GenState->Array GenState->Prop}{n:Nat}{V:Nat->Value->Prop}{T:Nat->Shared->Prop}
end
section
variable {P:Program}{w:World}{A:Around}{E:Value->Shared->Prop}{s:Shared}
end
section
variable {P:Program}{w:World}{A:Around}{E:Value->Shared->Prop}{s:Shared}
noncomputable def dX (ns:List Int):List Int:=firstMet (λi=>ns.getD i 0) ns.length
end
section
variable {P:Program}{w:World}{A:Around}{E:Value->Shared->Prop}{s:Shared}
end
section
variable {P:Program}{w:World}{A:Around}{E:Value->Shared->Prop}
end
namespace SI
end SI
section
variable {P:Program}{w:World}{A:Around}{E:Value->Shared->Prop}{s:Shared}{a I:Addr}{o:Obj}{es:Array (Int×Value)}{ep n:Nat}{t:SetTable}{S:Int->Bool}
end
section
variable {P:Program}{w:World}{A:Around}{E:Value->Shared->Prop}{s:Shared}{a I:Addr}{o:Obj}{es:Array (Int×Value)}{ep n:Nat}{t:SetTable}{S:Int->Bool}
end
noncomputable def Ac6 (ns:List Int):List Int:=(dX ns).mergeSort λa b=>decide (a<=b)
theorem dY {l l':List Int}(p:l.Perm l') (h:l.Pairwise (·<=·)) (h':l'.Pairwise (·<=·)):l=l':=p.eq_of_pairwise (le:=(·<=·)) (λa b _ _ x y=>Int.le_antisymm x y) h h'
theorem Gu:∀ {us:List Value}{ns:List Int},IntsAre us ns->Vals (ns.map V.int) us
 | _,_,.nil=>.nil
 | _,_,.cons n t h=>.cons ⟨t,rfl⟩ (Gu h)
section
variable {X:Cx}
end
section
variable {P:Program}{w:World}{A:Around}{E:Value->Shared->Prop}{s:Shared}{a b:Addr}{o o':Obj}{es es':Array (Int×Value)}{ep n ep' n':Nat}{t t':SetTable}{S S':Int->Bool}
end
noncomputable def Ac7 (ns ms:List Int):Bool:=ns.all (λk=>ms.contains k)&&ms.all λk=>ns.contains k
section
variable {P:Program}{w:World}{K:Type} [DecidableEq K] {knd:KeyKind P w K}{A:Around}{E:Value->Shared->Prop}{s:Shared}
end
section
variable {P:Program}{w:World}{K:Type} [DecidableEq K] {knd:KeyKind P w K}{A:Around}{E:Value->Shared->Prop}{s:Shared}
end
section
variable {P:Program}{w:World}{K:Type} [DecidableEq K] {knd:KeyKind P w K}
end
section
variable {P:Program}{w:World}{K:Type} [DecidableEq K] {knd:KeyKind P w K}{A:Around}{R:Result->Shared->Prop}{I:Addr}{fp wr:List Addr}{G:Array GenState->Array GenState->Prop}{n:Nat}{V:Nat->Value->Prop}{T:Nat->Shared->Prop}
end
section
variable {P:Program}{w:World}{K:Type} [DecidableEq K] {knd:KeyKind P w K}{A:Around}{E:Value->Shared->Prop}{s:Shared}
end
section
variable {X:Cx}
end
noncomputable def intsOf:List D->Option (List Int)
 | []=>some []
 | .int i::r=>match intsOf r with
  | some l=>some (i::l)
  | none=>none
 | _=>none
noncomputable def dZ:D->MH->Option (List Int)
 | .ref n,mh=>match mh[n]? with
  | some (.lst o)=>intsOf o
  | _=>none
 | .rol ds,_=>intsOf ds
 | .tup ds,_=>intsOf ds
 | _,_=>none
theorem Fv:∀ (ns:List Int),intsOf (ns.map D.int)=some ns
 | []=>rfl
 | n::r=>by
  show (match intsOf (r.map D.int) with | some l=>some (n::l) | none=>none)=_;rw [Fv r]
theorem Eu:∀ {ds:List D}{ns:List Int},intsOf ds=some ns->ds=ns.map D.int
 | [],ns,h=>by cases h;rfl
 | d::r,ns,h=>by
  cases d with
  | int i =>
   have h:(match intsOf r with | some l=>some (i::l) | none=>none)=some ns:=h;split at h
   ·rename_i l e;cases h;rw [Eu e];rfl
   ·cases h
  | _=>cases h
section
variable {K:aj}{H:Hp}{ρ:List Addr}{mh:MH}
theorem J3 {ns:List Int}{vs:List V}(h:RDs K H ρ (ns.map D.int) vs):vs=ns.map V.int:=by
 induction ns generalizing vs with
 | nil=>cases h;rfl
 | cons n r ih =>
  cases h with
  | cons a t=>cases a;rw [ih t];rfl
end
noncomputable def qF (x:D) (mh:MH):Option (D×MH):=match dZ x mh with
 | some ns=>if ns.length < 4000 then some (.int (dX ns).length,mh) else none
 | none=>none
noncomputable def yJ (x y:D) (mh:MH):Option (D×MH):=match dZ x mh,dZ y mh with
 | some ns,some ms=>if ns.length < 4000/\ms.length < 4000 then some (.bl (Ac7 ns ms),mh) else none
 | _,_=>none
section
variable {X:Cx}{a:Expr}{ma:DM D}{p p2 pos pos2:Pos}
noncomputable def eE (mx my:DM D):DM D:=mx.bnd λx=>my.bnd λy=>Zl (yJ x y)
end
section
variable {X:Cx}{pins:List (Addr×Obj)}{σ:L2.St}{H:Hp}{s:Shared}
theorem M9 (I:Inv X pins σ H s) {A:Around}(hh:A.handled=none) {p:Addr}{ys:List V}(hq:SqL X.K H p ys\/SqT X.K H p ys) {Q:Value->Shared->Prop}{E:Value->Shared->Prop}
  (h:∀ (its:List Value) (St:Nat->Heap->Prop) (h2:Heap),Vals ys its->Walks X.prog X.w A s.heap.objs.size [s.heap.objs.size,p] [s.heap.objs.size] its.length (λi v=>its[i]?=some v) St->St 0 h2 ->
   (∀ b∈[s.heap.objs.size,p],b < h2.objs.size)->(∀ b o,s.heap.get? b=some o->h2.get? b=some o)->Q (.ref s.heap.objs.size) { s with heap:=h2 }) :
  wpAny (model X.prog X.w) A (pyIter (.ref p)) Q E s:=by
 rcases hq with hq|hq
 ·obtain ⟨its,rv,pl,hz⟩:=I.list hq;have hlt:p < s.heap.objs.size:=by obtain ⟨_,_,e,_⟩:=pl;exact Heap.lt_size e
  refine GK pl.isList ?_;have W:=Walks.list (prog:=X.prog) (w:=X.w) hh s.heap.objs.size p (fu hlt) its.toArray;refine h its (λi h=>h.IsListIter s.heap.objs.size p i/\h.IsList p its.toArray) _ rv (by simpa using W) ⟨⟨_,dh _ rfl,rfl,rfl⟩,pl.isList.push _⟩ (λb hb=>?_) λb o e=>ak _ e
  rw [ji];simp at hb;rcases hb with e|e
  ·rw [e];exact jq _
  ·rw [e];exact lq hlt
 ·obtain ⟨its,rv,pl,hz⟩:=I.tuple hq;have pl:s.heap.IsTuple p its.toArray:=pl;have hlt:p < s.heap.objs.size:=by obtain ⟨_,e,_⟩:=id pl;exact Heap.lt_size e
  refine FN pl ?_;have W:=Walks.tuple (prog:=X.prog) (w:=X.w) hh s.heap.objs.size p (fu hlt) its.toArray;refine h its (λi h=>h.IsTupleIter s.heap.objs.size p i/\h.IsTuple p its.toArray) _ rv (by simpa using W) ⟨⟨_,dh _ rfl,rfl,rfl⟩,pl.push _⟩ (λb hb=>?_) λb o e=>ak _ e
  rw [ji];simp at hb;rcases hb with e|e
  ·rw [e];exact jq _
  ·rw [e];exact lq hlt
theorem Nb {h2 h':Heap}(hk:∀ b o,b ∉ [s.heap.objs.size]->h2.get? b=some o->h'.get? b=some o) (h1:∀ b o,s.heap.get? b=some o->h2.get? b=some o):∀ b o,s.heap.get? b=some o->h'.get? b=some o :=
 λb o e=>hk b o (λhm=>by rw [jg.mp hm] at e;exact jw _ (Heap.lt_size e)) (h1 b o e)
end
noncomputable def boolsOf:List D->Option (List Bool)
 | []=>some []
 | .bl i::r=>match boolsOf r with
  | some l=>some (i::l)
  | none=>none
 | _=>none
theorem Lj:∀ (ns:List Bool),boolsOf (ns.map D.bl)=some ns
 | []=>rfl
 | n::r=>by
  show (match boolsOf (r.map D.bl) with | some l=>some (n::l) | none=>none)=_;rw [Lj r]
theorem J4:∀ {ds:List D}{ns:List Bool},boolsOf ds=some ns->ds=ns.map D.bl
 | [],ns,h=>by cases h;rfl
 | d::r,ns,h=>by
  cases d with
  | bl i =>
   have h:(match boolsOf r with | some l=>some (i::l) | none=>none)=some ns:=h;split at h
   ·rename_i l e;cases h;rw [J4 e];rfl
   ·cases h
  | _=>cases h
theorem Zf {K:aj}{H:Hp}{ρ:List Addr}{ns:List Bool}{vs:List V}(h:RDs K H ρ (ns.map D.bl) vs):vs=ns.map V.bl:=by
 induction ns generalizing vs with
 | nil=>cases h;rfl
 | cons n r ih =>
  cases h with
  | cons a t=>cases a;rw [ih t];rfl
theorem Xv:∀ {bs:List Bool}{its:List Value},Vals (bs.map V.bl) its->its=bs.map Value.bool
 | [],_,.nil=>rfl
 | b::r,_,.cons h t=>by
  have h:_=Value.bool b:=h;rw [h,Xv t];rfl
theorem Ig:∀ {ns:List Int}{its:List Value}{i:Nat}{v:Value},Vals (ns.map V.int) its->its[i]?=some v->∃ n t,ns[i]?=some n/\v=.int n t
 | [],_,_,_,.nil,e=>by simp at e
 | n::r,_,0,_,.cons h t,e=>by
  obtain ⟨k,rfl⟩:=h;cases e;exact ⟨n,k,rfl,rfl⟩
 | n::r,_,i+1,_,.cons h t,e=>by
  obtain ⟨m,k,h1,h2⟩:=Ig (i:=i) t (by simpa using e);exact ⟨m,k,by simpa using h1,h2⟩
noncomputable def J5 (f:List Bool->Bool):List D->MH->Option (D×MH)
 | [x],mh=>match Dn x mh with
  | some ds=>match boolsOf ds with
   | some bs=>some (.bl (f bs),mh)
   | none=>none
  | none=>none
 | _,_=>none
theorem Qu {f:List Bool->Bool}{ds:List D}{mh mh':MH}{d:D}(h:J5 f ds mh=some (d,mh')):∃ x bs,ds=[x]/\Dn x mh=some (bs.map D.bl)/\d=.bl (f bs)/\mh'=mh:=by
 match ds,h with
 | [x],h =>
  have h:(match Dn x mh with | some ds=>(match boolsOf ds with | some bs=>some (D.bl (f bs),mh) | none=>none) | none=>none)=some (d,mh'):=h;split at h
  ·rename_i es e;split at h
   ·rename_i bs eb;cases h;rw [J4 eb] at e;exact ⟨x,bs,rfl,e,rfl,rfl⟩
   ·cases h
  ·cases h
 | [],h=>cases h
 | _::_::_,h=>cases h
noncomputable def Tn:List D->MH->Option (D×MH):=J5 λbs=>bs.all id
section
variable {X:Cx}
theorem eF (hc:X.calm=true) {id:String}{f:List Bool->Bool}{dflt:Bool}{g:List Nat->(Nat->Bool)->Bool}(hg:∀ bs:List Bool,g (vg bs.length) (λi=>(bs[i]?).getD dflt)=f bs)
  (call_w:∀ {A:Around} {x:Value} {Q:Value->Shared->Prop} {E:Value->Shared->Prop} {s:Shared},wpAny (model X.prog X.w) A.in1 (pyIter x) (λit s₂=>∃ I fp wr n P St tr,it=.ref I/\Walks X.prog X.w A.in1 I fp wr n P St/\St 0 s₂.heap/\TruthOf X.prog X.w A.in1 P tr /\
   ∀ h' tk,(∀ b o,b ∉ wr->s₂.heap.get? b=some o->h'.get? b=some o)->Q (.bool (g (vg n) tr)) { s₂ with heap:=h',toks:=tk }) E s->wpAny (model X.prog X.w) A (call (.builtin id) [x]) Q E s) :
  Br X (.builtin id) (rDs X.K (J5 f)):=by
 rintro pins s σ H xs us Q I r ⟨ρ,mh,ds,d,mh',q,rs,rd,co⟩;obtain ⟨x,bs,rfl,e,rfl,rfl⟩:=Qu q;obtain ⟨v,rfl,rx⟩:=Kz rd;obtain ⟨u,rfl,ru⟩:=vals1 r;obtain ⟨p,ys,rfl,hq,ry⟩:=Hf rs rx e;cases ru;rw [Zf ry] at hq;refine call_w (M9 I (A:=X.A.in1) (I.ok.hd hc) hq λits St h2 rv W st _ hk=>?_);have ei:=Xv rv;refine ⟨_,_,_,its.length,_,St,λi=>(bs[i]?).getD dflt,rfl,W,st,λi v s' Q' E' hP hQ=>?_,λh' tk hk'=>?_⟩
 ·rw [ei,dj] at hP;cases eb:bs[i]? with
  | none=>rw [eb] at hP;cases hP
  | some b =>
   rw [eb] at hP;cases hP;simp only [eb,Option.getD_some] at hQ;exact ou hQ
 ·have e2:its.length=bs.length:=by rw [ei,aq]
  rw [e2,hg bs];exact ⟨.bl _,H,I.kept (t':=tk) (Nb hk' hk),rfl,co H ρ _ Ev.refl rs (.bl _)⟩
theorem Zg (hc:X.calm=true):Br X (.builtin "all") (rDs X.K Tn):=eF (dflt:=true) hc (g:=λl f=>l.all f) (λbs=>LSm.range_all bs) λh=>call_all_walk h
end
noncomputable def Nf:Int->List Int->Int
 | m,[]=>m
 | m,x::r=>Nf (if m < x then x else m) r
noncomputable def Mf:Int->List Int->Int
 | m,[]=>m
 | m,x::r=>Mf (if x < m then x else m) r
theorem J6 (bt:Nat->Nat->Bool) (f:Int->List Int->Int) (ns:List Int) (b:Int->Int->Bool) (hb:∀ i j x y,ns[i]?=some x->ns[j]?=some y->bt i j=b x y) (f0:∀ m,f m []=m) (f1:∀ m l x,f m (l++[x])=if b x (f m l)=true then x else f m l) :
  ∀ (k:Nat) (h:k < ns.length),∀ m r,ns=m::r->ns[argBest bt k]?=some (f m (r.take k))
 | 0,h,m,r,e=>by
  subst e;simp [argBest,f0]
 | k+1,h,m,r,e=>by
  have ih:=J6 bt f ns b hb f0 f1 k (by omega) m r e;have hk:k < r.length:=by rw [e,jk] at h;omega
  have e1:ns[k+1]?=some r[k]:=by rw [e,List.getElem?_cons_succ,bw hk]
  have e2:r.take (k+1)=r.take k++[r[k]]:=by rw [mj,bw hk];rfl
  have e3:=hb (k+1) (argBest bt k) _ _ e1 ih;rw [e2,f1];unfold argBest;rw [e3];split
  ·exact e1
  ·exact ih
theorem O8:∀ (l:List Int) (m x:Int),Nf m (l++[x])=if decide (Nf m l < x)=true then x else Nf m l
 | [],m,x=>by by_cases h:m < x <;> simp [Nf,h]
 | y::l,m,x=>by
  show Nf _ (l++[x])=_;rw [O8 l];rfl
theorem O9:∀ (l:List Int) (m x:Int),Mf m (l++[x])=if decide (x < Mf m l)=true then x else Mf m l
 | [],m,x=>by by_cases h:x < m <;> simp [Mf,h]
 | y::l,m,x=>by
  show Mf _ (l++[x])=_;rw [O9 l];rfl
noncomputable def Qv (f:Int->List Int->Int):List D->MH->Option (D×MH)
 | [x],mh=>match Dn x mh with
  | some ds=>match intsOf ds with
   | some (n::r)=>some (.int (f n r),mh)
   | _=>none
  | none=>none
 | _,_=>none
theorem Tp {f:Int->List Int->Int}{ds:List D}{mh mh':MH}{d:D}(h:Qv f ds mh=some (d,mh')):∃ x n r,ds=[x]/\Dn x mh=some ((n::r).map D.int)/\d=.int (f n r)/\mh'=mh:=by
 match ds,h with
 | [x],h =>
  have h:(match Dn x mh with | some ds=>(match intsOf ds with | some (n::r)=>some (D.int (f n r),mh) | _=>none) | none=>none)=some (d,mh'):=h;split at h
  ·rename_i es e;split at h
   ·rename_i n r eb;cases h;rw [Eu eb] at e;exact ⟨x,n,r,rfl,e,rfl,rfl⟩
   ·cases h
  ·cases h
 | [],h=>cases h
 | _::_::_,h=>cases h
noncomputable def maxD:List D->MH->Option (D×MH):=Qv Nf
noncomputable def minD:List D->MH->Option (D×MH):=Qv Mf
section
variable {X:Cx}
theorem Xw (hc:X.calm=true) {id:String}{f:Int->List Int->Int}{op:CmpOp}{b:Int->Int->Bool}(f0:∀ m,f m []=m) (f1:∀ m l x,f m (l++[x])=if b x (f m l)=true then x else f m l)
  (cmp:∀ {A:Around} {x y:Int} {t u:Tok} {Q:Value->Shared->Prop} {E:Value->Shared->Prop} {s:Shared},Q (.bool (b x y)) s->wpAny (model X.prog X.w) A (richCompare op (.int x t) (.int y u)) Q E s)
  (call_w:∀ {A:Around} {x:Value} {Q:Value->Shared->Prop} {E:Value->Shared->Prop} {s:Shared},wpAny (model X.prog X.w) A.in1 (pyIter x) (λit s₂=>∃ I fp wr n P St bt,it=.ref I/\Walks X.prog X.w A.in1 I fp wr n P St/\St 0 s₂.heap/\(∀ b∈fp,b < s₂.heap.objs.size)/\0 < n/\CmpOf X.prog X.w A.in1 op P bt /\
   ∀ v h' tk,P (argBest bt (n - 1)) v->(∀ b o,b ∉ wr->s₂.heap.get? b=some o->h'.get? b=some o)->Q v { s₂ with heap:=h',toks:=tk }) E s->wpAny (model X.prog X.w) A (call (.builtin id) [x]) Q E s) :
  Br X (.builtin id) (rDs X.K (Qv f)):=by
 rintro pins s σ H xs us Q I r ⟨ρ,mh,ds,d,mh',q,rs,rd,co⟩;obtain ⟨x,n,l,rfl,e,rfl,rfl⟩:=Tp q;obtain ⟨v,rfl,rx⟩:=Kz rd;obtain ⟨u,rfl,ru⟩:=vals1 r;obtain ⟨p,ys,rfl,hq,ry⟩:=Hf rs rx e;cases ru;rw [J3 ry] at hq;refine call_w (M9 I (A:=X.A.in1) (I.ok.hd hc) hq λits St h2 rv W st hfp hk=>?_);have hlen:(n::l).length=its.length:=by have:=rv.length;simpa using this
 refine ⟨_,_,_,its.length,_,St,λi j=>(match (n::l)[i]?,(n::l)[j]? with | some x,some y=>b x y | _,_=>false),rfl,W,st,hfp,by rw [← hlen];simp,λi j vi vj s' Q' E' hi hj hQ=>?_,λv h' tk hP hk'=>?_⟩
 ·obtain ⟨a,t,e1,rfl⟩:=Ig rv hi;obtain ⟨a',t',e2,rfl⟩:=Ig rv hj;simp only [e1,e2] at hQ;exact cmp hQ
 ·have ar:=J6 (λi j=>(match (n::l)[i]?,(n::l)[j]? with | some x,some y=>b x y | _,_=>false)) f (n::l) b (λi j x y e1 e2=>by simp only [e1,e2]) f0 f1 (its.length - 1) (by rw [hlen];simp at hlen;omega) n l rfl;obtain ⟨a,t,e1,rfl⟩:=Ig rv hP;rw [ar] at e1;have e3:l.take (its.length - 1)=l:=wz (by rw [← hlen];simp);rw [e3] at e1;cases e1;exact ⟨.int _,H,I.kept (t':=tk) (Nb hk' hk),⟨t,rfl⟩,co H ρ _ Ev.refl rs (.int _)⟩
end
section
variable {X:Cx}
theorem Zh (hc:X.calm=true):Br X (.builtin "max") (rDs X.K maxD):=Xw (op:=.Gt) (b:=λx m=>decide (m < x)) hc (λ_=>rfl) (λm l x=>O8 l m x) (λh=>PyProof.Rows.gt_int h) λh=>call_max_walk h
theorem Zi (hc:X.calm=true):Br X (.builtin "min") (rDs X.K minD):=Xw (op:=.Lt) (b:=λx m=>decide (x < m)) hc (λ_=>rfl) (λm l x=>O9 l m x) (λh=>PyProof.Rows.lt_int h) λh=>call_min_walk h
noncomputable def Ei:D->List D->MH->Option (D×MH)
 | .ref n,[.int i],mh=>match mh[n]? with
  | some (.lst ds)=>if -(2 ^ 63)<=i/\i < 2 ^ 63 then (match ixN ds.length i with
   | some k=>(match ds[k]? with | some y=>some (y,mh.set n (.lst (ds.eraseIdx k))) | none=>none)
   | none=>none) else none
  | _=>none
 | _,_,_=>none
theorem RDs.eraseIdx {K:aj}{H:Hp}{ρ:List Addr}:∀ {ds:List D}{vs:List V}(n:Nat),RDs K H ρ ds vs->RDs K H ρ (ds.eraseIdx n) (vs.eraseIdx n)
 | _,_,_,.nil=>.nil
 | _,_,0,.cons _ t=>t
 | _,_,n+1,.cons r t=>.cons r (RDs.eraseIdx n t)
theorem Tq {dx d:D}{ds:List D}{mh mh':MH}(q:Ei dx ds mh=some (d,mh')):∃ n xs i k,dx=.ref n/\ds=[.int i]/\mh[n]?=some (.lst xs)/\(-(2 ^ 63)<=i/\i < 2 ^ 63)/\ixN xs.length i=some k/\xs[k]?=some d/\mh'=mh.set n (.lst (xs.eraseIdx k)):=by
 cases dx with
 | ref n =>
  match ds,q with
  | [.int i],q =>
   have q:(match mh[n]? with | some (.lst ds)=>if -(2 ^ 63)<=i/\i < 2 ^ 63 then (match ixN ds.length i with | some k=>(match ds[k]? with | some y=>some (y,mh.set n (.lst (ds.eraseIdx k))) | none=>none) | none=>none) else none | _=>none)=some (d,mh'):=q;split at q
   ·rename_i xs em;split at q
    ·rename_i hb;split at q
     ·rename_i k ek;split at q
      ·rename_i y ey;cases q;exact ⟨n,xs,i,k,rfl,rfl,em,hb,ek,ey,rfl⟩
      ·cases q
     ·cases q
    ·cases q
   ·cases q
  | [],q=>cases q
  | .non::_,q=>cases q
  | .bl _::_,q=>cases q
  | .str _::_,q=>cases q
  | .tup _::_,q=>cases q
  | .ref _::_,q=>cases q
  | .rol _::_,q=>cases q
  | .obj ..::_,q=>cases q
  | .fn _::_,q=>cases q
  | .lam::_,q=>cases q
  | .clo _ _::_,q=>cases q
  | .int _::_::_,q=>cases q
 | _=>cases q
theorem Zj:MtR X "list.pop" (rDM X.K Ei):=by
 refine Xu cI ?_;rintro x xs H Q ⟨ρ,mh,dx,ds,d,mh',q,rs,rx,r,co⟩;obtain ⟨n,es,i,k,rfl,rfl,em,hb,ek,ey,rfl⟩:=Tq q;obtain ⟨v,rfl,rv⟩:=Kz r;cases rv;cases rx with
 | @ref _ a hn =>
 obtain ⟨a',ha,us,hu,ru⟩:=rs.at em;rw [hn] at ha;cases ha;obtain ⟨w',hw,rw'⟩:=ru.get ey;refine ⟨a,us,i,k,w',rfl,rfl,hu,hb.1,hb.2,?_,hw,?_⟩
 ·rw [← ru.length];exact (Qd ek).1
 ·exact co _ ρ _ (Ev.lst hu) (rs.setL hn hu (ru.eraseIdx k)) (rw'.mono (Ev.lst hu))
end
section
variable {X:Cx}{pins:List (Addr×Obj)}{σ:L2.St}{H:Hp}{s:Shared}{fp:List Addr}{h':Heap}
theorem Zk {t':Nat}(I:Inv X pins σ H s) (k:∀ b o,b ∉ fp->s.heap.get? b=some o->h'.get? b=some o) (hf:∀ b∈fp,Jv X pins H b):Inv X pins σ H { s with heap:=h',toks:=t' }:=by
 have nf:∀ b u,H b=some u->b ∉ fp:=λb u e z=>by rw [(hf b z).1] at e;cases e
 refine I.step (g':=s.gens) (d':=s.drawn) (ch:=fp) (λb hb=>⟨(hf b hb).2.2.2.1,(hf b hb).2.1,(hf b hb).2.2.2.2.1,(hf b hb).2.2.2.2.2⟩) (λb o _ _ hc e _=>k b o hc e) (λb o _ _ hc e _=>⟨o.slots,k b o hc e⟩) (λ_ _ _ _ n=>n)
  (λb o hc e=>⟨o,k b o hc e⟩) (λ_ _ e=>e) (λ_ _ _ e=>e) (λb ps e=>⟨#[],by rw [e];simp⟩) (λm hm=>?_) (λb u e=>?_) I.bare
 ·obtain ⟨o,es,ep,ho,r⟩:=hm;exact ⟨o,es,ep,k _ o (λz=>(hf _ z).2.1 rfl) ho,r⟩
 ·refine (I.hok b u e).stay (λc v hc q=>k c v ?_ q) (λ_ q=>q) λ_ _ q=>q
  rcases hc with z|z
  ·rw [z];exact nf b u e
  ·exact nf c _ z
theorem Oi {t':Nat}{a:Addr}{o:HO}(I:Inv X pins σ H s) (k:∀ b o,b ∉ fp->s.heap.get? b=some o->h'.get? b=some o) (hf:∀ b∈fp,Jv X pins H b) (hp:s.heap.objs.size<=a) (new:Fj X.prog X.w (upd H a o) h' a o) :
  Inv X pins σ (upd H a o) { s with heap:=h',toks:=t' }:=by
 have hn:H a=none:=I.hok.fresh hp;have nb:∀ b u,H b=some u->upd H a o b=some u:=λb u e=>by rw [Ac (Ad e hn)];exact e
 have nf:∀ b u,H b=some u->b ∉ fp:=λb u e z=>by rw [(hf b z).1] at e;cases e
 refine I.step (g':=s.gens) (d':=s.drawn) (ch:=fp) (λb hb=>⟨(hf b hb).2.2.2.1,(hf b hb).2.1,(hf b hb).2.2.2.2.1,(hf b hb).2.2.2.2.2⟩) (λb o _ _ hc e _=>k b o hc e) (λb o _ _ hc e _=>⟨o.slots,k b o hc e⟩) (λb o' hc e n=>?_)
  (λb o hc e=>⟨o,k b o hc e⟩) (λb xs e=>nb _ _ e) (λb o u e=>nb _ _ e) (λb ps e=>⟨#[],by rw [nb _ _ e];simp⟩) (λm hm=>?_) (λb u e=>?_) I.bare
 ·rw [Ac (fu (fj (Heap.lt_size e) hp))];exact n
 ·obtain ⟨o,es,ep,ho,r⟩:=hm;exact ⟨o,es,ep,k _ o (λz=>(hf _ z).2.1 rfl) ho,r⟩
 ·by_cases hb:b=a
  ·subst hb;rw [Ai] at e;cases e;exact new
  ·rw [Ac hb] at e;refine (I.hok b u e).stay (λc v hc q=>k c v ?_ q) (λc q=>nb _ _ q) λc xs q=>nb _ _ q
   rcases hc with z|z
   ·rw [z];exact nf b u e
   ·exact nf c _ z
end
section
variable {prog:Program}{w:World}{A:Around}{E:Value->Shared->Prop}{s:Shared}
theorem Tr {it l:Addr}{i:Nat}{items:Array Value}{x:Value}{Q:Value->Shared->Prop}(hit:s.heap.IsTupleIter it l i) (hl:s.heap.IsTuple l items) (hx:items[i]?=some x)
  (hQ:∀ h',h'.IsTupleIter it l (i+1)->HD it s.heap h'->Q x { s with heap:=h' }):wpAny (model prog w) A (jn (.ref it)) Q E s:=by
 obtain ⟨o,ho,hc,hd⟩:=id hit;obtain ⟨ol,hol,_,nl,hdl⟩:=hl;unfold jn
 refine ao (nq (name:=Str.ofString "__next__") hit.typeIs uw (qz uw hit.typeIs FQ ?_ (DY _)));show wpAny _ _ (field (.ref it) 0 >>= _) _ _ s;refine ao (ju ho hd (x:=.ref l) rfl ?_);show wpAny _ _ (if (Value.ref l==Value.none)=true then _ else _) _ _ s;rw [if_neg (show ¬ ((Value.ref l==Value.none)=true) from qe)];show wpAny _ _ (field (.ref it) 1 >>= _) _ _ s;refine ao (ju ho hd (x:=.int i 0) rfl ?_);show wpAny _ _ (seqItems? (.ref l) >>= _) _ _ s;refine ao (su hol hdl ?_);simp only [uy,hx];refine ao (wpAny_setField ho hd (by simp) (cu ⟨x,rfl,cu (hQ _ ⟨_,JZ _ ho (Obj.isFreed_of_fields (QD hd _)),(Obj.cls_mapFields ..).trans hc,?_⟩ (NP ..))⟩));rw [QD hd];simp [rawInt]
theorem Tv {it l:Addr}{i:Nat}{items:Array Value}{Q:Value->Shared->Prop}(hh:A.handled=none) (hit:s.heap.IsTupleIter it l i) (hl:s.heap.IsTuple l items) (hx:items[i]?=none)
  (hE:∀ h' e,JW it s.heap h'->(∃ o,h'.get? e=some o/\o.cls=.type "StopIteration")->E (.ref e) { s with heap:=h' }):wpAny (model prog w) A (jn (.ref it)) Q E s:=by
 obtain ⟨o,ho,hc,hd⟩:=id hit;obtain ⟨ol,hol,_,nl,hdl⟩:=hl;unfold jn
 refine ao (nq (name:=Str.ofString "__next__") hit.typeIs uw (qz uw hit.typeIs FQ ?_ (DY _)));show wpAny _ _ (field (.ref it) 0 >>= _) _ _ s;refine ao (ju ho hd (x:=.ref l) rfl ?_);show wpAny _ _ (if (Value.ref l==Value.none)=true then _ else _) _ _ s;rw [if_neg (show ¬ ((Value.ref l==Value.none)=true) from qe)];show wpAny _ _ (field (.ref it) 1 >>= _) _ _ s;refine ao (ju ho hd (x:=.int i 0) rfl ?_);show wpAny _ _ (seqItems? (.ref l) >>= _) _ _ s;refine ao (su hol hdl ?_);simp only [uy,hx]
 refine ao (GX (ao (wpAny_setField ho hd (by simp) ?_)));show wpAny _ _ (newExc (.type "StopIteration") [] >>= _) _ _ _;refine ao ?_;simp only [newExc,newTuple];refine ao (jo ?_ (by size_fits));refine ao (m:=firstArgMember _ _) (wpAny_of_eq (a:=Value.none) (by first | rfl | (simp only [firstArgMember];rfl)) ?_);refine jo ?_ (by size_fits);simp only [raiseNew];refine ao (wpAny_handled ?_);first | rw [show A.in1.handled=none from hh] | rw [hh]
 refine ao (cu (wpAny_throw (hE _ _ (((NP ..).extBut.push _).push _) ⟨_,dh _ rfl,rfl⟩)))
theorem Zm (hh:A.handled=none) (it l:Addr) (hne:l≠it) (items:Array Value):Draws prog w A it [it,l] items.size (λi v=>items[i]?=some v) (λi h=>h.IsTupleIter it l i/\h.IsTuple l items) where
 live:=λ_ _ st=>let ⟨o,ho,_⟩:=st.1;⟨o,ho⟩
 frame:=λ_ _ _ st hk=>⟨let ⟨o,ho,r⟩:=st.1;⟨o,hk it (by simp) o ho,r⟩,let ⟨o,ho,r⟩:=st.2;⟨o,hk l (by simp) o ho,r⟩⟩
 item:=λi s Q E hi st hQ=>Tr st.1 st.2 (x:=items[i]) (by simp [hi]) λh' hit' hs'=>hQ _ h' s.toks (by simp [hi]) ⟨hit',st.2.extBut hs'.extBut hne⟩ hs'
 done:=λs Q E st hE=>Tv hh st.1 st.2 (by simp) hE
end
theorem k_ne {X:Cx}{pins:List (Addr×Obj)}{σ:L2.St}{H:Hp}{s:Shared}{a b:Addr}{o:Obj}(I:Inv X pins σ H s) (e:X.K.lookup a=some o) (f:Jv X pins H b):a≠b:=λz=>by
 have hb:=I.ok.mod.kin a o e;rcases f.2.2.2.1 with q|q
 ·exact I.ok.noex a o hb (z ▸ q)
 ·have h1:a < X.base.objs.size:=Heap.lt_size hb;have h2:=I.ok.bsz;have h3:X.s₀.heap.objs.size<=a:=z ▸ q;exact absurd (fj h1 h2) (Nat.not_lt.mpr h3)
theorem uE {H:Hp}{a b:Addr}{u:HO}(h:Rd H a u) (f:H b=none):a≠b:=λz=>by
 rcases h with h | ⟨o,h⟩ <;> (rw [z,f] at h;cases h)
structure SeqK where
 sq:aj->Hp->Addr->List V->Prop
 isIt:Heap->Addr->Addr->Nat->Prop
 isSeq:Heap->Addr->Array Value->Prop
 cls:String
 get:∀ {X:Cx} {pins:List (Addr×Obj)} {σ:L2.St} {H:Hp} {s:Shared} {a:Addr} {xs:List V},Inv X pins σ H s->sq X.K H a xs->∃ its:List Value,Vals xs its/\isSeq s.heap a its.toArray/\xs.length<=sizeLine
 inj:∀ {X:Cx} {pins:List (Addr×Obj)} {σ:L2.St} {H:Hp} {s:Shared} {a:Addr} {xs ys:List V},Inv X pins σ H s->sq X.K H a xs->sq X.K H a ys->xs=ys
 itO:∀ {h:Heap} {it l:Addr} {i:Nat},isIt h it l i->∃ o,h.get? it=some o/\o.cls=.type cls/\∃ vs,o.data=.fields vs
 itK:∀ {h h':Heap} {it l:Addr} {i:Nat},isIt h it l i->(∀ o,h.get? it=some o->h'.get? it=some o)->isIt h' it l i
 seqO:∀ {h:Heap} {l:Addr} {items:Array Value},isSeq h l items->∃ o,h.get? l=some o/\∃ n,o.data=.seq items n
 seqK:∀ {h h':Heap} {l:Addr} {items:Array Value},isSeq h l items->(∀ o,h.get? l=some o->h'.get? l=some o)->isSeq h' l items
 draws:∀ {prog:Program} {w:World} {A:Around},A.handled=none->∀ (it l:Addr),l≠it->∀ (items:Array Value),Draws prog w A it [it,l] items.size (λi v=>items[i]?=some v) (λi h=>isIt h it l i/\isSeq h l items)
 iter:∀ {prog:Program} {w:World} {A:Around} {E:Value->Shared->Prop} {s:Shared} {l:Addr} {items:Array Value} {Q:Value->Shared->Prop},isSeq s.heap l items ->
  Q (.ref s.heap.objs.size) { s with heap:=s.heap.push { cls:=.type cls,data:=.fields #[.ref l,.int 0 0] } }->wpAny (model prog w) A (pyIter (.ref l)) Q E s
 stop:∀ {prog:Program} {w:World} {A:Around} {E:Value->Shared->Prop} {s:Shared} {it l:Addr} {i:Nat} {items:Array Value} {Q:Value->Shared->Prop},A.handled=none->isIt s.heap it l i->isSeq s.heap l items->items[i]?=none ->
  (∀ h' e,JW it s.heap h'->(∃ o,h'.get? e=some o/\o.cls=.type "StopIteration")->E (.ref e) { s with heap:=h' })->wpAny (model prog w) A (jn (.ref it)) Q E s
 next:∀ {prog:Program} {w:World} {A:Around} {E:Value->Shared->Prop} {s:Shared} {it l:Addr} {i:Nat} {items:Array Value} {x:Value} {Q:Value->Shared->Prop},isIt s.heap it l i->isSeq s.heap l items->items[i]?=some x ->
  (∀ h',isIt h' it l (i+1)->HD it s.heap h'->Q x { s with heap:=h' })->wpAny (model prog w) A (jn (.ref it)) Q E s
 ne:∀ {X:Cx} {pins:List (Addr×Obj)} {σ:L2.St} {H:Hp} {s:Shared} {a b:Addr} {xs:List V},Inv X pins σ H s->sq X.K H a xs->Jv X pins H b->a≠b
 new:∀ (h:Heap) (l:Addr),isIt (h.push { cls:=.type cls,data:=.fields #[.ref l,.int 0 0] }) h.objs.size l 0
noncomputable def qG:SeqK where
 sq:=SqL
 isIt:=λh it l i=>h.IsListIter it l i
 isSeq:=λh l its=>h.IsList l its
 cls := "list_iterator"
 get:=λI h=>let ⟨its,r,p,z⟩:=I.list h;⟨its,r,p.isList,z⟩
 inj:=λI h h'=>I.list_inj h h'
 itO:=λ⟨o,e,c,d⟩=>⟨o,e,c,_,d⟩
 itK:=λst k=>st.at k
 seqO:=λ⟨o,e,_,n,d⟩=>⟨o,e,n,d⟩
 seqK:=λ⟨o,e,r⟩ k=>⟨o,k o e,r⟩
 draws:=λhh it l hne items=>Draws.list hh it l hne items
 iter:=λhs q=>GK hs q
 stop:=λhh a b c d=>wpAny_nextOf_list_end hh a b c d
 next:=λa b c d=>wpAny_nextOf_list_item a b c d
 ne:=λI h f=>by
  rcases h with h|⟨o,its,n,hk,_⟩
  ·exact uE h f.1
  ·exact k_ne I hk f
 new:=λh l=>⟨_,dh _ rfl,rfl,rfl⟩
noncomputable def Ac8:SeqK where
 sq:=SqT
 isIt:=λh it l i=>h.IsTupleIter it l i
 isSeq:=λh l its=>h.IsTuple l its
 cls := "tuple_iterator"
 get:=λI h=>let ⟨its,r,p,z⟩:=I.tuple h;⟨its,r,p,z⟩
 inj:=λI h h'=>I.tuple_inj h h'
 itO:=λ⟨o,e,c,d⟩=>⟨o,e,c,_,d⟩
 itK:=λ⟨o,e,r⟩ k=>⟨o,k o e,r⟩
 seqO:=λ⟨o,e,_,n,d⟩=>⟨o,e,n,d⟩
 seqK:=λ⟨o,e,r⟩ k=>⟨o,k o e,r⟩
 draws:=λhh it l hne items=>Zm hh it l hne items
 iter:=λhs q=>FN hs q
 stop:=λhh a b c d=>Tv hh a b c d
 next:=λa b c d=>Tr a b c d
 ne:=λI h f=>by
  rcases h with h|⟨o,its,n,hk,_⟩
  ·exact uE h f.1
  ·exact k_ne I hk f
 new:=λh l=>⟨_,dh _ rfl,rfl,rfl⟩
section
variable {prog:Program}{w:World}{A:Around}{E:Value->Shared->Prop}{s:Shared}
end
structure SR (k:SeqK) (K:aj) (H0:Hp) (ρ0:List Addr) (src:Src) (a:Addr):Prop where
 rd:∀ H ρ mh,Ev K H0 ρ0 H ρ->RS K H ρ mh->src.ok mh=true->∃ xs,k.sq K H a xs/\RDs K H ρ (src.items mh) xs
 ok:∀ (mh:MH) (i:Nat) (d:D),(src.items mh)[i]?=some d->src.ok mh=true
theorem SR.tup {K:aj}{H0:Hp}{ρ0:List Addr}{ds:List D}{a:Addr}{xs:List V}(s:SqT K H0 a xs) (r:RDs K H0 ρ0 ds xs):SR Ac8 K H0 ρ0 (.seq ds) a :=
 ⟨λH ρ mh e rs _=>⟨xs,e.tup _ _ s,r.mono e⟩,λ_ _ _ _=>rfl⟩
theorem SR.rol {K:aj}{H0:Hp}{ρ0:List Addr}{ds:List D}{a:Addr}{xs:List V}(s:Hy K H0 a xs) (r:RDs K H0 ρ0 ds xs):SR qG K H0 ρ0 (.seq ds) a :=
 ⟨λH ρ mh e rs _=>⟨xs,(e.perm _ _ s).sq,r.mono e⟩,λ_ _ _ _=>rfl⟩
theorem SR.lst {K:aj}{H0:Hp}{ρ0:List Addr}{n:Nat}{a:Addr}(h:ρ0[n]?=some a):SR qG K H0 ρ0 (.lref n) a:=by
 refine ⟨λH ρ mh e rs ok=>?_,λmh i d q=>?_⟩
 ·have ok:(match mh[n]? with | some (.lst _)=>true | _=>false)=true:=ok;obtain ⟨o,eo⟩:∃ o,mh[n]?=some (.lst o):=by
   split at ok
   ·exact ⟨_,‹_›⟩
   ·cases ok
  obtain ⟨a',ha,ro⟩:=rs.at eo;rw [e.at h] at ha;cases ha;obtain ⟨xs,sq,r⟩:=ro.read;refine ⟨xs,sq,?_⟩;show RDs K H ρ (match mh[n]? with | some (.lst o)=>o | _=>[]) xs;rw [eo];exact r
 ·have q:(match mh[n]? with | some (.lst o)=>o | _=>[])[i]?=some d:=q;show (match mh[n]? with | some (.lst _)=>true | _=>false)=true;split at q
  ·rfl
  ·simp at q
section
variable {X:Cx}
end
section
variable {X:Cx}
noncomputable def eG (x:D) (mh:MH):Option (D×MH):=match x with
 | .int j=>if -(2 ^ 62)<=j/\j<=1000000 then some (.ref mh.length,mh++[.lst (Bv 0 j.toNat)]) else none
 | _=>none
noncomputable def qH (x:D) (mh:MH):Option (D×MH):=match x with
 | .int j=>if -(2 ^ 62)<=j/\j<=1000000 then some (.tup (Bv 0 j.toNat),mh) else none
 | _=>none
variable {a:Expr}{ma:DM D}{p p2 pos pos2:Pos}
end
end DL
namespace DL
open PySem PySem.Spec PyProof.Rows L2 PySem.W
noncomputable def sortI (ns:List Int):List Int:=ns.mergeSort λa b=>decide (a<=b)
theorem sortI_perm (ns:List Int):(sortI ns).Perm ns:=List.mergeSort_perm _ _
theorem eO (ns:List Int):(sortI ns).Pairwise (·<=·):=by
 have h:=List.pairwise_mergeSort (le:=λa b:Int=>decide (a<=b)) (λa b c h1 h2=>by simp at *;omega) (λa b=>by simp;omega) ns;exact h.imp λh=>by simpa using h
theorem eU {ns l:List Int}(p:l.Perm ns) (h:l.Pairwise (·<=·)):l=sortI ns:=dY (p.trans (sortI_perm ns).symm) h (eO ns)
noncomputable def Ac9:List Int->List Int->Bool
 | [],[]=>false
 | [],_::_=>true
 | _::_,[]=>false
 | x::xs,y::ys=>if (x==y)=true then Ac9 xs ys else decide (x < y)
section
variable {prog:Program}{w:World}{A:Around}{E:Value->Shared->Prop}{κ:SortKind}{it:Array Keyed}{s:Shared}
end
theorem Pa:∀ {ns:List Int}{us:List Value},Vals (ns.map V.int) us->IntsAre us ns
 | [],_,.nil=>.nil
 | _::_,_,.cons ⟨t,e⟩ h=>by subst e;exact .cons _ _ (Pa h)
section
variable {prog:Program}{w:World}{A:Around}{E:Value->Shared->Prop}{s:Shared}
end
noncomputable def Di:List D->MH->Option (D×MH)
 | [.ref n],mh=>match mh[n]? with
  | some (.lst ds)=>match intsOf ds with
   | some ns=>if ns.length < 64 then some (.ref mh.length,mh++[.lst ((sortI ns).map .int)]) else none
   | none=>none
  | _=>none
 | _,_=>none
theorem Qw {ds:List D}{mh mh':MH}{d:D}(q:Di ds mh=some (d,mh')):∃ n,ds=[.ref n]:=by
 unfold Di at q;split at q
 ·exact ⟨_,rfl⟩
 ·cases q
theorem Qx (h:Heap) (vs:List Value) (out:Array Value):∃ c,(∀ b o,h.get? b=some o->(sortedAll h vs out).get? b=some o)/\(sortedAll h vs out).get? (h.objs.size+1)=some (seqObj "list" out c):=by
 have hsz:((h.push (seqObj "list" #[] 0)).update h.objs.size (yc (·++vs.toArray))).objs.size=h.objs.size+1:=by
  rw [Heap.size_update,size_push']
 have hoL:(((h.push (seqObj "list" #[] 0)).update h.objs.size (yc (·++vs.toArray))).push (seqObj "list" vs.toArray 0)).get? (h.objs.size+1)=some (seqObj "list" vs.toArray 0):=by
  rw [← hsz];exact dh _ rfl
 have keep:∀ b o,h.get? b=some o->(((h.push (seqObj "list" #[] 0)).update h.objs.size (yc (·++vs.toArray))).push (seqObj "list" vs.toArray 0)).get? b=some o:=λb o q=>by
  have hlt:b < h.objs.size:=Heap.lt_size q;rw [QM _ _ _ (by rw [hsz];exact fu (lq hlt)),Heap.get?_update_ne _ _ _ _ (fu hlt),QM _ _ _ (fu hlt)];exact q
 obtain ⟨c,at'⟩:=sortedHeap_at (a:=h.objs.size+1) (vs:=vs) (n:=0) (out:=out) hoL;refine ⟨c,λb o q=>?_,at'⟩;unfold sortedAll;rw [sortedHeap_old (fu (lq (Heap.lt_size q))) (Heap.lt_size (keep b o q))];exact keep b o q
theorem Ng {K:aj}{H:Hp}{ρ:List Addr}:∀ (ns:List Int),RDs K H ρ (ns.map D.int) (ns.map V.int)
 | []=>.nil
 | _::r=>.cons (.int _) (Ng r)
section
variable {X:Cx}
theorem Qy:Br X (.builtin "sorted") (rDs X.K Di):=by
 rintro pins s σ H xs us Q I r ⟨ρ,mh,ds,d,mh',q,rs,rd,co⟩;obtain ⟨n,rfl⟩:=Qw q
 ·obtain ⟨v,rfl,rx⟩:=Kz rd;obtain ⟨u,rfl,ru⟩:=vals1 r
  have q:(match mh[n]? with
   | some (.lst ds)=>(match intsOf ds with
    | some ns=>if ns.length < 64 then some (D.ref mh.length,mh++[.lst ((sortI ns).map .int)]) else none
    | none=>none)
   | _=>none)=some (d,mh'):=q
  split at q
  ·rename_i es en;obtain ⟨p,ys,rfl,hq,ry⟩:∃ p ys,v=.ref p/\SqL X.K H p ys/\RDs X.K H ρ es ys:=by
    cases rx with
    | ref h =>
     obtain ⟨a',ha,ro⟩:=rs.at en;rw [h] at ha;cases ha;obtain ⟨xs,q,r⟩:=ro.read;exact ⟨_,xs,rfl,q,r⟩
   cases ru;obtain ⟨its,rv,pl,hz⟩:=I.list hq;split at q
   ·rename_i ns ei;split at q
    ·rename_i h64;cases q;rw [Eu ei] at ry;rw [J3 ry] at hq rv;have hlen:=rv.length;refine sorted_ints pl.isList (Pa rv) (by simp at hlen;omega) λout ns' a1 a2 a3=>?_
     have es':ns'=sortI ns:=eU a2 a3;subst es';obtain ⟨c,kp,at'⟩:=Qx s.heap its out;refine ⟨.ref (s.heap.objs.size+1),_,I.laid (t':=s.toks) (a:=s.heap.objs.size+1) (o:=.lst ((sortI ns).map V.int)) kp (sy _) ⟨?_,out.toList,c,Gu a1,?_⟩,rfl,Co.newL rs (Ng (sortI ns)) co _ (I.hok.fresh (sy _))⟩
     ·rw [aq,(sortI_perm ns).length_eq,yj];omega
     ·rw [at']
    ·cases q
   ·cases q
  ·cases q
end
noncomputable abbrev TX:=Str×List Int
noncomputable def Ae8 (a b:TX):Bool:=if a.1=b.1 then Ac9 a.2 b.2 else decide (a.1.cps.toList < b.1.cps.toList)
noncomputable def uF (ks:List TX):List TX:=ks.mergeSort λa b=>!Ae8 b a
section
variable {n:Nat}{lt:Nat->Nat->Bool}
end
section
variable {prog:Program}{w:World}{A:Around}{E:Value->Shared->Prop}{s:Shared}
end
noncomputable def txD (k:TX):D:=.tup (.str k.1::k.2.map D.int)
noncomputable def qI:List TX->List TX
 | []=>[]
 | x::r=>if x∈r then qI r else x::qI r
section
variable {X:Cx}
end
noncomputable def eV:List D->Option (List TX)
 | []=>some []
 | .tup (.str x::r)::t=>match intsOf r with
  | some ns=>match eV t with
   | some l=>some ((x,ns)::l)
   | none=>none
  | none=>none
 | _=>none
noncomputable def eX (ds:List D) (mh:MH):Option (D×MH):=match eV ds with
 | some ks=>if (qI ks).length<=17 then some (.ref mh.length,mh++[.lst ((uF (qI ks)).map txD)]) else none
 | none=>none
noncomputable def Zo (x:D) (mh:MH):Option (D×MH):=match x with
 | .ref n=>match mh[n]? with
  | some (.lst o)=>match intsOf o with
   | some ns=>if ns.length < 4000 then (if (dX ns).length < 64 then some (.ref mh.length,mh++[.lst ((Ac6 ns).map D.int)]) else none) else none
   | none=>eX o mh
  | _=>none
 | _=>none
section
variable {K:aj}{H:Hp}{ρ:List Addr}
end
section
variable {X:Cx}{a:Expr}{ma:DM D}{p p2 pos pos2:Pos}
end
end DL
namespace DL
open PySem PySem.Spec PyProof.Rows L2
structure ZNe (z TI TO i1 i2:Addr):Prop where
 TIz:TI≠z
 TOz:TO≠z
 i1z:i1≠z
 i2z:i2≠z
 TITO:TI≠TO
 TIi1:TI≠i1
 TIi2:TI≠i2
 TOi1:TO≠i1
 TOi2:TO≠i2
 i12:i1≠i2
section
variable {prog:Program}{w:World}{A:Around}{E:Value->Shared->Prop}{s:Shared}
theorem Zq (k1 k2:SeqK) {z TI TO i1 i2 l1 l2:Addr}{i:Nat}{xs ys:Array Value}{x y a b:Value}{Q:Value->Shared->Prop}(D:ZNe z TI TO i1 i2) (l1z:l1≠z) (l1TO:l1≠TO) (l1i1:l1≠i1) (l2z:l2≠z) (l2TO:l2≠TO) (l2i1:l2≠i1)
  (hz:IsZip s.heap z TI TO .none) (hTI:IsPair s.heap TI (.ref i1) (.ref i2)) (hTO:IsPair s.heap TO a b) (h1:k1.isIt s.heap i1 l1 i) (h2:k2.isIt s.heap i2 l2 i) (hl1:k1.isSeq s.heap l1 xs) (hl2:k2.isSeq s.heap l2 ys) (hx:xs[i]?=some x) (hy:ys[i]?=some y)
  (hQ:∀ h',IsZip h' z TI TO (rawInt s.heap.objs.size)->IsPair h' TO x y->k1.isIt h' i1 l1 (i+1)->k2.isIt h' i2 l2 (i+1)->IsPair h' s.heap.objs.size x y->h'.objs.size=s.heap.objs.size+1 ->
   (∀ c o,c≠z->c≠TO->c≠i1->c≠i2->s.heap.get? c=some o->h'.get? c=some o)->Q (.ref s.heap.objs.size) { s with heap:=h' }) :
  wpAny (model prog w) A (Builtin.«zip.__next__» ⟨[.ref z],[]⟩) (λfin s'=>∃ v,fin=.done (.ret v)/\Q v s') E s:=by
 show wpAny _ _ (field (.ref z) 2 >>= _) _ _ _;refine ao (ju hz rfl (x:=.bool false) rfl ?_);show wpAny _ _ (field (.ref z) 3 >>= _) _ _ _;refine ao (ju hz rfl (x:=.ref TI) rfl ?_);refine ao (su hTI rfl ?_);show wpAny _ _ (qg (.ref z) >>= _) _ _ _;refine ao ?_;unfold qg;refine ao (ju hz rfl (x:=.none) rfl (cu ?_));simp only [if_true];refine ao (GX ?_);refine ao (ju hz rfl (x:=.ref TO) rfl ?_);refine ao (ud hz (by simp) λh₁ hz₁ hs₁=>?_);replace hz₁:IsZip h₁ z TI TO .ellipsis:=hz₁;refine ao ?_;simp only [List.zipIdx_cons,List.zipIdx_nil,JH,DX];refine ao (ao (GF ?_));show wpAny _ _ (jn (.ref i1) >>= _) _ _ _;refine ao (k1.next (k1.itK h1 λo e=>hs₁.extBut _ _ D.i1z e) (k1.seqK hl1 λo e=>hs₁.extBut _ _ l1z e) hx λh₂ h1₂ hs₂=>cu ?_);have hTO₂:IsPair h₂ TO a b:=hs₂.extBut _ _ D.TOi1 (hs₁.extBut _ _ D.TOz hTO);refine ao (su hTO₂ rfl ?_);refine ao (CN hTO₂ λh₃ hTO₃ hs₃=>?_)
 replace hTO₃:IsPair h₃ TO x b:=hTO₃
 refine ao (QW (cu ?_));refine ao (ao (GF ?_));show wpAny _ _ (jn (.ref i2) >>= _) _ _ _;refine ao (k2.next (k2.itK h2 λo e=>hs₃.extBut _ _ D.TOi2.symm (hs₂.extBut _ _ D.i12.symm (hs₁.extBut _ _ D.i2z e))) (k2.seqK hl2 λo e=>hs₃.extBut _ _ l2TO (hs₂.extBut _ _ l2i1 (hs₁.extBut _ _ l2z e))) hy λh₄ h2₄ hs₄=>cu ?_);have hTO₄:IsPair h₄ TO x b:=hs₄.extBut _ _ D.TOi2 hTO₃;refine ao (su hTO₄ rfl ?_);refine ao (CN hTO₄ λh₅ hTO₅ hs₅=>?_)
 replace hTO₅:IsPair h₅ TO x y:=hTO₅
 refine ao (QW (cu (cu ?_)));refine ao (su hTO₅ rfl ?_);refine ao (wpAny_newTuple ?_);have hsz:h₅.objs.size=s.heap.objs.size:=by rw [hs₅.1,hs₄.1,hs₃.1,hs₂.1,hs₁.1]
 have hz₅:IsZip h₅ z TI TO .ellipsis:=hs₅.extBut _ _ D.TOz.symm (hs₄.extBut _ _ D.i2z.symm (hs₃.extBut _ _ D.TOz.symm (hs₂.extBut _ _ D.i1z.symm hz₁)));have hk₅:∀ c o,c≠z->c≠TO->c≠i1->c≠i2->s.heap.get? c=some o->h₅.get? c=some o:=λc o c1 c2 c3 c4 e=>hs₅.extBut _ _ c2 (hs₄.extBut _ _ c4 (hs₃.extBut _ _ c2 (hs₂.extBut _ _ c3 (hs₁.extBut _ _ c1 e))))
 have h1₅:k1.isIt h₅ i1 l1 (i+1):=k1.itK h1₂ λo e=>hs₅.extBut _ _ D.TOi1.symm (hs₄.extBut _ _ D.i12 (hs₃.extBut _ _ D.TOi1.symm e))
 have h2₅:k2.isIt h₅ i2 l2 (i+1):=k2.itK h2₄ λo e=>hs₅.extBut _ _ D.TOi2.symm e
 have hzlt:z < h₅.objs.size:=Heap.lt_size hz₅;show wpAny _ _ (zf (.ref z) (.ref h₅.objs.size) >>= _) _ _ _;refine ao ?_;unfold zf
 have hz₆:IsZip (h₅.push { cls:=.type "tuple",data:=.seq #[x,y] }) z TI TO .ellipsis:=ak _ hz₅;refine ao (ud hz₆ (by simp) λh₇ hz₇ hs₇=>?_);replace hz₇:IsZip h₇ z TI TO (rawInt h₅.objs.size):=hz₇;refine ud hz₇ (by simp) λh₈ hz₈ hs₈=>?_;replace hz₈:IsZip h₈ z TI TO (rawInt h₅.objs.size):=hz₈
 have up:∀ c o,c≠z->h₅.get? c=some o->h₈.get? c=some o:=λc o c1 e=>hs₈.extBut _ _ c1 (hs₇.extBut _ _ c1 (ak _ e))
 have hT₈:IsPair h₈ h₅.objs.size x y:=hs₈.extBut _ _ (jz hzlt) (hs₇.extBut _ _ (jz hzlt) (dh _ rfl));have hz8:h₈.objs.size=h₅.objs.size+1:=by rw [hs₈.1,hs₇.1,ji]
 rw [hsz] at hz₈ hT₈ hz8;refine cu ⟨_,rfl,?_⟩;show Q (.ref h₅.objs.size) _;rw [hsz];exact hQ h₈ hz₈ (up _ _ D.TOz hTO₅) (k1.itK h1₅ λo e=>up _ o D.i1z e) (k2.itK h2₅ λo e=>up _ o D.i2z e) hT₈ hz8 λc o c1 c2 c3 c4 e=>up c o c1 (hk₅ c o c1 c2 c3 c4 e)
theorem Zt (k1 k2:SeqK) {z TI TO i1 i2 l1 l2:Addr}{i:Nat}{xs ys:Array Value}{a b:Value}{Q:Fin->Shared->Prop}(hh:A.handled=none) (D:ZNe z TI TO i1 i2) (l1z:l1≠z) (l2z:l2≠z) (l2TO:l2≠TO) (l2i1:l2≠i1)
  (hz:IsZip s.heap z TI TO .none) (hTI:IsPair s.heap TI (.ref i1) (.ref i2)) (hTO:IsPair s.heap TO a b) (h1:k1.isIt s.heap i1 l1 i) (h2:k2.isIt s.heap i2 l2 i) (hl1:k1.isSeq s.heap l1 xs) (hl2:k2.isSeq s.heap l2 ys) (hend:xs[i]?=none\/ys[i]?=none)
  (hE:∀ h' e,(∀ c o,c≠z->c≠TO->c≠i1->c≠i2->s.heap.get? c=some o->h'.get? c=some o)->(∃ o,h'.get? e=some o/\o.cls=.type "StopIteration")->E (.ref e) { s with heap:=h' }) :
  wpAny (model prog w) A (Builtin.«zip.__next__» ⟨[.ref z],[]⟩) Q E s:=by
 show wpAny _ _ (field (.ref z) 2 >>= _) _ _ _;refine ao (ju hz rfl (x:=.bool false) rfl ?_);show wpAny _ _ (field (.ref z) 3 >>= _) _ _ _;refine ao (ju hz rfl (x:=.ref TI) rfl ?_);refine ao (su hTI rfl ?_);show wpAny _ _ (qg (.ref z) >>= _) _ _ _;refine ao ?_;unfold qg;refine ao (ju hz rfl (x:=.none) rfl (cu ?_));simp only [if_true];refine ao (GX ?_);refine ao (ju hz rfl (x:=.ref TO) rfl ?_);refine ao (ud hz (by simp) λh₁ hz₁ hs₁=>?_);replace hz₁:IsZip h₁ z TI TO .ellipsis:=hz₁;refine ao ?_;simp only [List.zipIdx_cons,List.zipIdx_nil,JH,DX];refine ao (ao (GF ?_));show wpAny _ _ (jn (.ref i1) >>= _) _ _ _;cases hx:xs[i]? with
 | none =>
  refine ao (k1.stop hh (k1.itK h1 λo e=>hs₁.extBut _ _ D.i1z e) (k1.seqK hl1 λo e=>hs₁.extBut _ _ l1z e) hx λh₂ e hs₂ he=>?_);obtain ⟨oe,hoe,hce⟩:=he;have hz₂:IsZip h₂ z TI TO .ellipsis:=hs₂ _ _ D.i1z.symm hz₁;have hez:e≠z:=λx=>by subst x;rw [hz₂] at hoe;cases hoe;simp at hce
  exact ud hz₂ (by simp) λh₃ _ hs₃=>hE h₃ e (λc o c1 _ c3 _ x=>hs₃.extBut _ _ c1 (hs₂ _ _ c3 (hs₁.extBut _ _ c1 x))) ⟨oe,hs₃.extBut _ _ hez hoe,hce⟩
 | some x =>
  have hy:ys[i]?=none:=by rcases hend with h|h;rw [hx] at h;cases h;exact h
  refine ao (k1.next (k1.itK h1 λo e=>hs₁.extBut _ _ D.i1z e) (k1.seqK hl1 λo e=>hs₁.extBut _ _ l1z e) hx λh₂ h1₂ hs₂=>cu ?_);have hTO₂:IsPair h₂ TO a b:=hs₂.extBut _ _ D.TOi1 (hs₁.extBut _ _ D.TOz hTO);refine ao (su hTO₂ rfl ?_);refine ao (CN hTO₂ λh₃ hTO₃ hs₃=>?_);refine ao (QW (cu ?_));refine ao (ao (GF ?_));show wpAny _ _ (jn (.ref i2) >>= _) _ _ _;refine ao (k2.stop hh (k2.itK h2 λo e=>hs₃.extBut _ _ D.TOi2.symm (hs₂.extBut _ _ D.i12.symm (hs₁.extBut _ _ D.i2z e))) (k2.seqK hl2 λo e=>hs₃.extBut _ _ l2TO (hs₂.extBut _ _ l2i1 (hs₁.extBut _ _ l2z e))) hy λh₄ e hs₄ he=>?_);obtain ⟨oe,hoe,hce⟩:=he;have hz₄:IsZip h₄ z TI TO .ellipsis:=hs₄ _ _ D.i2z.symm (hs₃.extBut _ _ D.TOz.symm (hs₂.extBut _ _ D.i1z.symm hz₁));have hez:e≠z:=λx=>by subst x;rw [hz₄] at hoe;cases hoe;simp at hce
  exact ud hz₄ (by simp) λh₅ _ hs₅=>hE h₅ e (λc o c1 c2 c3 c4 x=>hs₅.extBut _ _ c1 (hs₄ _ _ c4 (hs₃.extBut _ _ c2 (hs₂.extBut _ _ c3 (hs₁.extBut _ _ c1 x))))) ⟨oe,hs₅.extBut _ _ hez hoe,hce⟩
end
noncomputable def Itz (k1 k2:SeqK) (K:aj) (l1 l2:Addr):It :=
  ⟨λi H=>∃ xs ys x y,k1.sq K H l1 xs/\k2.sq K H l2 ys/\xs[i]?=some x/\ys[i]?=some y,
   λi H v H'=>∃ T x y,H T=none/\v=.ref T/\(∀ xs,k1.sq K H l1 xs->xs[i]?=some x)/\(∀ ys,k2.sq K H l2 ys->ys[i]?=some y)/\H'=upd H T (.tup [x,y]),
   λi H=>∃ xs ys,k1.sq K H l1 xs/\k2.sq K H l2 ys/\(xs.length<=i\/ys.length<=i)⟩
theorem eY {P:Program}{w:World}{K:aj}(k1 k2:SeqK) {elts:List Expr}{kk:Nat}{tp:Pos}(l1 l2 z TI TO i1 i2:Addr) (D:ZNe z TI TO i1 i2) :
  Turn P w K (.Tuple elts kk tp) (Itz k1 k2 K l1 l2) [z,TI,TO,i1,i2] z (λi h=>IsZip h z TI TO .none/\IsPair h TI (.ref i1) (.ref i2)/\(∃ a b,IsPair h TO a b)/\k1.isIt h i1 l1 i/\k2.isIt h i2 l2 i) where
 mem:=by simp
 obj:=λi h st b hb=>by
  obtain ⟨hz,hTI,⟨a,c,hTO⟩,h1,h2⟩:=st;have hb:b=z\/b=TI\/b=TO\/b=i1\/b=i2:=by simpa using hb
  rcases hb with rfl|rfl|rfl|rfl|rfl
  ·exact ⟨_,hz,λv q=>by have q':Data.fields _=Data.cell v:=q;cases q'⟩
  ·exact ⟨_,hTI,λv q=>by have q':Data.seq _ _=Data.cell v:=q;cases q'⟩
  ·exact ⟨_,hTO,λv q=>by have q':Data.seq _ _=Data.cell v:=q;cases q'⟩
  ·obtain ⟨o,q,c,vs,d⟩:=k1.itO h1;exact ⟨o,q,λv z=>by rw [d] at z;cases z⟩
  ·obtain ⟨o,q,c,vs,d⟩:=k2.itO h2;exact ⟨o,q,λv z=>by rw [d] at z;cases z⟩
 keep:=λi h h' st kp=>by
  obtain ⟨hz,hTI,⟨a,c,hTO⟩,h1,h2⟩:=st;exact ⟨kp z (by simp) _ hz,kp TI (by simp) _ hTI,⟨a,c,kp TO (by simp) _ hTO⟩,k1.itK h1 λo q=>kp i1 (by simp) o q,k2.itK h2 λo q=>kp i2 (by simp) o q⟩
 item:=by
  intro X hP hw hK hc i pins s σ H E I hf st hg;subst hP hw hK;obtain ⟨xs,ys,x,y,hq1,hq2,hx,hy⟩:=hg;obtain ⟨its1,rv1,p1,hz1⟩:=k1.get I hq1;obtain ⟨its2,rv2,p2,hz2⟩:=k2.get I hq2;obtain ⟨u1,hu1,ru1⟩:=rv1.get hx;obtain ⟨u2,hu2,ru2⟩:=rv2.get hy;obtain ⟨hz,hTI,⟨a,c,hTO⟩,h1,h2⟩:=st;have fz:=hf z (by simp);have fTO:=hf TO (by simp);have f1:=hf i1 (by simp)
  have hT:s.TypeIs (.ref z) "zip":=⟨_,hz,rfl⟩
  unfold pyNext
  refine ao (wpAny_attempt (nq (name:=Str.ofString "__next__") hT CP (qz CP hT F.entry_zip_next
   (Zq k1 k2 (i:=i) D (k1.ne I hq1 fz) (k1.ne I hq1 fTO) (k1.ne I hq1 f1) (k2.ne I hq2 fz) (k2.ne I hq2 fTO) (k2.ne I hq2 f1) hz hTI hTO h1 h2 p1 p2 (x:=u1) (y:=u2) (by simpa using hu1) (by simpa using hu2) λh' a1 a2 a3 a4 a5 a6 hk=>cu ?_) (QR _))))
  refine ⟨_,rfl,wpAny_letOwnedTupleGo_zip a1 λh2' hz' hs'=>?_⟩;have zlt:z < s.heap.objs.size:=Heap.lt_size hz;have hT2:Mu h2' s.heap.objs.size #[u1,u2]:=⟨_,hs'.extBut _ _ (jz zlt) a5,rfl,rfl,_,rfl⟩;have nb:∀ b,b ∉ [z,TI,TO,i1,i2]->b≠z/\b≠TO/\b≠i1/\b≠i2:=λb hb=>by simp at hb;exact ⟨hb.1,hb.2.2.1,hb.2.2.2.1,hb.2.2.2.2⟩
  have I2:Inv X pins σ (upd H s.heap.objs.size (.tup [x,y])) { s with heap:=h2' }:=Oi (t':=s.toks) (fp:=[z,TI,TO,i1,i2]) I (λb o hb q=>hs'.extBut b o (nb b hb).1 (hk b o (nb b hb).1 (nb b hb).2.1 (nb b hb).2.2.1 (nb b hb).2.2.2 q)) hf (cg _) ⟨by simp [yj],[u1,u2],.cons ru1 (.cons ru2 .nil),hT2⟩;refine ⟨.ref s.heap.objs.size,_,I2,rfl,⟨s.heap.objs.size,x,y,I.hok.fresh (cg _),rfl,λzs q=>by rw [k1.inj I q hq1];exact hx,λzs q=>by rw [k2.inj I q hq2];exact hy,rfl⟩,⟨hz',hs'.extBut _ _ D.TIz (hk _ _ D.TIz D.TITO D.TIi1 D.TIi2 hTI),⟨_,_,hs'.extBut _ _ D.TOz a2⟩,k1.itK a3 λo q=>hs'.extBut _ _ D.i1z q,k2.itK a4 λo q=>hs'.extBut _ _ D.i2z q⟩,λb hb=>?_⟩;rw [Ac ?_]
  ·exact (hf b hb).1
  ·intro q;have hb:b=z\/b=TI\/b=TO\/b=i1\/b=i2:=by simpa using hb
   have lt:b < s.heap.objs.size:=by
    rcases hb with e|e|e|e|e
    ·rw [e];exact zlt
    ·rw [e];exact Heap.lt_size hTI
    ·rw [e];exact Heap.lt_size hTO
    ·obtain ⟨o,q,_⟩:=k1.itO h1;rw [e];exact Heap.lt_size q
    ·obtain ⟨o,q,_⟩:=k2.itO h2;rw [e];exact Heap.lt_size q
   exact absurd q (fu lt)
 done:=by
  intro X hP hw hK hc i pins s σ H E I hf st hg;subst hP hw hK;obtain ⟨xs,ys,hq1,hq2,hx⟩:=hg;obtain ⟨its1,rv1,p1,hz1⟩:=k1.get I hq1;obtain ⟨its2,rv2,p2,hz2⟩:=k2.get I hq2;obtain ⟨hz,hTI,⟨a,c,hTO⟩,h1,h2⟩:=st;have fz:=hf z (by simp);have fTO:=hf TO (by simp);have f1:=hf i1 (by simp)
  have hT:s.TypeIs (.ref z) "zip":=⟨_,hz,rfl⟩
  have e1:=rv1.length;have e2:=rv2.length;unfold pyNext
  refine ao (wpAny_attempt (nq (name:=Str.ofString "__next__") hT CP (qz CP hT F.entry_zip_next
   (Zt k1 k2 (i:=i) (A:=X.A.in1) (I.ok.hd hc) D (k1.ne I hq1 fz) (k2.ne I hq2 fz) (k2.ne I hq2 fTO) (k2.ne I hq2 f1) hz hTI hTO h1 h2 p1 p2 ?_ λh' e hk he=>?_) (QR _))))
  ·rcases hx with q|q
   ·exact .inl (by simp;omega)
   ·exact .inr (by simp;omega)
  ·obtain ⟨o,ho,hcl⟩:=he
   refine ao (wpAny_isInstance (T := "StopIteration") (b:=true) ⟨o,ho,hcl⟩ isSubtype_stop (cu ⟨rfl,?_⟩))
   exact Zk (t':=s.toks) (fp:=[z,TI,TO,i1,i2]) I (λb o hb q=>by
    simp at hb
    exact hk b o hb.1 hb.2.2.1 hb.2.2.2.1 hb.2.2.2.2 q) hf
 self:=λ_ i s Q E st h=>wpAny_pyIter_zip st.1 h
noncomputable abbrev zK1 (k1:SeqK) (h:Heap) (l1:Addr):Heap:=h.push { cls:=.type k1.cls,data:=.fields #[.ref l1,.int 0 0] }
noncomputable abbrev zK2 (k1 k2:SeqK) (h:Heap) (l1 l2:Addr):Heap:=(zK1 k1 h l1).push { cls:=.type k2.cls,data:=.fields #[.ref l2,.int 0 0] }
noncomputable abbrev zK3 (k1 k2:SeqK) (h:Heap) (l1 l2:Addr):Heap:=(zK2 k1 k2 h l1 l2).push { cls:=.type "tuple",data:=.seq #[.ref h.objs.size,.ref (zK1 k1 h l1).objs.size] }
noncomputable abbrev zK4 (k1 k2:SeqK) (h:Heap) (l1 l2:Addr):Heap:=(zK3 k1 k2 h l1 l2).push { cls:=.type "tuple",data:=.seq #[.none,.none] }
noncomputable abbrev zK5 (k1 k2:SeqK) (h:Heap) (l1 l2:Addr):Heap:=(zK4 k1 k2 h l1 l2).push { cls:=.type "zip",data:=.fields #[.none,.bool false,.bool false,.ref (zK2 k1 k2 h l1 l2).objs.size,.ref (zK3 k1 k2 h l1 l2).objs.size] }
theorem Vz (k1 k2:SeqK) (l1 l2:Addr) (xs ys:Array Value) :
  Meets (Builtin.«zip.__new__» ⟨[.type "zip",.ref l1,.ref l2],[]⟩) (λ_ R s=>k1.isSeq s.heap l1 xs/\k2.isSeq s.heap l2 ys /\
   R (.ok (.ret (.ref (zK4 k1 k2 s.heap l1 l2).objs.size))) { s with heap:=zK5 k1 k2 s.heap l1 l2 }) :=
 .of_wp λprog w A R s h=>by
  obtain ⟨hp,g,d,tk,os⟩:=s;obtain ⟨hl1,hl2,h⟩:=h;have hsub:=sub_zip;have hL1:k1.isSeq (Shared.heap ⟨hp,g,d,tk,os⟩) l1 xs:=hl1;have hL2:k2.isSeq (Shared.heap ⟨hp.push { cls:=.type k1.cls,data:=.fields #[.ref l1,.int 0 0] },g,d,tk,os⟩) l2 ys:=k2.seqK hl2 λo e=>ak _ e
  wp_walk using k1.iter hL1,k2.iter hL2
  exact ⟨_,rfl,h⟩
section
variable {prog:Program}{w:World}{A:Around}{E:Value->Shared->Prop}{s:Shared}
theorem Zu (k1 k2:SeqK) {l1 l2:Addr}{xs ys:Array Value}{Q:Value->Shared->Prop}(hl1:k1.isSeq s.heap l1 xs) (hl2:k2.isSeq s.heap l2 ys)
  (h:∀ h',IsZip h' (s.heap.objs.size+4) (s.heap.objs.size+2) (s.heap.objs.size+3) .none->IsPair h' (s.heap.objs.size+2) (.ref s.heap.objs.size) (.ref (s.heap.objs.size+1)) ->
   IsPair h' (s.heap.objs.size+3) .none .none->k1.isIt h' s.heap.objs.size l1 0->k2.isIt h' (s.heap.objs.size+1) l2 0->h'.objs.size=s.heap.objs.size+5 ->
   (∀ c o,s.heap.get? c=some o->h'.get? c=some o)->Q (.ref (s.heap.objs.size+4)) { s with heap:=h' }) :
  wpAny (model prog w) A (call (.type "zip") [.ref l1,.ref l2]) Q E s:=by
 refine callType_new F.called_zip (by decide) (F.typeCall_zip_2 _ _) (F.newCall_zip_2 _ _) (λobj=>F.args_object_init_3 obj _ _) F.entry_zip_new
  (Vz k1 k2 l1 l2 xs ys) ⟨hl1,hl2,?_⟩
 have z1:(zK1 k1 s.heap l1).objs.size=s.heap.objs.size+1:=ji ..;have z2:(zK2 k1 k2 s.heap l1 l2).objs.size=s.heap.objs.size+2:=by rw [ji,z1]
 have z3:(zK3 k1 k2 s.heap l1 l2).objs.size=s.heap.objs.size+3:=by rw [ji,z2]
 have z4:(zK4 k1 k2 s.heap l1 l2).objs.size=s.heap.objs.size+4:=by rw [ji,z3]
 have z5:(zK5 k1 k2 s.heap l1 l2).objs.size=s.heap.objs.size+5:=by rw [ji,z4]
 have g5:(zK5 k1 k2 s.heap l1 l2).get? (zK4 k1 k2 s.heap l1 l2).objs.size=some _:=dh _ rfl;have g4:(zK5 k1 k2 s.heap l1 l2).get? (zK3 k1 k2 s.heap l1 l2).objs.size=some _:=ak _ (dh _ rfl);have g3:(zK5 k1 k2 s.heap l1 l2).get? (zK2 k1 k2 s.heap l1 l2).objs.size=some _:=ak _ (ak _ (dh _ rfl));have g2:(zK5 k1 k2 s.heap l1 l2).get? (zK1 k1 s.heap l1).objs.size=some _:=ak _ (ak _ (ak _ (dh _ rfl)));have g1:(zK5 k1 k2 s.heap l1 l2).get? s.heap.objs.size=some _:=ak _ (ak _ (ak _ (ak _ (dh _ rfl))));show _/\_;rw [z2,z3,z4] at g5;rw [z1,z2] at g3;rw [z3] at g4;rw [z1] at g2;rw [z4]
 exact ⟨⟨_,g5,rfl⟩,h _ g5 g3 g4 (k1.itK (k1.new s.heap l1) λo e=>ak _ (ak _ (ak _ (ak _ e)))) (by
  have:=k2.itK (h':=zK5 k1 k2 s.heap l1 l2) (k2.new (zK1 k1 s.heap l1) l2) λo e=>ak _ (ak _ (ak _ e))
  rw [z1] at this
  exact this) z5 λc o x =>
  ak _ (ak _ (ak _ (ak _ (ak _ x))))⟩
end
noncomputable def qJ:List D->MH->Option (Src×MH)
 | [x,y],mh=>match srcOf x mh,srcOf y mh with
  | some s,some t=>some (.zip s t,mh)
  | _,_=>none
 | _,_=>none
noncomputable def K1 (mr:DM (List D)):DM Src:=mr.bnd λds=>λ_ mh=>qJ ds mh
theorem eZ {K:aj}{H:Hp}{ρ:List Addr}{mh:MH}{x:D}{v:V}{s:Src}(rs:RS K H ρ mh) (r:RD K H ρ x v) (e:srcOf x mh=some s):∃ (k:SeqK) (a:Addr) (xs:List V),v=.ref a/\SR k K H ρ s a/\k.sq K H a xs:=by
 cases x with
 | tup ds =>
  cases e;cases r with
  | tup sq r=>exact ⟨Ac8,_,_,rfl,SR.tup sq r,sq⟩
 | ref n =>
  cases eo:mh[n]? with
  | none=>simp only [srcOf,eo] at e;cases e
  | some ob =>
   cases ob with
   | dct kvs=>simp only [srcOf,eo] at e;cases e
   | dtk kvs=>simp only [srcOf,eo] at e;cases e
   | plc=>simp only [srcOf,eo] at e;cases e
   | plq=>simp only [srcOf,eo] at e;cases e
   | plw=>simp only [srcOf,eo] at e;cases e
   | plr=>simp only [srcOf,eo] at e;cases e
   | fzd=>simp only [srcOf,eo] at e;cases e
   | lst o =>
   simp only [srcOf,eo] at e;cases e;cases r with
   | @ref _ a' h =>
    obtain ⟨a2,ha2,ro⟩:=rs.at eo;rw [h] at ha2;cases ha2;obtain ⟨xs,sq,r⟩:=ro.read;exact ⟨qG,_,xs,rfl,SR.lst h,sq⟩
 | rol ds =>
  cases e;cases r with
  | rol sq r=>exact ⟨qG,_,_,rfl,SR.rol sq r,sq.sq⟩
 | non=>cases e
 | bl b=>cases e
 | int i=>cases e
 | str z=>cases e
 | obj c ks ds=>cases e
 | fn x=>cases e
 | lam=>cases e
 | clo=>cases e
theorem JR.zip {k1 k2:SeqK}{K:aj}{H0:Hp}{ρ0:List Addr}{s1 s2:Src}{a1 a2:Addr}(S1:SR k1 K H0 ρ0 s1 a1) (S2:SR k2 K H0 ρ0 s2 a2):JR K H0 ρ0 (.zip s1 s2) (Itz k1 k2 K a1 a2) where
 go:=λH ρ mh i d e rs q=>by
  have q:(gw (λa b=>D.tup [a,b]) (s1.items mh) (s2.items mh))[i]?=some d:=q;rw [CG] at q;cases e1:(s1.items mh)[i]? with
  | none=>rw [e1] at q;simp at q
  | some d1 =>
   cases e2:(s2.items mh)[i]? with
   | none=>rw [e1,e2] at q;simp at q
   | some d2 =>
    rw [e1,e2] at q;cases q;obtain ⟨xs,sq,r⟩:=S1.rd H ρ mh e rs (S1.ok mh i d1 e1);obtain ⟨ys,sq2,r2⟩:=S2.rd H ρ mh e rs (S2.ok mh i d2 e2);obtain ⟨v,ev,rv⟩:=r.get e1;obtain ⟨u,eu,ru⟩:=r2.get e2;refine ⟨⟨xs,ys,v,u,sq,sq2,ev,eu⟩,?_⟩;rintro x H' ⟨T,x',y',hT,h1,h2,h3,h4⟩;subst h1;subst h4;have t1:=h2 xs sq;rw [ev] at t1;cases t1;have t2:=h3 ys sq2;rw [eu] at t2;cases t2;exact ⟨Ev.new hT,rs.new hT,.tup (.inl (.inl Ai)) (.cons (rv.mono (Ev.new hT)) (.cons (ru.mono (Ev.new hT)) .nil))⟩
 stop:=λH ρ mh i e rs q=>by
  have q:((s1.ok mh&&s2.ok mh)&&decide ((gw (λa b=>D.tup [a,b]) (s1.items mh) (s2.items mh)).length<=i))=true:=q;rw [au,au,yr] at q;obtain ⟨xs,sq,r⟩:=S1.rd H ρ mh e rs q.1.1;obtain ⟨ys,sq2,r2⟩:=S2.rd H ρ mh e rs q.1.2;have:=of_decide_eq_true q.2;refine ⟨xs,ys,sq,sq2,?_⟩;rw [← r.length,← r2.length];omega
section
variable {X:Cx}
theorem boot_zip:bootBuiltins "zip"=some (.type "zip"):=by decide +kernel
theorem qK (k1 k2:SeqK) {pins:List (Addr×Obj)}{σ:L2.St}{H:Hp}{s:Shared}{R:It->Hp->Prop}{E:Value->Shared->Prop}{elts:List Expr}{kk:Nat}{tp:Pos}{a b:Addr}{xs ys:List V}(I:Inv X pins σ H s) (hq:k1.sq X.K H a xs) (hq2:k2.sq X.K H b ys) (hR:R (Itz k1 k2 X.K a b) H) :
  wpAny (model X.prog X.w) X.A (call (.type "zip") [.ref a,.ref b]) (λv s1=>wpAny (model X.prog X.w) X.A (pyIter v) (PIE X pins σ (.Tuple elts kk tp) R) E s1) E s:=by
 obtain ⟨its,rv,p,hz⟩:=k1.get I hq;obtain ⟨its2,rv2,p2,hz2⟩:=k2.get I hq2;refine Zu k1 k2 p p2 λh' g1 g2 g3 g4 g5 hsz hk=>wpAny_pyIter_zip g1 ?_
 have I1:Inv X pins σ H { s with heap:=h' }:=I.kept (t':=s.toks) hk;refine ⟨s.heap.objs.size+4,[s.heap.objs.size+4,s.heap.objs.size+2,s.heap.objs.size+3,s.heap.objs.size,s.heap.objs.size+1],_,Itz k1 k2 X.K a b,H,rfl,I1,eY k1 k2 a b _ _ _ _ _ ?_,⟨g1,g2,⟨_,_,g3⟩,g4,g5⟩,λc hc=>?_,hR⟩
 ·generalize s.heap.objs.size=N;exact ⟨fu (lq (jq _)),fu (jq _),fu (zy (by decide)),fu (NQ (by decide) N),fu (jq _),jz (zy (by decide)),jz (jq _),jz (zy (by decide)),jz (NQ (by decide) N),fu (jq _)⟩
 ·have hc:c=s.heap.objs.size+4\/c=s.heap.objs.size+2\/c=s.heap.objs.size+3\/c=s.heap.objs.size\/c=s.heap.objs.size+1:=by simpa using hc
  have:s.heap.objs.size<=c:=by
   rcases hc with e | e | e | e | e <;> rw [e]
   ·exact BV _ _
   ·exact BV _ _
   ·exact BV _ _
   ·exact cg _
   ·exact BV _ _
  exact I.fpOk this (I.hok.fresh this)
theorem yK {a b:Expr}{mr:DM (List D)}{elts:List Expr}{kk:Nat}{tp p pos:Pos}(hg:Gl X "zip") (hm:X.mg "zip"=none) (ha:DA X [a,b] mr) (hs:starEach [a,b] X.env=(false,eval a X.env)::starEach [b] X.env) (hpl:(backTo pos (starEach [b] X.env)).any (·.1)=false) :
  DI X (.Tuple elts kk tp) (.Call (.Name "zip" p) [a,b] [] pos) (K1 mr):=λloc mh=>by
 cases ea:mr loc mh with
 | none =>
  have:K1 mr loc mh=none:=by unfold K1 DM.bnd;rw [ea]
  rw [this];exact Dw
 | some pr =>
  obtain ⟨ds,m1⟩:=pr;have eq:K1 mr loc mh=qJ ds m1:=by unfold K1 DM.bnd;rw [ea]
  rw [eq];rintro pins s σ H R I ⟨ρ,src,mh',q,rl,rs,co⟩;refine Call_ (Kr I hg hm boot_zip (PyProof.Rows.callWith_type1 (thn (ha loc mh pos pins s σ H (λvs H1=>∃ ρ1,Ev X.K H ρ H1 ρ1/\RS X.K H1 ρ1 m1/\RDs X.K H1 ρ1 ds vs) I ⟨ρ,ds,m1,ea,rl,rs,λH1 ρ1 v e1 rs1 r1=>⟨ρ1,e1,rs1,r1⟩⟩) ?_) hs hpl));rintro us s1 ⟨vs,H1,I1,r1,q1⟩;obtain ⟨ρ1,e1,rs1,rx⟩:=q1;unfold qJ at q;split at q
  ·rename_i x y;cases rx with
   | cons rx ry =>
    cases ry with
    | cons ry rz =>
     cases rz;split at q
     ·rename_i s1' t1' es et;cases q;obtain ⟨k1,a1,xs,rfl,S1,sq1⟩:=eZ rs1 rx es;obtain ⟨k2,a2,ys,rfl,S2,sq2⟩:=eZ rs1 ry et;cases r1 with
      | cons u1 r1 =>
       cases r1 with
       | cons u2 r1 =>
        cases r1;cases u1;cases u2;exact qK k1 k2 I1 sq1 sq2 (co H1 ρ1 _ e1 rs1 (JR.zip S1 S2))
     ·cases q
  ·cases q
end
section
variable {prog:Program}{w:World}{A:Around}{E:Value->Shared->Prop}{s:Shared}
end
section
variable {prog:Program}{w:World}{A:Around}{E:Value->Shared->Prop}{s:Shared}{k1 k2:SeqK}{S z TI TO i1 i2 l1 l2:Addr}{i:Nat}
end
noncomputable def yL (a b:D):D:=.tup [a,b]
noncomputable def fB:List D->MH->Option (D×MH)
 | [x,y],mh=>match Dn x mh,Dn y mh with
  | some as,some bs=>some (.ref mh.length,mh++[.lst (gw yL as bs)])
  | _,_=>none
 | _,_=>none
section
variable {X:Cx}
end
end DL
namespace DL
open PySem PySem.Spec PyProof.Rows L2 PySem.W
noncomputable def fD:List D->MH->Option (D×MH)
 | [x,y],mh=>match Dn x mh,Dn y mh with
  | some as,some bs=>match eV (gw yL as bs) with
   | some ks=>if ks.Nodup/\ks.length < 64 then some (.ref (mh.length+1),mh++[.lst (gw yL as bs)]++[.lst ((uF ks).map txD)]) else none
   | none=>none
  | _,_=>none
 | _,_=>none
section
variable {X:Cx}
end
end DL
namespace DL
open PySem PySem.Spec PyProof.Rows L2
theorem cnt_ints (k:Int):∀ {its:List Value}{ns:List Int},IntsAre its ns->its.countP (isInt k)=ns.countP (·==k)
 | _,_,.nil=>rfl
 | _,_,.cons n t h=>by
  rw [wg,wg,cnt_ints k h];rfl
noncomputable def Zv:D->List D->MH->Option (D×MH)
 | .ref n,[.int k],mh=>match mh[n]? with
  | some (.lst ds)=>(match intsOf ds with
   | some ns=>some (.int (ns.countP (·==k):Nat),mh)
   | none=>none)
  | _=>none
 | _,_,_=>none
theorem Zw {x:D}{ds:List D}{mh:MH}{z:D×MH}(q:Zv x ds mh=some z):∃ n k,x=.ref n/\ds=[.int k]:=by
 cases x with
 | ref n =>
  cases ds with
  | nil=>cases q
  | cons a r =>
   cases a with
   | int k =>
    cases r with
    | nil=>exact ⟨_,_,rfl,rfl⟩
    | cons _ _=>cases q
   | _=>cases q
 | _=>cases q
section
variable {X:Cx}
theorem qL:MtR X "list.count" (rDM X.K Zv):=by
 rintro pins s σ H x xs v us Q I rx rv ⟨ρ,mh,dx,ds,d,mh',q,rs,r1,r2,co⟩;obtain ⟨nn,k,rfl,rfl⟩:=Zw q
 ·simp only [Zv] at q;split at q
  ·rename_i es em;split at q
   ·rename_i ns en;cases q;obtain ⟨y,rfl,ry⟩:=Kz r2;cases ry;obtain ⟨u,rfl,ru⟩:=rv.one;obtain ⟨t,rfl⟩:=ru;cases r1 with
    | @ref _ a h =>
     cases rx;obtain ⟨a',ha,ro⟩:=rs.at em;rw [h] at ha;cases ha;obtain ⟨ws,sq,rr⟩:=ro.read;have rr:RDs X.K H ρ es ws:=rr;rw [Eu en] at rr;rw [J3 rr] at sq;obtain ⟨its,rvv,pl,hz⟩:=I.list sq;have hi:IntsAre its ns:=intsAre_of rvv;obtain ⟨⟨cls,dd,data,sl⟩,n,ho,hc,hdd,hd⟩:=id pl;simp only at hc hd;subst hc hd;refine LK BJ ⟨_,ho,rfl⟩ IK (HB _ _) (IV a its.toArray n dd sl (.int k t) (isInt k)) ⟨ho,λy hy=>(eq_isInt k t hi y (by simpa using hy)).at _ _,?_⟩;rw [show its.toArray.toList=its from rfl,cnt_ints k hi];exact ⟨.int _,H,I.tok _,⟨_,rfl⟩,co H ρ _ Ev.refl rs (.int _)⟩
   ·cases q
  ·cases q
end
noncomputable def Lk (T1:String) (f1:D->List D->MH->Option (D×MH)) (T2:String) (f2:D->List D->MH->Option (D×MH)) (mo:DM D) (mr:DM (List D)):DM D:=λloc mh=>match mo loc mh with
 | some (x,m1)=>if Qt T1 x m1 then Bo T1 f1 mo mr loc mh else Bo T2 f2 mo mr loc mh
 | none=>none
theorem Tw {X:Cx}{e:Expr}{T1 T2:String}{f1 f2:D->List D->MH->Option (D×MH)}{mo:DM D}{mr:DM (List D)}(h1:DE X e (Bo T1 f1 mo mr)) (h2:DE X e (Bo T2 f2 mo mr)):DE X e (Lk T1 f1 T2 f2 mo mr):=λloc mh=>by
 unfold Lk;split
 ·split
  ·exact h1 loc mh
  ·exact h2 loc mh
 ·exact Dq
section
variable {prog:Program}{w:World}{A:Around}{E:Value->Shared->Prop}{s:Shared}
end
inductive DEnts (w:World) (K:aj):List DictEntry->List (Str×D)->Prop
 | nil:DEnts w K [] []
 | cons {k:Str} {t:Tok} {u:Value} {v:V} {d:D} {es:List DictEntry} {kvs:List (Str×D)}:RelV v u->(∀ H ρ,RD K H ρ d v)->DEnts w K es kvs->DEnts w K ({ hash:=hashStr w k,key:=.str k t,val:=u }::es) ((k,d)::kvs)
structure DicOk (w:World) (K:aj) (a:Addr) (kvs:List (Str×D)):Prop where
 ns:(a==sysModules)=false
 ob:∃ o es ep,K.lookup a=some o/\o.ExactDict/\o.data=.dict es ep/\DEnts w K es.toList kvs
section
variable {X:Cx}{a:Addr}{kvs:List (Str×D)}
variable {e:Expr}{me:DM D}{x:Str}{p pos:Pos}
end
mutual
noncomputable def rdV (K:aj):Nat->Value->Option D
 | _,.none=>some .non
 | _,.bool b=>some (.bl b)
 | _,.int i _=>some (.int i)
 | _,.str x _=>some (.str x)
 | n+1,.ref a=>match K.lookup a with
  | some ⟨.type c,none,.seq its _,_⟩=>if c == "tuple"&&decide (its.size<=1000) then (match Nh K n its.toList with | some ds=>some (.tup ds) | none=>none) else none
  | _=>none
 | _,_=>none
noncomputable def Nh (K:aj):Nat->List Value->Option (List D)
 | _,[]=>some []
 | 0,_::_=>none
 | n+1,u::r=>match rdV K n u with
  | some d=>(match Nh K n r with | some ds=>some (d::ds) | none=>none)
  | none=>none
end
mutual
theorem fG {K:aj}:∀ (n:Nat) {u:Value}{d:D},rdV K n u=some d->∃ v,RelV v u/\∀ H ρ,RD K H ρ d v
 | n,.none,d,h=>by cases n <;> (simp only [rdV] at h;cases h;exact ⟨.non,rfl,λ_ _=>.non⟩)
 | n,.bool b,d,h=>by cases n <;> (simp only [rdV] at h;cases h;exact ⟨.bl b,rfl,λ_ _=>.bl b⟩)
 | n,.int i t,d,h=>by cases n <;> (simp only [rdV] at h;cases h;exact ⟨.int i,⟨t,rfl⟩,λ_ _=>.int i⟩)
 | n,.str x t,d,h=>by cases n <;> (simp only [rdV] at h;cases h;exact ⟨.str x,⟨t,rfl⟩,λ_ _=>.str x⟩)
 | 0,.ref a,d,h=>by simp only [rdV] at h;cases h
 | n+1,.ref a,d,h=>by
  simp only [rdV] at h;split at h
  ·rename_i c its ep sl hk;split at h
   ·rename_i hc;rw [au,decide_eq_true_iff] at hc;split at h
    ·rename_i ds hd;cases h;obtain ⟨vs,h1,h2⟩:=Xx n hd;refine ⟨.ref a,rfl,λH ρ=>.tup (.inr ⟨_,its,ep,hk,by rw [cj hc.1],rfl,rfl,?_,h1⟩) (h2 H ρ)⟩;rw [yj];omega
    ·cases h
   ·cases h
  ·cases h
 | n,.float _ _,d,h=>by cases n <;> (simp only [rdV] at h;cases h)
 | n,.bytes _ _,d,h=>by cases n <;> (simp only [rdV] at h;cases h)
 | n,.ellipsis,d,h=>by cases n <;> (simp only [rdV] at h;cases h)
 | n,.notImplemented,d,h=>by cases n <;> (simp only [rdV] at h;cases h)
 | n,.type _,d,h=>by cases n <;> (simp only [rdV] at h;cases h)
 | n,.builtin _,d,h=>by cases n <;> (simp only [rdV] at h;cases h)
theorem Xx {K:aj}:∀ (n:Nat) {us:List Value}{ds:List D},Nh K n us=some ds->∃ vs,Vals vs us/\∀ H ρ,RDs K H ρ ds vs
 | n,[],ds,h=>by cases n <;> (simp only [Nh] at h;cases h;exact ⟨[],.nil,λ_ _=>.nil⟩)
 | 0,_::_,ds,h=>by simp only [Nh] at h;cases h
 | n+1,u::r,ds,h=>by
  simp only [Nh] at h;split at h
  ·rename_i d hd;split at h
   ·rename_i ds' hr;cases h;obtain ⟨v,a1,a2⟩:=fG n hd;obtain ⟨vs,b1,b2⟩:=Xx n hr;exact ⟨v::vs,.cons a1 b1,λH ρ=>.cons (a2 H ρ) (b2 H ρ)⟩
   ·cases h
  ·cases h
end
section
variable {X:Cx}{o:Expr}{mo:DM D}{c f:Str}{C:Addr}{pos apos:Pos}
variable {CX:CXT}{k:Nat}{fa:Addr}{fd:FuncData}{ps:List Str}{m:Str}{g:List D->MH->Option (D×MH)}{e:Expr}{es:List Expr}{mr:DM (List D)}{E:XK}
end
noncomputable abbrev Fn:=List D->MH->Option (D×MH)
section
variable {X:Cx}{o:Expr}{mo:DM D}{f m:Str}{pos apos:Pos}
end
section
variable {X:Cx}
noncomputable def yM:List D->Option (Int×Int)
 | [.int i,.int j]=>some (i,j)
 | _=>none
theorem Zx {ds:List D}{z:Int×Int}(h:yM ds=some z):ds=[.int z.1,.int z.2]:=by
 match ds,h with
 | [d,e],h =>
  cases d with
  | int i =>
   cases e with
   | int j=>cases h;rfl
   | _=>cases h
  | _=>cases h
 | [],h=>cases h
 | [d],h=>cases d <;> cases h
 | d::e::_::_,h=>cases d <;> first | cases h | (cases e <;> cases h)
noncomputable def Xy (f:Int->List Int->Int) (g:Fn):Fn:=λds mh=>match yM ds with
 | some z=>some (.int (f z.1 [z.2]),mh)
 | none=>g ds mh
theorem Ni {v:Value}{f:Int->List Int->Int}{g:Fn}(h2:Br X v (λxs H Q=>∃ i j,xs=[.int i,.int j]/\Q (.int (f i [j])) H)) (hg:Br X v (rDs X.K g)):Br X v (rDs X.K (Xy f g)):=by
 rintro pins s σ H xs us Q I r ⟨ρ,mh,ds,d,mh',q,rs,rd,co⟩;unfold Xy at q;cases e:yM ds with
 | none=>rw [e] at q;exact hg pins s σ H xs us Q I r ⟨ρ,mh,ds,d,mh',q,rs,rd,co⟩
 | some z =>
  rw [e] at q;cases q;rw [Zx e] at rd;obtain ⟨v1,v2,rfl,r1,r2⟩:=Ac4 rd;cases r1;cases r2;exact h2 pins s σ H _ us Q I r ⟨_,_,rfl,co H ρ _ Ev.refl rs (.int _)⟩
noncomputable def fH:Fn:=Xy Nf maxD
noncomputable def fJ:Fn:=Xy Mf minD
theorem V0 (hc:X.calm=true):Br X (.builtin "max") (rDs X.K fH):=Ni (Y0 hc) (Zh hc)
theorem V1 (hc:X.calm=true):Br X (.builtin "min") (rDs X.K fJ):=Ni (Y4 hc) (Zi hc)
end
noncomputable def Ada (lo c:Int) (n:Nat):It:=⟨λi _=>i < n,λi H x H'=>H'=H/\x=.int (lo+i * c),λi _=>n<=i⟩
theorem Tz {P:Program}{w:World}{K:aj}{tg:Expr}(it:Addr) (lo c:Int) (n:Nat):Turn P w K tg (Ada lo c n) [it] it (λi h=>IsRangeIter h it (lo+(i:Nat) * c) ((n:Int) - (i:Nat)) c) where
 mem:=by simp
 obj:=λi h st b hb=>by
  have e:b=it:=by simpa using hb
  subst e
  exact ⟨_,st,λv z=>by
   have z':Data.fields _=Data.cell v:=z
   cases z'⟩
 keep:=λi h h' st k=>k it (by simp) _ st
 item:=by
  intro X hP hw hK hc i pins s σ H E I hf st hg;subst hP hw hK;obtain ⟨f0,f1,f2,f3,f4,f5⟩:=hf it (by simp);have W:=Walks.range (prog:=X.prog) (w:=X.w) (I.ok.hd hc) it lo c n;refine W.item i s _ _ hg st λv h' tk hv st' kk=>?_
  obtain ⟨t,rfl⟩:=hv;have I1:Inv X pins σ H { s with heap:=h',toks:=tk }:=I.turned (λb o hb e=>kk b o (by simpa using hb) e) f0 f1 f3 f4 f5
  exact ⟨_,rfl,Xa (s:={ s with heap:=h',toks:=tk }) (n := "range_iterator") st' rfl rfl (by decide) ⟨.int (lo+i * c),H,I1,⟨t,rfl⟩,⟨rfl,rfl⟩,st',λb hb=>(hf b hb).1⟩⟩
 done:=by
  intro X hP hw hK hc i pins s σ H E I hf st hg;subst hP hw hK;obtain ⟨f0,f1,f2,f3,f4,f5⟩:=hf it (by simp);exact JP (I.ok.hd hc) st (by have:n<=i:=hg;omega) λh' eb=>⟨rfl,I.turned (t':=s.toks) (λb o hb e=>eb b o hb e) f0 f1 f3 f4 f5⟩
 self:=λ_ _ _ _ _ st h=>JQ st h
noncomputable def Ey (lo c:Int) (n:Nat):List D:=(vg n).map λ(k:Nat)=>D.int (lo+(k:Int) * c)
theorem JR.rngS {K:aj}{H0:Hp}{ρ0:List Addr}{lo c:Int}{n:Nat}:JR K H0 ρ0 (.seq (Ey lo c n)) (Ada lo c n) where
 go:=λH ρ mh i d e rs q=>by
  have q:(Ey lo c n)[i]?=some d:=q;unfold Ey at q;rw [dj] at q
  by_cases hi:i < n
  ·rw [yq hi] at q;cases q;refine ⟨hi,?_⟩;rintro x H' ⟨h1,h2⟩;subst h1;subst h2;exact ⟨Ev.refl,rs,.int _⟩
  ·rw [KJ (by simp;omega)] at q;cases q
 stop:=λH ρ mh i e rs q=>by
  show n<=i;have q:(true&&decide ((Ey lo c n).length<=i))=true:=q;rw [gh] at q;have:=of_decide_eq_true q;unfold Ey at this
  simpa using this
noncomputable def J7 (a b c:Int):Nat:=(je a b c).toNat
theorem Xz {a b c:Int}(hc:0 < c):((J7 a b c:Nat):Int)=je a b c:=by
 unfold J7 je;rw [if_pos hc];split
 ·have:0<=(b - a - 1) / c:=Int.ediv_nonneg (by omega) (by omega);omega
 ·rfl
theorem Zy {a b c:Int}(h1:0 < c/\c < 1000) (ha:-1000000<=a/\a<=1000000) (hb:-1000000<=b/\b<=1000000):yt a b c=true:=by
 have h2:je a b c<=2000001:=by
  unfold je;rw [if_pos h1.1];split
  ·have:(b - a - 1) / c<=b - a - 1:=Int.ediv_le_self _ (by omega);omega
  ·omega
 have h3:0<=je a b c:=by rw [← Xz h1.1];omega
 unfold yt;simp only [FT,au,CQ,decide_eq_true_eq,beq_iff_eq,if_pos (show c > 0 from h1.1)];omega
theorem qM {a b c:Int}(hc:(0 < c/\c < 1000)\/c=-1):((J7 a b c:Nat):Int)=je a b c:=by
 rcases hc with hc|hc
 ·exact Xz hc.1
 subst hc;unfold J7 je;rw [if_neg (by decide)];split
 ·have:(a - b - 1) / -(-1)=a - b - 1:=by simp
  rw [this];omega
 ·rfl
theorem V2 {a b c:Int}(hc:(0 < c/\c < 1000)\/c=-1) (ha:-1000000<=a/\a<=1000000) (hb:-1000000<=b/\b<=1000000):yt a b c=true:=by
 rcases hc with hc|hc
 ·exact Zy hc ha hb
 subst hc;have h2:je a b (-1)<=2000001/\0<=je a b (-1):=by
  unfold je;rw [if_neg (by decide)];split
  ·have:(a - b - 1) / -(-1)=a - b - 1:=by simp
   rw [this];omega
  ·omega
 unfold yt;simp only [FT,au,CQ,decide_eq_true_eq,beq_iff_eq,if_neg (show ¬ ((-1:Int) > 0) by decide)];omega
section
variable {X:Cx}{tg:Expr}
noncomputable def Zz (ds:List D):Option Src:=match ds with
 | [.int i,.int j,.int c]=>if (0 < c/\c < 1000)/\(-1000000<=i/\i<=1000000)/\(-1000000<=j/\j<=1000000) then some (.seq (Ey i c (J7 i j c))) else if c=-1/\(-1000000<=i/\i<=1000000)/\(-1000000<=j/\j<=1000000) then some (.seq (Ey i c (J7 i j c))) else none
 | _=>none
theorem Z0 {ds:List D}{s:Src}(h:Zz ds=some s):∃ i j c,ds=[.int i,.int j,.int c]/\(((0 < c/\c < 1000)\/c=-1)/\(-1000000<=i/\i<=1000000)/\(-1000000<=j/\j<=1000000))/\s=.seq (Ey i c (J7 i j c)):=by
 unfold Zz at h;split at h
 ·rename_i i j c;split at h
  ·rename_i hj;cases h;exact ⟨i,j,c,rfl,⟨.inl hj.1,hj.2⟩,rfl⟩
  ·split at h
   ·rename_i hj;cases h;exact ⟨i,j,c,rfl,⟨.inr hj.1,hj.2⟩,rfl⟩
   ·cases h
 ·cases h
theorem Z1 {a b c:Expr}{mr:DM (List D)}{p pos:Pos}(hg:Gl X "range") (hm:X.mg "range"=none) (ha:DA X [a,b,c] mr) (he:starEach [a,b,c] X.env=(false,eval a X.env)::starEach [b,c] X.env) (hpl:(backTo pos (starEach [b,c] X.env)).any (·.1)=false) :
  DI X tg (.Call (.Name "range" p) [a,b,c] [] pos) (Ib Zz mr):=λloc mh=>by
 rintro pins s σ H R I ⟨ρ,src,mh',q,rl,rs,co⟩;obtain ⟨ds,ea,q⟩:=O4 q;obtain ⟨i,j,k,rfl,⟨hc,hi,hj⟩,e⟩:=Z0 q;have e:src=.seq (Ey i k (J7 i j k)):=e;subst e;refine Call_ (Kr I hg hm boot_range (PyProof.Rows.callWith_type1 (thn (ha loc mh pos pins s σ H (λvs H1=>∃ ρ1,Ev X.K H ρ H1 ρ1/\RS X.K H1 ρ1 mh'/\RDs X.K H1 ρ1 [.int i,.int j,.int k] vs) I ⟨ρ,_,mh',ea,rl,rs,λH1 ρ1 vs e1 rs1 r1=>⟨ρ1,e1,rs1,r1⟩⟩) ?_) he hpl));rintro us s1 ⟨vs,H1,I1,r,ρ1,e1,rs1,rd⟩;cases rd with
 | cons d1 rd =>
  obtain ⟨v2,v3,rfl,d2,d3⟩:=Ac4 rd;cases d1;cases d2;cases d3;cases r with
  | cons r1 rr =>
   obtain ⟨u2,u3,rfl,⟨t2,rfl⟩,⟨t3,rfl⟩⟩:=vals2 rr;obtain ⟨t1,rfl⟩:=r1
   refine call_range_3 (by omega) ?_ (.inl (PyProof.noPylong_of_log2 (by
    have h0:k.natAbs≠0:=by omega
    have:k.natAbs.log2 < 10:=(Nat.log2_lt h0).mpr (by omega)
    omega)))
   refine OJ (IsRange.new ..) (V2 hc hi hj) ?_
   have I2:Inv X pins σ H1 { s1 with heap:=s1.heap.push { cls:=.type "range",data:=.fields #[.int i t1,.int j t2,.int k t3] },toks:=s1.toks }:=I1.kept λb o e=>ak _ e
   refine ⟨(s1.heap.push { cls:=.type "range",data:=.fields #[.int i t1,.int j t2,.int k t3] }).objs.size,[(s1.heap.push { cls:=.type "range",data:=.fields #[.int i t1,.int j t2,.int k t3] }).objs.size],_,_,H1,rfl,
    I2.kept (t':=s1.toks) λb o e=>ak _ e,Tz _ i k (J7 i j k),?_,λb hb=>?_,co H1 ρ1 _ e1 rs1 JR.rngS⟩
   ·have e3:i+((0:Nat):Int) * k=i:=by simp
    have e2:((J7 i j k:Nat):Int) - ((0:Nat):Int)=je i j k:=by rw [qM hc];simp
    show IsRangeIter _ _ (i+((0:Nat):Int) * k) (((J7 i j k:Nat):Int) - ((0:Nat):Int)) k;rw [e3,e2];exact dh _ rfl
   ·have e:b=(s1.heap.push { cls:=.type "range",data:=.fields #[.int i t1,.int j t2,.int k t3] }).objs.size:=by simpa using hb
    subst e;exact I2.fpOk (cg _) (I2.hok.fresh (cg _))
end
section
variable {X:Cx}
end
section
variable {X:Cx}
noncomputable def Adb (k:Bool):Value->Bool
 | .bool b=>b==k
 | _=>false
noncomputable def obV:Option Bool->V
 | none=>.non
 | some b=>.bl b
noncomputable def Pb:Option Bool->Value
 | none=>.none
 | some b=>.bool b
noncomputable def obD:Option Bool->D
 | none=>.non
 | some b=>.bl b
noncomputable def Qz:List D->Option (List (Option Bool))
 | []=>some []
 | .bl b::r=>(Qz r).map (some b::·)
 | .non::r=>(Qz r).map (none::·)
 | _::_=>none
theorem K3:∀ {ds:List D}{bs:List (Option Bool)},Qz ds=some bs->ds=bs.map obD
 | [],bs,h=>by cases h;rfl
 | d::r,bs,h=>by
  cases d with
  | bl b =>
   have h:(Qz r).map (some b::·)=some bs:=h;cases q:Qz r with
   | none=>rw [q] at h;cases h
   | some l=>rw [q] at h;cases h;rw [K3 q];rfl
  | non =>
   have h:(Qz r).map (none::·)=some bs:=h;cases q:Qz r with
   | none=>rw [q] at h;cases h
   | some l=>rw [q] at h;cases h;rw [K3 q];rfl
  | _=>cases h
theorem Q0 {K:aj}{H:Hp}{ρ:List Addr}:∀ {bs:List (Option Bool)}{xs:List V},RDs K H ρ (bs.map obD) xs->xs=bs.map obV
 | [],_,.nil=>rfl
 | none::r,_,.cons h t=>by
  cases h;rw [Q0 t];rfl
 | some b::r,_,.cons h t=>by
  cases h;rw [Q0 t];rfl
theorem Nj:∀ {bs:List (Option Bool)}{its:List Value},Vals (bs.map obV) its->its=bs.map Pb
 | [],_,.nil=>rfl
 | none::r,_,.cons h t=>by
  cases h;rw [Nj t];rfl
 | some b::r,_,.cons h t=>by
  cases h;rw [Nj t];rfl
theorem Q5 (k:Bool):∀ bs:List (Option Bool),(bs.map Pb).countP (Adb k)=bs.countP (·==some k)
 | []=>rfl
 | none::r=>by
  rw [mq,wg,wg,Q5 k r];rfl
 | some b::r=>by
  rw [mq,wg,wg,Q5 k r];rfl
noncomputable def yN:List D->Option Bool
 | [.bl k]=>some k
 | _=>none
theorem Z2 {ds:List D}{k:Bool}(h:yN ds=some k):ds=[.bl k]:=by
 match ds,h with
 | [d],h =>
  cases d with
  | bl b=>cases h;rfl
  | _=>cases h
 | [],h=>cases h
 | d::_::_,h=>cases d <;> cases h
noncomputable def fK:D->MH->Option (List D)
 | .ref n,mh=>match mh[n]? with | some (.lst ds)=>some ds | _=>none
 | _,_=>none
theorem V3 {x:D}{mh:MH}{ds:List D}(h:fK x mh=some ds):∃ n,x=.ref n/\mh[n]?=some (.lst ds):=by
 cases x with
 | ref n =>
  have h:(match mh[n]? with | some (.lst ds)=>some ds | _=>none)=some ds:=h;cases e:mh[n]? with
  | none=>rw [e] at h;cases h
  | some o =>
   cases o with
   | lst es=>rw [e] at h;cases h;exact ⟨n,rfl,e⟩
   | dct kvs=>rw [e] at h;cases h
   | dtk kvs=>rw [e] at h;cases h
   | plc=>rw [e] at h;cases h
   | plq=>rw [e] at h;cases h
   | plw=>rw [e] at h;cases h
   | plr=>rw [e] at h;cases h
   | fzd=>rw [e] at h;cases h
 | _=>cases h
noncomputable def X3 (x:D) (as:List D) (mh:MH):Option (D×MH):=match yN as with
 | none=>Zv x as mh
 | some k=>match fK x mh with
  | none=>none
  | some ds=>match Qz ds with
   | some bs=>some (.int (bs.countP (·==some k):Nat),mh)
   | none=>none
theorem fL:MtR X "list.count" (rDM X.K X3):=by
 rintro pins s σ H x xs v us Q I rx rv ⟨ρ,mh,dx,ds,d,mh',q,rs,r1,r2,co⟩;unfold X3 at q;cases e1:yN ds with
 | none=>rw [e1] at q;exact qL pins s σ H x xs v us Q I rx rv ⟨ρ,mh,dx,ds,d,mh',q,rs,r1,r2,co⟩
 | some k =>
  rw [e1] at q;have e1:=Z2 e1;subst e1;cases e2:fK dx mh with
  | none=>rw [e2] at q;cases q
  | some es =>
   rw [e2] at q;dsimp only at q;cases e3:Qz es with
   | none=>rw [e3] at q;cases q
   | some bs =>
    rw [e3] at q;cases q;obtain ⟨nn,rfl,em⟩:=V3 e2;obtain ⟨y,rfl,ry⟩:=Kz r2;cases ry;obtain ⟨u,rfl,ru⟩:=rv.one;cases ru;cases r1 with
    | @ref _ a h =>
     cases rx;obtain ⟨a',ha,ro⟩:=rs.at em;rw [h] at ha;cases ha;obtain ⟨ws,sq,rr⟩:=ro.read;have rr:RDs X.K H ρ es ws:=rr;rw [K3 e3] at rr;rw [Q0 rr] at sq;obtain ⟨its,rvv,pl,hz⟩:=I.list sq;have hi:=Nj rvv;subst hi;obtain ⟨⟨cls,dd,data,sl⟩,n,ho,hc,hdd,hd⟩:=id pl;simp only at hc hd;subst hc hd;refine LK BJ ⟨_,ho,rfl⟩ IK (HB _ _) (IV a (bs.map Pb).toArray n dd sl (.bool k) (Adb k)) ⟨ho,λy hy=>?_,?_⟩
     ·have hy:y∈bs.map Pb:=by simpa using hy
      obtain ⟨b,_,rfl⟩:=gj.mp hy;cases b with
      | none=>exact PySem.SeqAt.EqAt.none_bool k
      | some b=>exact PySem.SeqAt.EqAt.bool_bool b k
     ·rw [show (bs.map Pb).toArray.toList=bs.map Pb from rfl,Q5 k bs];exact ⟨.int _,H,I.tok _,⟨_,rfl⟩,co H ρ _ Ev.refl rs (.int _)⟩
noncomputable def intD:Fn:=λds mh=>match ds with
 | [x]=>(match x with
  | .int i=>some (.int i,mh)
  | .bl b=>some (.int (if b then 1 else 0),mh)
  | _=>none)
 | _=>none
theorem Z3:Br X (.type "int") (rDs X.K intD):=by
 rintro pins s σ H xs us Q I r ⟨ρ,mh,ds,d,mh',q,rs,rd,co⟩
 match ds,q with
 | [x],q =>
  obtain ⟨v,rfl,rx⟩:=Kz rd;cases x with
  | int i=>cases q;cases rx;exact Om pins s σ H _ us Q I r (.inl ⟨i,rfl,co H ρ _ Ev.refl rs (.int _)⟩)
  | bl b=>cases q;cases rx;exact Om pins s σ H _ us Q I r (.inr ⟨b,rfl,co H ρ _ Ev.refl rs (.int _)⟩)
  | _=>cases q
 | [],q=>cases q
 | _::_::_,q=>cases q
end
end DL
namespace DL
open PySem PySem.Spec PyProof.Rows L2
open MeetsSeq MeetsSeq2 MeetsSeq3 SeqRoads2
section
variable {A:Around}{s:Shared}
end
end DL
namespace DL
open PySem PySem.Spec PyProof.Rows L2
section
variable {X:Cx}
end
noncomputable def Q6:Fn:=λds mh=>match ds with
 | [x]=>match Dn x mh with
  | some es=>match intsOf es with
   | some ns=>some (.int ns.sum,mh)
   | none=>none
  | none=>none
 | _=>none
theorem Z4 {ds:List D}{mh mh':MH}{d:D}(h:Q6 ds mh=some (d,mh')):∃ (x:D) (ns:List Int),ds=[x]/\Dn x mh=some (ns.map D.int)/\d=.int ns.sum/\mh'=mh:=by
 match ds,h with
 | [x],h =>
  have h:(match Dn x mh with | some es=>(match intsOf es with | some ns=>some (D.int ns.sum,mh) | none=>none) | none=>none)=some (d,mh'):=h;cases e1:Dn x mh with
  | none=>rw [e1] at h;cases h
  | some es =>
   rw [e1] at h;dsimp only at h;cases e2:intsOf es with
   | none=>rw [e2] at h;cases h
   | some ns=>rw [e2] at h;cases h;exact ⟨x,ns,rfl,by rw [Eu e2] at e1;exact e1,rfl,rfl⟩
 | [],h=>cases h
 | _::_::_,h=>cases h
theorem Ln (ns:List Int):∀ k,k<=ns.length->preSum (λi=>(ns[i]?).getD 0) k=(ns.take k).sum
 | 0,_=>by simp [preSum]
 | k+1,h=>by
  have e:ns[k]?=some ns[k]:=bw (by omega);rw [preSum,Ln ns k (by omega),mj,e,List.sum_append];simp
theorem Z5 {X:Cx}(hc:X.calm=true):Br X (.builtin "sum") (rDs X.K Q6):=by
 rintro pins s σ H xs us Q I r ⟨ρ,mh,ds,d,mh',q,rs,rd,co⟩;obtain ⟨x,ns,rfl,e,rfl,rfl⟩:=Z4 q;obtain ⟨v,rfl,rx⟩:=Kz rd;obtain ⟨u,rfl,ru⟩:=vals1 r;obtain ⟨p,ys,rfl,hq,ry⟩:=Hf rs rx e;cases ru;rw [J3 ry] at hq;refine call_sum_walkG (M9 I (A:=X.A.in1) (I.ok.hd hc) hq λits St h2 rv W st hfp hk=>?_);have hlen:ns.length=its.length:=by have:=rv.length;simpa using this
 refine ⟨_,_,_,its.length,_,St,λi=>(ns[i]?).getD 0,rfl,W,st,hfp,λi v hi=>?_,λh' tk t' hk'=>?_⟩
 ·obtain ⟨a,t,e1,rfl⟩:=Ig rv hi;exact ⟨t,by show _=Value.int ((ns[i]?).getD 0) t;rw [e1];rfl⟩
 ·rw [Ln ns _ (by omega),← hlen,nu];exact ⟨.int _,H,I.kept (t':=tk) (Nb hk' hk),⟨t',rfl⟩,co H ρ _ Ev.refl rs (.int _)⟩
noncomputable def Ae9:D->Option Key
 | .int i=>some (.inl i)
 | .str x=>some (.inr x)
 | _=>none
noncomputable def keyB:Key->Key->Bool
 | .inl i,.inl j=>i==j
 | .inr x,.inr y=>x==y
 | _,_=>false
noncomputable def Adc:List (Key×D)->Key->Option D
 | [],_=>none
 | p::r,k=>if keyB p.1 k=true then some p.2 else Adc r k
section
variable {K:aj}{H H':Hp}{ρ ρ':List Addr}
noncomputable def RK (K:aj) (H:Hp) (ρ:List Addr) (kvs:List (Key×D)) (xs:List (Key×V)):Prop:=xs.map (·.1)=kvs.map (·.1)/\RDs K H ρ (kvs.map (·.2)) (xs.map (·.2))
theorem RK.nil:RK K H ρ [] []:=⟨rfl,.nil⟩
theorem RS.newD {mh:MH}{p:Addr}{xs:List (Key×V)}{kvs:List (Key×D)}(h:RS K H ρ mh) (hp:H p=none) (r:RK K H ρ kvs xs):RS K (upd H p (.dK xs)) (ρ++[p]) (mh++[.dct kvs]):=by
 have hnp:p ∉ ρ:=λz=>by
  obtain ⟨o,q⟩:=h.tracked z;rw [hp] at q;cases q
 refine ⟨by rw [bh,bh,h.len];rfl,?_,λn a ob e1 e2=>?_⟩
 ·rw [vd]
  exact ⟨h.nd,zx _ _,λa ha b hb z=>by
   rw [jg.mp hb] at z;rw [z] at ha;exact hnp ha⟩
 ·by_cases hn:n < ρ.length
  ·rw [dw hn] at e1;rw [dw (by rw [← h.len];exact hn)] at e2;refine (h.obj n a ob e1 e2).mono (Ev.newL hp) ?_;obtain ⟨oo,q⟩:=h.tracked (di e1);rw [Ac (Ad q hp)]
  ·rw [gb (by omega)] at e1;rw [gb (by rw [← h.len];omega)] at e2;have n0:n - ρ.length=0:=by
    have:=(bf.mp e1).1;simp at this;omega
   rw [n0] at e1;rw [← h.len,n0] at e2;cases e1;cases e2;exact ⟨xs,Ai,r.1,r.2.mono (Ev.newL hp)⟩
end
noncomputable def Afa (kvs:List (PyData×D)) (k:PyData):Option D:=(kvs.find? λe=>decide (e.1=k)).map (·.2)
noncomputable def kD (d:D):Option PyData:=match py [] 8 d with
 | some (.tuple ks)=>if kCl (.tuple ks)=true then some (.tuple ks) else none
 | _=>none
section
variable {X:Cx}{pins:List (Addr×Obj)}{σ:St}{s:Shared}{mh:MH}
end
section
variable {K:aj}{H:Hp}{ρ:List Addr}
end
noncomputable def Afb (kvs:List (Key×D)) (y:D):Option (Option D):=match Ae9 y with
 | some k=>some (Adc kvs k)
 | none=>if kvs.isEmpty then (match kD y with | some _=>some none | none=>none) else none
noncomputable def Ph (x:D) (mh:MH):Option (D->Option (Option D)):=match x with
 | .ref n=>(match mh[n]? with | some (.dct kvs)=>some (Afb kvs) | some (.dtk kvs)=>some (λy=>(kD y).map (Afa kvs)) | _=>none)
 | _=>none
theorem Z6 {n:Nat}{mh:MH}{ds:List D}(h:mh[n]?=some (.lst ds)):Ph (.ref n) mh=none:=by
 unfold Ph;simp only [h]
noncomputable def inD (neg:Bool) (x c:D) (mh:MH):Option (D×MH):=match Ph c mh with
 | none=>xW neg x c mh
 | some _=>none
noncomputable def ixD (x y:D) (mh:MH):Option (D×MH):=match Ph x mh with
 | none=>cY x y mh
 | some _=>none
section
variable {X:Cx}
theorem yO (hu:X.A.units+64 < cLine):OpR X (compareOp .In) (rD X.K (inD false)):=by
 rintro pins s σ H x y v u Q I rx ry ⟨ρ,mh,dx,dy,d,mh',q,rs,r1,r2,co⟩;unfold inD at q;split at q
 ·exact pL hu pins s σ H x y v u Q I rx ry ⟨ρ,mh,dx,dy,d,mh',q,rs,r1,r2,co⟩
 ·cases q
theorem Afc (hu:X.A.units+64 < cLine):IxR X (rD X.K ixD):=by
 rintro value slice pins s σ H x y v u Q I rx ry ⟨ρ,mh,dx,dy,d,mh',q,rs,r1,r2,co⟩ hs;unfold ixD at q;split at q
 ·exact Ac2 value slice pins s σ H x y v u Q I rx ry ⟨ρ,mh,dx,dy,d,mh',q,rs,r1,r2,co⟩ hs
 ·cases q
noncomputable def Afd:Const->Option Str
 | .str x=>some x
 | _=>none
noncomputable def Afe:Expr->Option Str
 | .Constant c _ _=>Afd c
 | _=>none
noncomputable def Afg:Option Expr->Option Str
 | some e=>Afe e
 | none=>none
noncomputable def uG:List (Option Expr)->List Expr->Bool
 | [],[]=>true
 | k::ks,_::vs=>(Afg k).isSome&&uG ks vs
 | _,_=>false
end
section
variable {X:Cx}{a:Addr}{kvs:List (Str×D)}
variable {e:Expr}{es:List Expr}{x:Str}{p apos cpos:Pos}
end
section
variable {X:Cx}{pos pos':Pos}
end
noncomputable def spL (a:Addr) (fd:FuncData):Sp:=λvs H Q _=>vs.length=2/\(∃ o u,H a=some (.frz o u)/\o.data=.func fd)/\H9 H fd.code fd.qualname/\∀ t,H t=none->Q (.ref t) (upd H t (.tup vs))
theorem yP {P:Program}{w:World}{K:aj}{mg:Str->Option Value}{base:Heap}{a:Addr}{fd:FuncData}(L:Xg fd):∃ x y,FnOk P w K mg base CX0 1 a fd [x,y] (spL a fd)/\∀ u v,bindArgs fd ⟨[u,v],[]⟩=pure [(x,u),(y,v)]:=by
 obtain ⟨name,qual,ps,x,y,p,q,pt,k,sc,pm,cdv,ct,rfl,S,d1,d2,d3,d4,bind⟩:=L;refine ⟨x,y,⟨λvs H Q E h=>h.1,λA outer s H args us vs Q E hr e0 hb r hsp=>?_⟩,bind⟩;obtain ⟨hl,⟨o,u,ho,hd⟩,⟨c,oc,u2,fs,tq,e1,e2,e3,e4⟩,hQ⟩:=hsp;have lim:s.heap.NoLimit:=e0.mod.nolimit.keeps λb o e=>(e0.bs b o e).1
 have hkind:∀ z∈[x,y].zip us,sc.names.lookup z.1=some .local\/(sc.names.lookup z.1=some .cell/\((cellsFrom (s.heap.objs.size+1) sc.names []).lookup z.1).isSome=true):=by
  rintro ⟨n,v⟩ hy;rcases S.par n (nj hy).1 with q|q
  ·exact .inl q
  ·exact .inr ⟨q,qm _ _ _ (.inl q)⟩
 refine LR hr.depth (e0.hok a _ ho).1 hd S.co S.gen rfl ⟨c,oc,fs,tq,e1,(e0.hok c _ e2).1,e3,e4⟩ (hb _ _ _ _ ?_);refine yg S.kind hkind λenv he s1 xx=>?_
 subst he;refine ⟨lim.keeps xx.toInCall.keep,MF ?_⟩;have I:Inv (Jw CX0 P w K mg base [x,y] qual sc a cdv A outer s H E) [] (start [x,y] vs) H s1:=Ks S hr.hd e0 hl r xx;have vis:∀ z∈[x,y],Vis sc z:=λz hz=>(S.par z hz).elim .inl λh=>.inr (.inl h)
 have pe:PE (Jw CX0 P w K mg base [x,y] qual sc a cdv A outer s H E) (.Tuple [.Name x p,.Name y q] k pt) (Ack (bZ (vD 0) (bZ (vD 1) oJ))) :=
  cA (G8 (Kq rfl (vis x (by simp)) d1 d2) (G8 (Kq rfl (vis y (by simp)) d3 d4) Vi))
 obtain ⟨v1,v2,rfl⟩:∃ v1 v2,vs=[v1,v2]:=by
  match vs,hl with
  | [v1,v2],_=>exact ⟨v1,v2,rfl⟩
 refine qb (pe [] s1 _ H Q I ⟨v1,rfl,v2,rfl,by show 2<=sizeLine;decide,hQ⟩) (λv s' h=>?_) λe s' h=>h
 obtain ⟨v',H',J,rv,q'⟩:=h;exact ⟨v',H',J.os,J.bare,J.base,J.hok,rv,q'⟩
section
variable {X:Cx}
theorem Q7 {a:Addr}{o:Obj}{h:Heap}(e:h.get? a=some o):PySem.W.Frag.In [(a,o)] h:=λb ob q=>by
 by_cases hb:b=a
 ·subst hb;simp at q;subst q;exact e
 ·have:(b==a)=false:=by simpa using hb
  simp [yo,this] at q
theorem V4 {i:Nat}{x:Str}{p pos:Pos}{e:Expr}{es:List Expr}{t:TA}{E:XK}
  (hr:Room 1 X.A) (hN:X.N[i]?=some x) (hv:Vis X.env.scope x) (hx:Dj CX0 X E)
  (ha:PA X (e::es) t) (hdb:(x==("__debug__":Str))=false) (hcd:(x==("__classdict__":Str))=false) (he:starEach (e::es) X.env=(false,eval e X.env)::starEach es X.env) (hpl:(backTo pos (starEach es X.env)).any (·.1)=false) :
  PE X (.Call (.Name x p) (e::es) [] pos) (λσ H Q=>∃ a o fd,σ[i]?=some (some (.ref a))/\Xg fd/\o.data=.func fd/\(∃ u,H a=some (.frz o u))/\t σ H λvs H1=>(∃ u,H1 a=some (.frz o u))/\spL a fd vs H1 Q E):=by
 intro pins s σ H Q I h;obtain ⟨a,o,fd,h3,L,ho,h5,h4⟩:=h;refine qd (thn (Kq hN hv hdb hcd pins s σ H (λv H1=>v=.ref a/\(∃ u,H1 a=some (.frz o u))/\t σ H1 λvs H1=>(∃ u,H1 a=some (.frz o u))/\spL a fd vs H1 Q E) I ⟨_,h3,rfl,h5,h4⟩) ?_);rintro u s1 ⟨v,H1,I1,rv,rfl,⟨u1,g1⟩,q⟩;cases (show u=Value.ref a from rv);obtain ⟨x1,y1,F,bind⟩:=yP (P:=X.prog) (w:=X.w) (K:=X.K) (mg:=X.mg) (base:=X.base) (a:=a) L;have hk:jm [(a,o)] (.ref a)=true:=by
  obtain ⟨oc,od,dd,sl⟩:=o;cases ho;simp [jm]
 refine za (K:=[(a,o)]) (h₀:=s1.heap) (Q7 (I1.hok a _ g1).1) hk (thn (ha pos pins s1 σ H1 _ I1 q) λus s2 ⟨vs,H2,I2,r,⟨uf,hf⟩,q2⟩=>⟨Q7 (I2.hok a _ hf).1,?_⟩) he hpl;refine Mx (ds:=[]) (dvs:=[]) F hr ?_ .nil hx I2 r (by rw [ni];exact q2);intro s us hk hl;obtain ⟨u1,u2,rfl⟩:∃ u1 u2,us=[u1,u2]:=by
  match us,(show us.length=2 by simpa using hl) with
  | [u1,u2],_=>exact ⟨u1,u2,rfl⟩
 exact .of_eq (bind u1 u2)
noncomputable def lamP (ds:List D) (mh:MH):Option (D×MH):=match ds with
 | [a,b]=>some (.tup [a,b],mh)
 | _=>none
theorem V5 {i:Nat}{x:Str}{p pos:Pos}{a:Expr}{es:List Expr}{mr:DM (List D)}{loc:DL.Loc}{mh:MH}
  (hr:Room 1 X.A) (hN:X.N[i]?=some x) (hv:Vis X.env.scope x) (hx:Dj CX0 X E0) (ha:DA X (a::es) mr)
  (hdb:(x==("__debug__":Str))=false) (hcd:(x==("__classdict__":Str))=false) (he:starEach (a::es) X.env=(false,eval a X.env)::starEach es X.env) (hpl:(backTo pos (starEach es X.env)).any (·.1)=false) (el:loc[i]?=some (some .lam)) :
  PE X (.Call (.Name x p) (a::es) [] pos) (tD X.K loc mh ((mr.bnd λds=>Zl (lamP ds)) loc mh)):=by
 refine Bt (V4 hr hN hv hx (ha loc mh) hdb hcd he hpl) ?_;rintro σ H Q ⟨ρ,d,mh',q,rl,rs,co⟩;obtain ⟨ds,m1,ea,q⟩:=Al q;obtain ⟨v,e1,r⟩:=rl.2 i _ el;cases r with
 | @lam ad L =>
  obtain ⟨o,u,fd,h1,h2,h3,h4⟩:=L;refine ⟨ad,o,fd,e1,h3,h2,⟨u,h1⟩,ρ,ds,m1,ea,rl,rs,λH1 ρ1 vs e1 rs1 r1=>⟨⟨u,e1.frz _ _ _ h1⟩,?_⟩⟩;unfold Zl lamP at q;split at q
  ·rename_i a b;cases q;exact ⟨by rw [← r1.length];rfl,⟨o,u,e1.frz _ _ _ h1,h2⟩,h4.mono e1.frz,Co.newT rs1 r1 (co.ev e1)⟩
  ·cases q
end
noncomputable abbrev T3:=CloI->List D->List D->MH->Option (D×MH)
noncomputable def spC (K:aj) (a:Addr) (I:CloI) (fd:FuncData) (cl:List (Str×Addr)) (g:List D->List D->MH->Option (D×MH)):Sp:=λvs H Q _=>vs.length=I.ps.length/\(∃ o u,H a=some (.frz o u)/\o.data=.func fd)/\H9 H fd.code fd.qualname/\cl.map (·.1)=I.fr/\(cl.map (·.2)).Nodup /\
 ∃ xs ys,Jy H I fd xs ys/\Bu H (cl.map (·.2)) ys/\∃ ρ mh fs ds d mh',g fs ds mh=some (d,mh')/\RS K H ρ mh/\RDs K H ρ fs xs/\RDs K H ρ ds vs/\∀ H' ρ' v,Ev K H ρ H' ρ'->RS K H' ρ' mh'->RD K H' ρ' d v->Q v H'
noncomputable def T4 (P:Program) (w:World) (K:aj) (mg:Str->Option Value) (base:Heap) (k:Nat) (clo:T3):Prop:=(∀ I a fd cl,CloSc I->Xi I fd cl->FnOk P w K mg base CX0 k a fd I.ps (spC K a I fd cl (clo I)))/\∀ I fs ds mh r,clo I fs ds mh=some r->ds.length=I.ps.length
theorem fM {P:Program}{w:World}{K:aj}{mg:Str->Option Value}{base:Heap}{k:Nat}:T4 P w K mg base k (λ_ _ _ _=>none) :=
 ⟨λI a fd cl _ _=>⟨λvs H Q E h=>h.1,λA outer s H args us vs Q E _ _ _ _ h=>by
  obtain ⟨_,_,_,_,_,_,_,_,_,_,_,_,_,_,_,q,_⟩:=h
  cases q⟩,λI fs ds mh r h=>by cases h⟩
section
variable {X:Cx}
theorem V6 {k i:Nat}{clo:T3}{x:Str}{p pos:Pos}{e:Expr}{es:List Expr}{t:TA}{E:XK}
  (F:T4 X.prog X.w X.K X.mg X.base k clo) (hr:Room k X.A) (hN:X.N[i]?=some x) (hv:Vis X.env.scope x) (hx:Dj CX0 X E)
  (ha:PA X (e::es) t) (hdb:(x==("__debug__":Str))=false) (hcd:(x==("__classdict__":Str))=false) (he:starEach (e::es) X.env=(false,eval e X.env)::starEach es X.env) (hpl:(backTo pos (starEach es X.env)).any (·.1)=false) :
  PE X (.Call (.Name x p) (e::es) [] pos) (λσ H Q=>∃ a o fd cl I,σ[i]?=some (some (.ref a))/\CloSc I/\Xi I fd cl/\o.data=.func fd/\(∃ u,H a=some (.frz o u))/\t σ H λvs H1=>(∃ u,H1 a=some (.frz o u))/\spC X.K a I fd cl (clo I) vs H1 Q E):=by
 intro pins s σ H Q I h;obtain ⟨a,o,fd,cl,ci,h3,L1,L2,ho,h5,h4⟩:=h;refine qd (thn (Kq hN hv hdb hcd pins s σ H (λv H1=>v=.ref a/\(∃ u,H1 a=some (.frz o u))/\t σ H1 λvs H1=>(∃ u,H1 a=some (.frz o u))/\spC X.K a ci fd cl (clo ci) vs H1 Q E) I ⟨_,h3,rfl,h5,h4⟩) ?_);rintro u s1 ⟨v,H1,I1,rv,rfl,⟨u1,g1⟩,q⟩;cases (show u=Value.ref a from rv);have hk:jm [(a,o)] (.ref a)=true:=by
  obtain ⟨oc,od,dd,sl⟩:=o;cases ho;simp [jm]
 refine za (K:=[(a,o)]) (h₀:=s1.heap) (Q7 (I1.hok a _ g1).1) hk (thn (ha pos pins s1 σ H1 _ I1 q) λus s2 ⟨vs,H2,I2,r,⟨uf,hf⟩,q2⟩=>⟨Q7 (I2.hok a _ hf).1,?_⟩) he hpl;refine Mx (ds:=[]) (dvs:=[]) (F.1 ci a fd cl L1 L2) hr ?_ .nil hx I2 r (by rw [ni];exact q2);intro s us hk hl;obtain ⟨_,bind⟩:=L2;rw [ni] at hl ⊢;exact .of_eq (bind us hl)
theorem V7 {k i:Nat}{clo:T3}{ci:CloI}{fs:List D}{x:Str}{p pos:Pos}{a:Expr}{es:List Expr}{mr:DM (List D)}{loc:DL.Loc}{mh:MH}
  (F:T4 X.prog X.w X.K X.mg X.base k clo) (hr:Room k X.A) (hN:X.N[i]?=some x) (hv:Vis X.env.scope x) (hx:Dj CX0 X E0) (ha:DA X (a::es) mr)
  (hdb:(x==("__debug__":Str))=false) (hcd:(x==("__classdict__":Str))=false) (he:starEach (a::es) X.env=(false,eval a X.env)::starEach es X.env) (hpl:(backTo pos (starEach es X.env)).any (·.1)=false) (el:loc[i]?=some (some (.clo ci fs))) :
  PE X (.Call (.Name x p) (a::es) [] pos) (tD X.K loc mh ((mr.bnd λds=>Zl (clo ci fs ds)) loc mh)):=by
 refine Bt (V6 F hr hN hv hx (ha loc mh) hdb hcd he hpl) ?_;rintro σ H Q ⟨ρ,d,mh',q,rl,rs,co⟩;obtain ⟨ds,m1,ea,q⟩:=Al q;obtain ⟨v,e1,r⟩:=rl.2 i _ el;cases r with
 | @clo _ _ ad xs L rf =>
  obtain ⟨o,u,fd,cl,h1,h2,h3,h4,h5,h6,h7,ys,h8,h9⟩:=L;refine ⟨ad,o,fd,cl,ci,e1,h3,h4,h2,⟨u,h1⟩,ρ,ds,m1,ea,rl,rs,λH1 ρ1 vs e1 rs1 r1=>⟨⟨u,e1.frz _ _ _ h1⟩,?_⟩⟩;exact ⟨by rw [← r1.length];exact F.2 _ _ _ _ _ q,⟨o,u,e1.frz _ _ _ h1,h2⟩,h5.mono e1.frz,h6,h7,xs,ys,h8.mono e1.frz,h9.mono e1.frz,ρ1,m1,fs,ds,d,mh',q,rs1,rf.mono e1,r1,co.ev e1⟩
end
section
variable {X:Cx}
theorem fO {CX:CXT}{k i:Nat}{fa:Addr}{fd:FuncData}{ps:List Str}{sp:Sp}{ds:List Value}{dvs:List V}{x:Str}{p pos:Pos}{e:Expr}{es:List Expr}{t:TA}{E:XK}
  (F:FnOk X.prog X.w X.K X.mg X.base CX k fa fd ps sp) (hr:Room k X.A) (hN:X.N[i]?=some x) (hv:Vis X.env.scope x) (hk:jm X.K (.ref fa)=true) (hb:Binds X.K fd ps ds) (hd:Vals dvs ds) (hx:Dj CX X E)
  (ha:PA X (e::es) t) (hdb:(x==("__debug__":Str))=false) (hcd:(x==("__classdict__":Str))=false) (he:starEach (e::es) X.env=(false,eval e X.env)::starEach es X.env) (hpl:(backTo pos (starEach es X.env)).any (·.1)=false) :
  PE X (.Call (.Name x p) (e::es) [] pos) (λσ H Q=>∃ y a,gn X.K mainGlobals y=some (some (.ref a))/\X.mg y=some (.ref fa)/\σ[i]?=some (some (.ref a))/\Xc sp dvs E t σ H Q):=by
 intro pins s σ H Q I h;obtain ⟨y,a,h1,h2,h3,h4⟩:=h;have e1:=ux I.kIn (I.mod.glob.keeps I.bk) h1;rw [h2] at e1;cases e1;refine qd (thn (Kq hN hv hdb hcd pins s σ H (λv H1=>v=.ref fa/\Xc sp dvs E t σ H1 Q) I ⟨_,h3,rfl,h4⟩) ?_);rintro u s1 ⟨v,H1,I1,rv,rfl,q⟩;cases (show u=Value.ref fa from rv);refine za (h₀:=X.base) I1.ok.mod.kin hk (thn (ha pos pins s1 σ H1 _ I1 q) λus s2 ⟨vs,H2,I2,r,q2⟩=>⟨I2.kIn,?_⟩) he hpl;exact Mx F hr hb hd hx I2 r q2
noncomputable def Ff (cal:Str->Option (List Str×Fn)) (clo:T3) (i:Nat) (mr:DM (List D)):DM D:=λloc mh=>match loc[i]? with
 | some (some (.fn y))=>(match cal y with
  | some (_,g)=>(mr.bnd λds=>Zl (g ds)) loc mh
  | none=>none)
 | some (some .lam)=>(mr.bnd λds=>Zl (lamP ds)) loc mh
 | some (some (.clo I fs))=>(mr.bnd λds=>Zl (clo I fs ds)) loc mh
 | _=>none
theorem fP {cal:Str->Option (List Str×Fn)}{clo:T3}{k i:Nat}{x:Str}{p pos:Pos}{a:Expr}{es:List Expr}{mr:DM (List D)}(k1:1<=k)
  (hc:∀ y ps f,cal y=some (ps,f)->∃ fa fd,X.mg y=some (.ref fa)/\jm X.K (.ref fa)=true/\Binds X.K fd ps []/\FnOk X.prog X.w X.K X.mg X.base CX0 k fa fd ps (spD X.K ps.length f)/\∀ ds mh r,f ds mh=some r->ds.length=ps.length)
  (hcl:T4 X.prog X.w X.K X.mg X.base k clo) (hr:Room k X.A) (hN:X.N[i]?=some x) (hv:Vis X.env.scope x) (hx:Dj CX0 X E0) (ha:DA X (a::es) mr)
  (hdb:(x==("__debug__":Str))=false) (hcd:(x==("__classdict__":Str))=false) (he:starEach (a::es) X.env=(false,eval a X.env)::starEach es X.env) (hpl:(backTo pos (starEach es X.env)).any (·.1)=false) :
  DE X (.Call (.Name x p) (a::es) [] pos) (Ff cal clo i mr):=λloc mh=>by
 unfold Ff;split
 ·rename_i y el;split
  ·rename_i ps f ec;obtain ⟨fa,fd,h1,h2,h3,h4,h5⟩:=hc y ps f ec;refine Bt (fO h4 hr hN hv h2 h3 .nil hx (ha loc mh) hdb hcd he hpl) ?_;rintro σ H Q ⟨ρ,d,mh',q,rl,rs,co⟩;obtain ⟨ds,m1,ea,q⟩:=Al q;obtain ⟨v,e1,r⟩:=rl.2 i _ el;cases r with
   | @fn _ ad hn =>
    refine ⟨y,ad,hn,h1,e1,ρ,ds,m1,ea,rl,rs,λH1 ρ1 vs e1 rs1 r1=>?_⟩;show spD X.K ps.length f (vs++[]) H1 Q E0;rw [ni];exact ⟨by rw [← r1.length];exact h5 _ _ _ q,ρ1,m1,ds,d,mh',q,rs1,r1,co.ev e1⟩
  ·exact Dq
 ·rename_i el;exact V5 (hr.mono k1) hN hv hx ha hdb hcd he hpl el
 ·rename_i I fs el;exact V7 hcl hr hN hv hx ha hdb hcd he hpl el
 ·exact Dq
end
noncomputable def Cz (ds:List D) (mh:MH):Option (D×MH):=Xo ds mh
section
variable {X:Cx}
theorem Z7:Br X (.builtin "len") (rDs X.K Cz):=Vr
end
section
open PySem.W
variable {prog:Program}{w:World}{A:Around}{E:Value->Shared->Prop}{s:Shared}{T:String}{a d:Addr}{n:Nat}{P:Nat->Value->Prop}{OK:Heap->Prop}
end
section
variable {X:Cx}
end
end DL
namespace DL
open PySem PySem.Spec PyProof.Rows L2 PySem.W
section
variable {prog:Program}{w:World}{A:Around}{E:Value->Shared->Prop}{s:Shared}{d it:Addr}{es:Array DictEntry}{ep i:Nat}
end
section
variable {prog:Program}{w:World}{A:Around}{E:Value->Shared->Prop}{s:Shared}
end
section
variable {K:aj}{H:Hp}{ρ:List Addr}
end
section
variable {X:Cx}
end
section
variable {X:Cx}
end
section
variable {prog:Program}{w:World}{A:Around}{E:Value->Shared->Prop}{s:Shared}
end
section
variable {X:Cx}{pins:List (Addr×Obj)}{σ:L2.St}{H:Hp}{s:Shared}{ρ:List Addr}{mh:MH}
theorem yQ {X:Cx}(hu:X.A.units+64 < cLine):OpR X (compareOp .Eq) (rD X.K eqD):=by
 rintro pins s σ H x y v u Q I rx ry ⟨ρ,mh,dx,dy,d,mh',q,rs,r1,r2,co⟩;unfold eqD at q;split at q
 ·rename_i k ek;cases q;obtain ⟨a,b,ea,eb,rfl⟩:=Tc ek;obtain ⟨⟨as,h1⟩,h2,h3⟩:=Et I rs 60 dx x v a ea r1 rx;obtain ⟨⟨bs,g1⟩,g2,g3⟩:=Et I rs 60 dy y u b eb r2 ry;exact SeqAt.compareEq_reads h1 g1 h2 g2 (cW hu h3) ⟨.bl _,H,I,rfl,co H ρ _ Ev.refl rs (.bl _)⟩
 ·cases q
end
section
variable {prog:Program}{w:World}{A:Around}{E:Value->Shared->Prop}{s:Shared}{d it v:Addr}{es:Array DictEntry}{ep i:Nat}{ok ov:Value}
end
section
variable {K:aj}{H H':Hp}{ρ ρ':List Addr}
end
section
variable {X:Cx}{pins:List (Addr×Obj)}{σ:L2.St}{H:Hp}{s:Shared}
end
section
variable {X:Cx}{pos apos:Pos}
end
end DL
namespace DL
open PySem PySem.Spec PyProof.Rows L2
inductive InF where
 | par | nd | nl
noncomputable def Oj:List (Str×InF)->D->MH->List D×MH
 | [],_,mh=>([],mh)
 | (_,.par)::r,d,mh=>(d::(Oj r d mh).1,(Oj r d mh).2)
 | (_,.nd)::r,d,mh=>(.ref mh.length::(Oj r d (mh++[.dct []])).1,(Oj r d (mh++[.dct []])).2)
 | (_,.nl)::r,d,mh=>(.ref mh.length::(Oj r d (mh++[.lst []])).1,(Oj r d (mh++[.lst []])).2)
noncomputable def V8 (C x dx:Addr) (v:V):List (Str×InF)->List (Str×V)->Hp->(Hp->Prop)->Prop
 | [],_,H,Q=>Q H
 | (f,.par)::r,done,H,Q=>V8 C x dx v r (done++[(f,v)]) (upd H x (.ins C dx (done++[(f,v)]))) Q
 | (f,.nd)::r,done,H,Q=>∀ p,H p=none->V8 C x dx v r (done++[(f,.ref p)]) (upd (upd H p (.dK [])) x (.ins C dx (done++[(f,.ref p)]))) Q
 | (f,.nl)::r,done,H,Q=>∀ p,H p=none->V8 C x dx v r (done++[(f,.ref p)]) (upd (upd H p (.lst [])) x (.ins C dx (done++[(f,.ref p)]))) Q
noncomputable def spN (C:Addr) (fs:List (Str×InF)):Sp:=λvs H Q _=>∃ x dx v,vs=[.ref x,v]/\H x=some (.ins C dx [])/\V8 C x dx v fs [] H (Q .non)
section
variable {X:Cx}{s q:Str}{C:Addr}
end
noncomputable def fQ (c:Str) (fs:List (Str×InF)):DM D:=λ_ mh=>some (.obj c (fs.map (·.1)) (Oj fs .non mh).1,(Oj fs .non mh).2)
noncomputable def yR (C:Addr) (fs:List (Str×InF)):Sp:=λvs H Q _=>∃ x dx,vs=[.ref x]/\H x=some (.ins C dx [])/\V8 C x dx .non fs [] H (Q .non)
section
variable {X:Cx}{C:Addr}{c:Str}
theorem T5 {H:Hp}{x p:Addr}{i o j:HO}(h:p≠x):upd (upd (upd H x i) p o) x j=upd (upd H p o) x j:=by
 funext b
 by_cases e:b=x
 ·subst e;rw [Ai,Ai]
 ·rw [Ac e,Ac e]
  by_cases e2:b=p
  ·subst e2;rw [Ai,Ai]
  ·rw [Ac e2,Ac e2,Ac e]
theorem Q8 {H1:Hp}{ρ1:List Addr}{z dx:Addr}{v:V}{d:D}{Q:Hp->Prop}(hn:gn X.K mainGlobals c=some (some (.ref C))):∀ (fs:List (Str×InF)) (ks:List Str) (xs:List V) (ds:List D) (Hc:Hp) (ρc:List Addr) (m:MH),Hc z=none->Ev X.K H1 ρ1 Hc ρc->RS X.K Hc ρc m->ks.length=xs.length->RDs X.K Hc ρc ds xs->RD X.K Hc ρc d v ->
  (∀ H' ρ',Ev X.K H1 ρ1 H' ρ'->RS X.K H' ρ' (Oj fs d m).2->RD X.K H' ρ' (.obj c (ks++fs.map (·.1)) (ds++(Oj fs d m).1)) (.ref z)->Q H')->V8 C z dx v fs (ks.zip xs) (upd Hc z (.ins C dx (ks.zip xs))) Q
 | [],ks,xs,ds,Hc,ρc,m,hz,e,rs,kl,rx,rd,h=>by
  refine h _ ρc (e.trans (Ev.new hz)) (rs.new hz) ?_;show RD X.K _ ρc (.obj c (ks++[]) (ds++[])) _;rw [ni,ni];exact .obj (xs:=xs) hn Ai kl (rx.mono (Ev.new hz))
 | (f,.par)::r,ks,xs,ds,Hc,ρc,m,hz,e,rs,kl,rx,rd,h=>by
  have ez:ks.zip xs++[(f,v)]=(ks++[f]).zip (xs++[v]):=by rw [JK kl];rfl
  show V8 C z dx v r (ks.zip xs++[(f,v)]) (upd (upd Hc z _) z (.ins C dx (ks.zip xs++[(f,v)]))) Q;rw [nM,ez];refine Q8 hn r (ks++[f]) (xs++[v]) (ds++[d]) Hc ρc m hz e rs (by rw [bh,bh,kl];rfl) (rx.append (.cons rd .nil)) rd λH' ρ' e' rs' r'=>h H' ρ' e' rs' ?_
  rw [qu,qu] at r';exact r'
 | (f,.nd)::r,ks,xs,ds,Hc,ρc,m,hz,e,rs,kl,rx,rd,h=>by
  intro p hp;have ne:p≠z:=λq=>by rw [q,Ai] at hp;cases hp
  rw [Ac ne] at hp;have ez:ks.zip xs++[(f,V.ref p)]=(ks++[f]).zip (xs++[V.ref p]):=by rw [JK kl];rfl
  rw [T5 ne,ez];have e2:=Ev.newL (K:=X.K) (ρ:=ρc) (o:=.dK []) hp;refine Q8 hn r (ks++[f]) (xs++[.ref p]) (ds++[.ref m.length]) _ (ρc++[p]) (m++[MO.dct []]) (by rw [Ac (Ne.symm ne)];exact hz) (e.trans e2) (rs.newD hp RK.nil) (by rw [bh,bh,kl];rfl) ((rx.mono e2).append (.cons (.ref (rs.last p)) .nil)) (rd.mono e2) λH' ρ' e' rs' r'=>h H' ρ' e' rs' ?_
  rw [qu,qu] at r';exact r'
 | (f,.nl)::r,ks,xs,ds,Hc,ρc,m,hz,e,rs,kl,rx,rd,h=>by
  intro p hp;have ne:p≠z:=λq=>by rw [q,Ai] at hp;cases hp
  rw [Ac ne] at hp;have ez:ks.zip xs++[(f,V.ref p)]=(ks++[f]).zip (xs++[V.ref p]):=by rw [JK kl];rfl
  rw [T5 ne,ez];have e2:=Ev.newL (K:=X.K) (ρ:=ρc) (o:=.lst []) hp;refine Q8 hn r (ks++[f]) (xs++[.ref p]) (ds++[.ref m.length]) _ (ρc++[p]) (m++[MO.lst []]) (by rw [Ac (Ne.symm ne)];exact hz) (e.trans e2) (rs.newL hp .nil) (by rw [bh,bh,kl];rfl) ((rx.mono e2).append (.cons (.ref (rs.last p)) .nil)) (rd.mono e2) λH' ρ' e' rs' r'=>h H' ρ' e' rs' ?_
  rw [qu,qu] at r';exact r'
variable {CX:CXT}{k:Nat}{fa:Addr}{fd:FuncData}{ps:List Str}{E:XK}{pos:Pos}
theorem fU {x:Str}{p:Pos}{fs:List (Str×InF)}(hn:gn X.K mainGlobals x=some (some (.ref C))) (M:Mk X.K C fa) (F:FnOk X.prog X.w X.K X.mg X.base CX k fa fd ps (yR C fs)) (hr:Room (k+1) X.A) (hg:Gl X x) (hm:X.mg x=some (.ref C)) (hb:Binds X.K fd ps []) (hx:Dj CX X E)
  (hdb:(x==("__debug__":Str))=false):DE X (.Call (.Name x p) [] [] pos) (fQ x fs):=λloc mh =>
 Bt (cD M F hr hg hm hb .nil hx hdb) λσ H Q ⟨ρ,d,mh',q,rl,rs,co⟩=>by
  cases q;intro z dx hz hdx hne;have hz':upd H dx (HO.own z) z=none:=by rw [Ac (Ne.symm hne)];exact hz
  refine ⟨z,dx,rfl,Ai,?_⟩;exact Q8 (H1:=H) (ρ1:=ρ) (c:=x) hn fs [] [] [] (upd H dx (.own z)) ρ mh hz' (Ev.new hdx) (rs.new hdx) rfl .nil .non λH' ρ' e' rs' r'=>⟨rfl,co H' ρ' _ e' rs' r'⟩
end
end DL
namespace DL
open PySem PySem.Spec PyProof.Rows L2 PySem.W
section
variable {prog:Program}{w:World}{A:Around}{E:Value->Shared->Prop}{κ:SortKind}{it:Array Keyed}{s:Shared}
end
section
variable {X:Cx}
noncomputable def Z8 (ds:List D) (mh:MH):Option (D×MH):=match ds with
 | [.int i,.int j]=>if ((-(2 ^ 62)<=i/\i < 2 ^ 62)/\(-(2 ^ 62)<=j/\j < 2 ^ 62))/\(j - i).toNat<=1000000 then some (.ref mh.length,mh++[.lst (Bv i (j - i).toNat)]) else none
 | _=>none
end
end DL
namespace DL
open PySem PySem.Spec PyProof.Rows L2
section
variable {prog:Program}{w:World}{A:Around}{E:Value->Shared->Prop}{s:Shared}
end
noncomputable def fV (x:D) (mh:MH):Option (D×MH):=match x with
 | .ref n=>(match mh[n]? with | some (.lst o)=>some (.ref mh.length,mh++[.lst o.reverse]) | _=>none)
 | _=>none
section
variable {X:Cx}
end
theorem fW {X:Cx}:OpR X (binaryOp .FloorDiv) (rI (λ_ j=>j≠0/\j.natAbs < 10889035741470030830827987437816582766592) λi j=>.int (i.fdiv j)):=opI λ_ j _ _ _ _ _ hc q=>floordiv_int hc.1 q (.inl (PyProof.noPylong_of_log2 (by
 have h:j.natAbs < 2 ^ 133:=hc.2
 by_cases h0:j.natAbs=0
 ·rw [h0];decide +kernel
 ·have h60:j.natAbs.log2 < 133:=(Nat.log2_lt h0).mpr h
  omega)))
structure SC where
 N:List Str
 scope:Scope
 own:Str->Bool
 lt:Option (Str×Nat):=none
structure Gb where
 cal:Str->Option (List Str×Fn)
 con:Str->Option D
 dic:Str->Option (List (Str×D))
 fld:Str->Str->Bool
 met:Str->Str->Option (List Str×Fn)
 mkr:Str->Option (List (Str×InF))
 clo:T3:=λ_ _ _ _=>none
 mk0:Str->Option (List (Str×InF)):=λ_=>none
noncomputable def slot (N:List Str) (x:Str):Option Nat:=N.findIdx? (λy=>y==x)
noncomputable def fX (sc:Scope) (x:Str):Bool:=match sc.names.lookup x with
 | some .local=>true
 | some .cell=>true
 | some .free=>true
 | _=>false
noncomputable def Z9 (sc:Scope) (x:Str):Bool:=match sc.names.lookup x with
 | some .local=>true
 | some .cell=>true
 | _=>false
noncomputable def glB (sc:Scope) (x:Str):Bool:=match sc.names.lookup x with
 | some .globalImplicit=>true
 | _=>false
noncomputable def T6 (i j:Int):Bool:=decide (-(2 ^ 64) < i/\i < 2 ^ 64) || decide (-(2 ^ 64) < j/\j < 2 ^ 64)
theorem Ade {X:Cx}{f:Value->Value->Sem Value}:OpR X f (rD X.K λ_ _ _=>none):=by
 rintro _ _ _ _ _ _ _ _ _ _ _ _ ⟨_,_,_,_,_,_,e,_⟩;cases e
noncomputable def Adf:Operator->Option (D->D->MH->Option (D×MH))
 | .Add=>some Be
 | .Sub=>some (iop (λ_ _=>true) λi j=>i - j)
 | .Mult=>some (iop T6 λi j=>i * j)
 | .FloorDiv=>some (iop (λ_ j=>decide (j≠0)&&decide (j.natAbs < 10889035741470030830827987437816582766592)) λi j=>i.fdiv j)
 | .Mod=>some (iop (λ_ j=>decide (j≠0)) λi j=>i.fmod j)
 | .Pow=>some (iop (λi j=>decide (0<=j)&&(decide (j<=1000000)&&decide (i.natAbs < 2 ^ 64))) λi j=>i ^ j.toNat)
 | .LShift=>some (iop (λi j=>decide (0<=j)&&(decide (j<=1000000)&&decide (i.natAbs < 2 ^ 64))) λi j=>i * 2 ^ j.toNat)
 | _=>none
noncomputable def Nk:CmpOp->(D->D->MH->Option (D×MH))
 | .Eq=>eqD
 | .NotEq=>neD
 | .Lt=>Qq λi j=>decide (i < j)
 | .LtE=>Qq λi j=>decide (i<=j)
 | .Gt=>Qq λi j=>decide (j < i)
 | .GtE=>Qq λi j=>decide (j<=i)
 | .Is=>isD false
 | .IsNot=>isD true
 | .In=>inD false
 | .NotIn=>λ_ _ _=>none
theorem qN {X:Cx}{op:Operator}{f:D->D->MH->Option (D×MH)}(h:Adf op=some f):OpR X (binaryOp op) (rD X.K f):=by
 cases op <;> (try cases h)
 ·exact pM
 ·exact pK wH
 ·refine Kv wI λi j h=>?_
  unfold T6 at h;rw [CQ,decide_eq_true_iff,decide_eq_true_iff] at h;exact h
 ·exact Kv oF λi j h=>of_decide_eq_true h
 ·refine Kv wJ λi j h=>?_
  rw [au,au,decide_eq_true_iff,decide_eq_true_iff,decide_eq_true_iff] at h;exact ⟨h.1,h.2.1,h.2.2⟩
 ·refine Kv wK λi j h=>?_
  rw [au,au,decide_eq_true_iff,decide_eq_true_iff,decide_eq_true_iff] at h;exact ⟨h.1,h.2.1,h.2.2⟩
 ·refine Kv fW λi j h=>?_
  rw [au,decide_eq_true_iff,decide_eq_true_iff] at h;exact ⟨h.1,h.2⟩
theorem Gy {X:Cx}(hu:X.A.units+64 < cLine) (op:CmpOp):OpR X (compareOp op) (rD X.K (Nk op)):=by
 cases op
 ·exact yQ hu
 ·exact xV hu
 ·exact Ml Acg
 ·exact Ml Ach
 ·exact Ml Aci
 ·exact Ml Acj
 ·exact xX
 ·exact Y9
 ·exact yO hu
 ·exact Ade
noncomputable def isStar:Expr->Bool
 | .Starred ..=>true
 | _=>false
noncomputable def isSet:Expr->Bool
 | .Set ..=>true
 | _=>false
noncomputable def Iu:Expr->Bool
 | .ListComp ..=>true
 | .SetComp ..=>true
 | .DictComp ..=>true
 | _=>false
noncomputable def isSlice:Expr->Bool
 | .Slice ..=>true
 | _=>false
noncomputable def X4:Expr->Bool
 | .Slice none none (some (.UnaryOp .USub (.Constant (.int i) _ _) _)) _=>i==1
 | _=>false
theorem V9 {b:Expr}(h:X4 b=true):∃ k p1 p2 p3,b=.Slice none none (some (.UnaryOp .USub (.Constant (.int 1) k p1) p2)) p3:=by
 unfold X4 at h;split at h
 ·rw [cj h];exact ⟨_,_,_,_,rfl⟩
 ·cases h
noncomputable def baseOk:Expr->Bool
 | .Call (.Name ..) [] [] _=>false
 | _=>true
noncomputable def tyOf (c:Str):Option String :=
 if c == "int" then some "int" else if c == "bool" then some "bool" else if c == "str" then some "str" else if c == "tuple" then some "tuple" else if c == "list" then some "list" else if c == "dict" then some "dict" else none
noncomputable def yS:Fn:=λ_ _=>none
noncomputable def Q9 (_:D) (_:List D) (_:MH):Option (D×MH):=none
theorem X5 {X:Cx}{f:Value}:Br X f (rDs X.K yS):=by
 rintro _ _ _ _ _ _ _ _ _ ⟨_,_,_,_,_,e,_⟩;cases e
theorem Nm {X:Cx}{id:String}:MtR X id (rDM X.K Q9):=by
 rintro _ _ _ _ _ _ _ _ _ _ _ _ ⟨_,_,_,_,_,_,e,_⟩;cases e
noncomputable def fY (x:Str):Option Fn:=if x=="len" then some Cz else if x=="list" then some O3 else if x=="tuple" then some Bh else if x=="all" then some Tn else if x=="any" then some yS else if x=="max" then some fH else if x=="min" then some fJ else if x=="int" then some intD else if x=="sorted" then some Di else if x=="sum" then some Q6 else if x=="abs" then some yS else none
noncomputable def K4 (m:Str) (n:Nat):Option (String×(D->List D->MH->Option (D×MH))) :=
 if m == "append"&&n==1 then some ("list",Bs) else if m == "bit_length"&&n==0 then some ("int",Q9) else if m == "pop"&&n==1 then some ("list",Ei) else if m == "pop"&&n==0 then some ("list",Q9) else if m == "extend"&&n==1 then some ("list",Q9) else if m == "index"&&n==1 then some ("tuple",Q9) else none
noncomputable def Ej:Expr->Bool
 | .Tuple ..=>true
 | _=>false
noncomputable def setArg (_:Expr) (_:List Expr):Option Expr:=none
noncomputable def yU (_:Expr) (_:List Expr):Option Expr:=none
noncomputable def yV (_:Expr) (_:List Expr):Option Expr:=none
noncomputable def yW:List (Option Expr)->List Expr->Option (Expr×Expr)
 | [some k],[v]=>some (k,v)
 | _,_=>none
theorem aA {ks:List (Option Expr)}{vs:List Expr}{k v:Expr}(h:yW ks vs=some (k,v)):ks=[some k]/\vs=[v]:=by
 unfold yW at h;split at h
 ·cases h;exact ⟨rfl,rfl⟩
 ·cases h
noncomputable def qO (_:Expr) (_:List Expr):Option (Expr×Expr):=none
noncomputable def yX (_:Expr) (_:List Expr):Option (Expr×Expr):=none
noncomputable def X6 (_:SC) (_:Expr) (_:CmpOp) (_:Expr):Option (Nat×Nat):=none
noncomputable def Dt (scope:Scope):List Str:=(scope.names.filter λp=>(match p.2 with | .local=>true | .cell=>true | .free=>true | _=>false)).map (·.1)
noncomputable def Np (N:List Str) (scope:Scope):List (Option Nat):=(Dt scope).map λx=>match scope.names.lookup x with
 | some .free=>slot N x
 | _=>none
noncomputable def J8 (scope outer:Scope):Scope:={ scope with names:=scope.names.map λ(n,k)=>if (k==.free&&outer.kind==.function&&outer.names.lookup n==some .cell) then (n,.cell) else (n,k) }
noncomputable def Gn (loc:Loc):List Nat->Option (List D)
 | []=>some []
 | j::r=>match loc[j]? with
  | some (some d)=>(match Gn loc r with | some ds=>some (d::ds) | none=>none)
  | _=>none
noncomputable def Hh (names:List (Str×NameKind)):List Str:=names.foldl (λc x=>if x.2==.free then x.1::c else c) []
noncomputable def Mg:Arguments->Option Str
 | ⟨[],[⟨y,none,_⟩],none,[],[],none,[]⟩=>some y
 | _=>none
noncomputable def T7:Expr->Option (Str×Expr×Expr×Arguments×Expr×Scope×Pos)
 | .Call (.Name g _) [a,b,.Lambda ps body sc pos] [] _=>some (g,a,b,ps,body,sc,pos)
 | _=>none
noncomputable def Afh:List Stmt->Option (Str×Expr×Expr×Arguments×Expr×Scope×Pos)
 | [.Return (some e) _]=>T7 e
 | _=>none
noncomputable def Hw (y:Str) (body:Expr) (scope:Scope) (pos:Pos) (q:Option Str):CloI:={ ps:=[y],N:=[y],fr:=Hh scope.names,scope:=scope,body:=[.Return (some body) pos],inn:=q }
noncomputable def kindB:ScopeKind->Bool
 | .function=>true
 | _=>false
noncomputable def T8 (y:Str) (scope:Scope):Bool:=kindB scope.kind&&!scope.isCoroutine&&!scope.isGenerator&&decide ((y::Hh scope.names).Nodup)&&(scope.names.lookup y==some .local)&&scope.names.all (λp=>!(p.2==.cell))&&(Hh scope.names).all λz=>scope.names.lookup z==some .free
noncomputable def Nq (sc:SC) (kd:NameKind):List Str->Option (List Nat)
 | []=>some []
 | y::r=>if (sc.scope.names.lookup y==some kd)&&!(sc.own y) then (match slot sc.N y,Nq sc kd r with | some j,some js=>some (j::js) | _,_=>none) else none
noncomputable abbrev Ka (x:Str):Str:=Qn x ++ ".<locals>." ++ "<lambda>"
noncomputable def Wa (x:Str) (pl:Nat) (y:Str) (body:Expr) (scope:Scope) (pos:Pos) (ds:List D) (mh:MH):Option (D×MH):=match mh[pl]? with
 | some (.plq z)=>if (z==x)&&(T7 body).isNone then some (.clo (Hw y body scope pos none) ds,mh) else none
 | some (.plw z o)=>if (z==x)&&(T7 body).isSome then (match o with
  | none=>some (.clo (Hw y body scope pos (some (Ka x))) (.ref mh.length::ds),mh.set pl (.plw z (some (pos.line,pos.col,mh.length)))++[.plr (Ka x)])
  | some w=>if (w.1==pos.line)&&(w.2.1==pos.col) then some (.clo (Hw y body scope pos (some (Ka x))) (.ref w.2.2::ds),mh) else none) else none
 | _=>none
noncomputable def fZ (sc:SC) (x:Str) (pl:Nat) (y:Str) (body:Expr) (scope:Scope) (pos:Pos):DM D:=if T8 y scope then (match Nq sc .cell (Hh scope.names) with
 | some js=>(λloc mh=>match Gn loc js with | some ds=>Wa x pl y body scope pos ds mh | none=>none)
 | none=>Zb) else Zb
noncomputable def Ra (scope:Scope) (sc:SC):SC:={ N:=Dt scope,scope:=J8 scope sc.scope,own:=λx=>Z9 scope x }
noncomputable def Mp (scope:Scope) (sc:SC):Bool :=
 (match scope.kind with | .function=>true | _=>false)&&(decide ((scope.names.map (·.1)).Nodup) &&
  scope.names.all λp=>(match p.2 with | .free=>(match sc.scope.names.lookup p.1 with | some .cell=>true | some .free=>true | _=>false) | _=>true))
noncomputable def T9 (G:Gb) (sc:SC):Expr->Option (List (Str×D))
 | _=>none
noncomputable def gA (G:Gb) (sc:SC) (op:CmpOp) (b:Expr):Option (Bool×List (Str×D)):=match op with
 | .In=>(match T9 G sc b with | some kvs=>some (false,kvs) | none=>none)
 | .NotIn=>(match T9 G sc b with | some kvs=>some (true,kvs) | none=>none)
 | _=>none
noncomputable def Adg (G:Gb) (f:Str):List Expr->Option (List (Str×InF))
 | []=>G.mkr f
 | _=>none
noncomputable def iGn (sc:SC) (x:Str):Option Nat:=if Z9 sc.scope x&&sc.own x then slot sc.N x else none
noncomputable def iGs (sc:SC):List Expr->Option (List Nat)
 | []=>some []
 | .Name x _::r=>match iGn sc x with
  | some i=>match iGs sc r with
   | some is=>some (i::is)
   | none=>none
  | none=>none
 | _=>none
noncomputable def iG (sc:SC):Expr->Option (List Nat×GM)
 | .Name x _=>match iGn sc x with | some i=>some ([i],Aj i) | none=>none
 | .Tuple es _ _=>match iGs sc es with | some is=>some (is,Fe is) | none=>none
 | _=>none
noncomputable def yZ:Option Str->Bool
 | some n=>n == "default"
 | none=>false
noncomputable def qP:Expr->Bool
 | .Constant .none _ _=>true
 | _=>false
noncomputable def Wb (k:Keyword):Bool:=yZ k.arg&&qP k.value
theorem Ua {k:Keyword}(h:Wb k=true):∃ j cp kp,k=⟨some "default",.Constant .none j cp,kp⟩:=by
 obtain ⟨n,v,p⟩:=k;unfold Wb at h;rw [au] at h;obtain ⟨h1,h2⟩:=h;cases n with
 | none=>cases h1
 | some n =>
  have e:n = "default":=cj h1
  subst e;cases v with
  | Constant c j cp =>
   cases c with
   | none=>exact ⟨_,_,_,rfl⟩
   | _=>cases h2
  | _=>cases h2
noncomputable def iEb (E:SC->Expr->DM D) (T:SC->Expr->DM Bool) (A:SC->List Expr->DM (List D)) (F:SC->List Expr->DM Bool) (I:SC->Expr->Expr->DM Src) (G:Gb) (sc:SC) (e:Expr):DM D:=match e with
 | .Constant (.int i) _ _=>Zr (.int i)
 | .Constant (.bool b) _ _=>Zr (.bl b)
 | .Constant .none _ _=>Zr .non
 | .Constant (.str x) _ _=>Zr (.str x)
 | .Name x _=>if fX sc.scope x&&!(x == "__debug__")&&!(x == "__classdict__") then (match slot sc.N x with
   | some i=>λloc mh=>match loc[i]? with | some (some d)=>some (d,mh) | _=>none
   | none=>Zb) else if glB sc.scope x&&!(x == "__debug__") then (match G.con x with | some d=>Zr d | none=>Zb) else Zb
 | .BinOp a op b _=>(match Adf op with | some f=>dop f (E sc a) (E sc b) | none=>Zb)
 | .UnaryOp .USub a _=>(E sc a).bnd λx=>Zl (yI x)
 | .UnaryOp .Not a _=>(Ar (E sc a)).bnd λc=>Zr (.bl (!c))
 | .BoolOp op [a] _=>E sc a
 | .BoolOp .And (a::b::r) p=>Ca (E sc a) (E sc (.BoolOp .And (b::r) p))
 | .BoolOp .Or (a::b::r) p=>S8 (E sc a) (E sc (.BoolOp .Or (b::r) p))
 | .Compare a [op] [b] _=>(match X6 sc a op b with
  | some (i,j)=>eE (λloc mh=>match loc[i]? with | some (some d)=>some (d,mh) | _=>none) (λloc mh=>match loc[j]? with | some (some d)=>some (d,mh) | _=>none)
  | none=>match gA G sc op b with
   | some (neg,kvs)=>Zb
   | none=>if isSet b then Zb else dop (Nk op) (E sc a) (E sc b))
 | .Compare a [op,op'] [b,c] _=>if isSet c then Zb else Ie (Nk op) (Nk op') (E sc a) (E sc b) (E sc c)
 | .IfExp c a b _=>dIf (T sc c) (E sc a) (E sc b)
 | .Tuple es _ _=>(A sc es).bnd λds=>Zl (Oz ds)
 | .List es _=>(A sc es).bnd λds=>Zl (O1 ds)
 | .Dict ks vs _=>if uG ks vs&&!ks.isEmpty&&decide (ks.length<=15) then Zb else (match yW ks vs with | some (k,v)=>Zb | none=>Zb)
 | .Subscript a (.Slice lo hi none _) _=>dSl (E sc a) (match lo with | some e=>some (E sc e) | none=>none) (match hi with | some e=>some (E sc e) | none=>none)
 | .Subscript a b _=>if isSlice b then (if X4 b then (E sc a).bnd λx=>Zl (dF x) else Zb) else (match T9 G sc a with | some kvs=>Zb | none=>dop ixD (E sc a) (E sc b))
 | .Lambda ps body scope pos=>(match sc.lt,Mg ps with | some (x,pl),some y=>fZ sc x pl y body scope pos | _,_=>Zb)
 | .Attribute o f _=>if baseOk o then Zb else Zb
 | .Call (.Name f _) [] [] _=>if glB sc.scope f&&!(f == "__debug__") then (match G.cal f with | some ([],g)=>Zl (g []) | some _=>Zb | none=>match G.mk0 f with | some fl=>fQ f fl | none=>Zb) else Zb
 | .Call (.Name f _) (a::es) [] _=>if fX sc.scope f&&!(f == "__debug__")&&!(f == "__classdict__")&&!(isStar a)&&es.all (λe=>!isStar e) then (match slot sc.N f with | some i=>Ff G.cal G.clo i (A sc (a::es)) | none=>Zb) else if glB sc.scope f&&!(f == "__debug__")&&!(f == "__name__")&&!(isStar a)&&es.all (λe=>!isStar e) then
   (match G.cal f with
   | some (_,g)=>(A sc (a::es)).bnd λds=>Zl (g ds)
   | none=>match Adg G f es with
    | some fl=>Zb
    | none=>match setArg a es with
    | some b=>if glB sc.scope "set" then (if f == "len" then (E sc b).bnd (λx=>Zl (qF x)) else if f == "sorted" then (E sc b).bnd (λx=>Zl (Zo x)) else Zb) else Zb
    | none=>match yX a es with
    | some (b,c)=>if glB sc.scope "zip"&&f == "list" then (A sc [b,c]).bnd (λds=>Zl (fB ds)) else if glB sc.scope "zip"&&f == "sorted" then (A sc [b,c]).bnd (λds=>Zl (fD ds)) else Zb
    | none=>match yU a es with
    | some b=>if glB sc.scope "range" then (if f == "list" then (E sc b).bnd (λx=>Zl (eG x)) else if f == "tuple" then (E sc b).bnd (λx=>Zl (qH x)) else Zb) else Zb
    | none=>match qO a es with
    | some (b,c)=>if glB sc.scope "range"&&f == "list" then (A sc [b,c]).bnd (λds=>Zl (Z8 ds)) else Zb
    | none=>match yV a es with
    | some b=>if glB sc.scope "reversed"&&f == "list" then (E sc b).bnd (λx=>Zl (fV x)) else Zb
    | none=>if f == "isinstance" then (match es with
    | [.Name c _]=>if glB sc.scope c&&!(c == "__debug__")&&!(c == "__name__") then (match tyOf c with | some ty=>(E sc a).bnd λx=>Zl (M8 ty x) | none=>Zb) else Zb
    | _=>Zb) else match fY f with
     | some g=>(A sc (a::es)).bnd λds=>Zl (g ds)
     | none=>Zb) else Zb
 | .Call (.Name f _) [a] (kw::ks) _=>if glB sc.scope f&&!(isStar a)&&Wb kw&&ks.isEmpty then (if f == "max" then Zb else if f == "min" then Zb else Zb) else Zb
 | .Call (.Attribute o m ap) [] [] p=>if baseOk o&&(ap.endLine==p.line) then (match K4 m 0 with | some (ty,f)=>Bo ty f (E sc o) (Zr []) | none=>Zb) else Zb
 | .Call (.Attribute o m ap) (a::es) [] p=>if baseOk o&&(ap.endLine==p.line)&&!(isStar a)&&es.all (λe=>!isStar e)&&decide ((a::es).length < 20) then (if m == "get" then (match T9 G sc o with | some kvs=>Zb | none=>Zb) else if m == "count"&&es.isEmpty then Lk "tuple" Q9 "list" X3 (E sc o) (A sc (a::es)) else if m == "index"&&es.isEmpty then Lk "tuple" Q9 "list" Q9 (E sc o) (A sc (a::es)) else (match K4 m (a::es).length with | some (ty,f)=>Bo ty f (E sc o) (A sc (a::es)) | none=>Zb)) else Zb
 | .ListComp elt [⟨tg,iter,ifs,k⟩] scope _=>if k==0&&Mp scope sc&&!(isSet iter) then (match iG (Ra scope sc) tg with
   | some (ws,g)=>if ws.all (λi=>match (Np sc.N scope)[i]? with | some (some _)=>false | _=>true) then Bj (I sc tg iter) (Np sc.N scope) g (F (Ra scope sc) ifs) (E (Ra scope sc) elt) else Zb
   | none=>Zb) else Zb
 | _=>Zb
noncomputable def iTb (E:SC->Expr->DM D) (T:SC->Expr->DM Bool) (A:SC->List Expr->DM (List D)) (F:SC->List Expr->DM Bool) (I:SC->Expr->Expr->DM Src) (G:Gb) (sc:SC) (e:Expr):DM Bool:=match e with
 | .UnaryOp .Not a _=>Ce (T sc a)
 | .BoolOp op [a] _=>T sc a
 | .BoolOp .And (a::b::r) p=>Gv (T sc a) (T sc (.BoolOp .And (b::r) p))
 | .BoolOp .Or (a::b::r) p=>Fz (T sc a) (T sc (.BoolOp .Or (b::r) p))
 | .BoolOp _ [] _=>Zb
 | .IfExp ..=>Zb
 | .Compare a [op] [b] _=>(match gA G sc op b with
  | some (neg,kvs)=>Zb
  | none=>if isSet b then Zb else Ar (dop (Nk op) (E sc a) (E sc b)))
 | .Compare a [op,op'] [b,c] _=>if isSet c then Zb else Ar (Ie (Nk op) (Nk op') (E sc a) (E sc b) (E sc c))
 | .Compare ..=>Zb
 | e=>Dh (E sc e)
noncomputable def iIb (E:SC->Expr->DM D) (T:SC->Expr->DM Bool) (A:SC->List Expr->DM (List D)) (F:SC->List Expr->DM Bool) (I:SC->Expr->Expr->DM Src) (G:Gb) (sc:SC) (tg e:Expr):DM Src:=match e with
 | .Call (.Name f p) [a] [] p'=>if f == "range"&&glB sc.scope f then (if isStar a then Zb else Ib Jm (A sc [a])) else if f == "enumerate"&&glB sc.scope f then (if isStar a || !(Ej tg) then Zb else Zb) else Cq (E sc (.Call (.Name f p) [a] [] p'))
 | .Call (.Name f p) [a,b] [] p'=>if f == "range"&&glB sc.scope f then (if isStar a || isStar b then Zb else Zb) else if f == "zip"&&glB sc.scope f then (if isStar a || isStar b || !(Ej tg) then Zb else K1 (A sc [a,b])) else Cq (E sc (.Call (.Name f p) [a,b] [] p'))
 | .Call (.Name f p) [a,b,c] [] p'=>if f == "range"&&glB sc.scope f then (if isStar a || isStar b || isStar c then Zb else Ib Zz (A sc [a,b,c])) else Cq (E sc (.Call (.Name f p) [a,b,c] [] p'))
 | .Call (.Attribute o m ap) [] [] p=>if m == "items"&&baseOk o&&(ap.endLine==p.line)&&Ej tg then Zb else Cq (E sc (.Call (.Attribute o m ap) [] [] p))
 | e=>Cq (E sc e)
mutual
noncomputable def iE (G:Gb):Nat->SC->Expr->DM D
 | 0,_,_=>Zb
 | n+1,sc,e=>iEb (iE G n) (iT G n) (iA G n) (iF G n) (iI G n) G sc e
termination_by structural n=>n
noncomputable def iT (G:Gb):Nat->SC->Expr->DM Bool
 | 0,_,_=>Zb
 | n+1,sc,e=>iTb (iE G n) (iT G n) (iA G n) (iF G n) (iI G n) G sc e
termination_by structural n=>n
noncomputable def iA (G:Gb):Nat->SC->List Expr->DM (List D)
 | 0,_,_=>Zb
 | n+1,sc,es=>match es with
  | []=>Zr []
  | a::r=>if isStar a then Zb else Aa (iE G n sc a) (iA G n sc r)
termination_by structural n=>n
noncomputable def iF (G:Gb):Nat->SC->List Expr->DM Bool
 | 0,_,_=>Zb
 | n+1,sc,es=>match es with
  | []=>Zr true
  | [c]=>iT G n sc c
  | _=>Zb
termination_by structural n=>n
noncomputable def iI (G:Gb):Nat->SC->Expr->Expr->DM Src
 | 0,_,_,_=>Zb
 | n+1,sc,tg,e=>iIb (iE G n) (iT G n) (iA G n) (iF G n) (iI G n) G sc tg e
termination_by structural n=>n
end
noncomputable def Adh (sc:SC) (x:Str) (px:Pos) (y:Str) (py:Pos) (a b:Expr):Bool :=
 ((if sc.scope.kind.isAnnotationScope then ScopeKind.function else sc.scope.kind)==.function)&&(sc.scope.names.lookup x==some .local)&&(sc.scope.names.lookup y==some .local)&&(py.line==px.line)&&!(x==y)&&!isStar a&&!isStar b&&!([a,b].all (foldedForSure 8))&&!([a,b].all (constantsAlone 8))
noncomputable def zA (mr:DM (List D)) (i j:Nat):SM:=λloc mh=>match mr loc mh with
 | some ([d,e],h)=>some (.nx,(loc.set i (some d)).set j (some e),h)
 | _=>none
noncomputable def iGt (G:Gb) (n:Nat) (sc:SC) (tg:Expr):Option GM:=match tg with
 | .Subscript o i _=>if isSlice i then none else some (O6 (iE G n sc o) (iE G n sc i))
 | tg=>match iG sc tg with | some (_,g)=>some g | none=>none
noncomputable def zB (n:Nat) (G:Gb) (sc:SC) (tg v:Expr):SM:=match tg,v with
 | .Name y py,.ListComp elt gens scope vp=>(match iG sc (.Name y py) with | some (_,g)=>Ao (iE G n sc (.ListComp elt gens scope vp)) g | none=>SM.bad)
 | .Tuple [.Name x px,.Name y py] _ _,.Tuple [a,b] _ _=>if Adh sc x px y py a b then (match slot sc.N x,slot sc.N y with | some i,some j=>zA (iA G n sc [a,b]) i j | _,_=>SM.bad) else SM.bad
 | tg,v=>if Iu v || (Ej tg&&Ej v) then SM.bad else (match iGt G n sc tg with | some g=>Ao (iE G n sc v) g | none=>SM.bad)
noncomputable def iSb (n:Nat) (B:SC->List Stmt->SM) (G:Gb) (sc:SC) (s:Stmt):SM:=match s with
 | .Expr e _=>if Iu e then SM.bad else Dp (iE G n sc e)
 | .Pass _=>Zn
 | .Break _=>λloc mh=>some (.bk,loc,mh)
 | .Continue _=>λloc mh=>some (.ct,loc,mh)
 | .Return (some e) _=>retS (iE G n sc e)
 | .Return none _=>λloc mh=>some (.rt .non,loc,mh)
 | .Assign [tg] v _=>zB n G sc tg v
 | .If c a b _=>ifS (iT G n sc c) (B sc a) (B sc b)
 | .For tg it body [] _=>if isSet it then SM.bad else (match iG sc tg with | some (_,g)=>Ga (iI G n sc tg it) g (B sc body) | none=>SM.bad)
 | _=>SM.bad
mutual
noncomputable def iS (G:Gb):Nat->SC->Stmt->SM
 | 0,_,_=>SM.bad
 | n+1,sc,s=>iSb n (iSs G n) G sc s
termination_by structural n=>n
noncomputable def iSs (G:Gb):Nat->SC->List Stmt->SM
 | 0,_,_=>SM.bad
 | n+1,sc,ss=>match ss with
  | []=>Zn
  | s::r=>Ab (iS G n sc s) (iSs G n sc r)
termination_by structural n=>n
end
structure FnI where
 ps:List Str
 N:List Str
 scope:Scope
 body:List Stmt
noncomputable def Af (G:Gb) (n:Nat) (f:FnI):Fn:=λds mh=>if ds.length=f.ps.length then (match iSs G n { N:=f.N,scope:=f.scope,own:=λ_=>true } f.body (ds.map some++iz (f.N.length - ds.length) none) mh with
 | some (.rt d,_,mh')=>some (d,mh')
 | some (.nx,_,mh')=>some (.non,mh')
 | _=>none) else none
noncomputable def fuel:Nat:=60
noncomputable def Hi (G:Gb) (n:Nat):T3:=λI fs ds mh=>(match iSs G n { N:=I.N++I.fr,scope:=I.scope,own:=λy=>!(I.fr.contains y) } I.body (ds.map some++iz (I.N.length - ds.length) none++fs.map some) mh with
 | some (.rt d,_,mh')=>some (d,mh')
 | some (.nx,_,mh')=>some (.non,mh')
 | _=>none)
noncomputable def gB (sc:SC) (t:Nat) (q y:Str) (body:Expr) (scope:Scope) (pos:Pos):DM D:=if T8 y scope then (match Nq sc .free (Hh scope.names) with
 | some js=>(λloc mh=>match Gn loc js with | some ds=>(match mh[t]? with | some (.plr z)=>if z==q then some (.clo (Hw y body scope pos none) ds,mh) else none | _=>none) | none=>none)
 | none=>Zb) else Zb
noncomputable abbrev Jo (I:CloI):SC:={ N:=I.N++I.fr,scope:=I.scope,own:=λy=>!(I.fr.contains y) }
noncomputable def runN (G:Gb) (n:Nat) (I:CloI) (q:Str) (fs ds:List D) (mh:MH):Option (D×MH):=match fs with
 | .ref t::fs'=>(match Afh I.body with
  | some w=>if glB I.scope w.1&&!(w.1 == "__debug__")&&!(isStar w.2.1)&&!(isStar w.2.2.1) then (match Mg w.2.2.2.1 with
   | some y=>(match G.cal w.1 with
    | some p=>((Aa (iE G n (Jo I) w.2.1) (Aa (iE G n (Jo I) w.2.2.1) (Aa (gB (Jo I) t q y w.2.2.2.2.1 w.2.2.2.2.2.1 w.2.2.2.2.2.2) (Zr [])))).bnd λas=>Zl (p.2 as)) (ds.map some++iz (I.N.length - ds.length) none++fs'.map some) mh
    | none=>none)
   | none=>none) else none
  | none=>none)
 | _=>none
noncomputable def Fg (G:Gb) (n:Nat):T3:=λI fs ds mh=>if ds.length=I.ps.length then (match I.inn with | some q=>runN G n I q fs ds mh | none=>Hi G n I fs ds mh) else none
structure LmI where
 pl:Nat
 fr:List Str
 pre:List Stmt
 post:List Stmt
noncomputable def Pj (G:Gb) (n:Nat) (x:Str) (f:FnI) (m:LmI):SM:=Ab (iSs G n { N:=f.N,scope:=f.scope,own:=λ_=>true } m.pre) (iSs G n { N:=f.N,scope:=f.scope,own:=λy=>!(m.fr.contains y),lt:=some (x,m.pl) } m.post)
noncomputable def Jh (G:Gb) (n:Nat) (x:Str) (f:FnI) (m:LmI):Fn:=λds mh=>if ds.length=f.ps.length then (match Pj G n x f m (ds.map some++iz (f.N.length - ds.length) none) mh with
 | some (.rt d,_,mh')=>some (d,mh')
 | some (.nx,_,mh')=>some (.non,mh')
 | _=>none) else none
structure Tb where
 tb:Str->Option FnI
 con:Str->Option D
 dic:Str->Option (List (Str×D))
 fld:Str->Str->Bool
 tbm:Str->Str->Option FnI
 mkr:Str->Option (List (Str×InF))
 lam:Str->Option Str:=λ_=>none
 lmd:Str->Option LmI:=λ_=>none
 mk0:Str->Option (List (Str×InF)):=λ_=>none
noncomputable def lamF (G:Gb) (y:Str):Fn:=λds mh=>match ds,mh[0]?,G.cal y with
 | [d],some MO.plc,some (_,g)=>g [d,d,D.lam] mh
 | _,_,_=>none
noncomputable def Ub (T:Tb) (G:Gb) (x:Str) (g:Fn):Fn:=match T.lam x with
 | some y=>lamF G y
 | none=>g
noncomputable def Uc (T:Tb) (G:Gb) (x:Str) (I:FnI) (g:Fn):Fn:=match T.lmd x with
 | some m=>Jh G fuel x I m
 | none=>g
noncomputable def GkN (T:Tb):Nat->Gb
 | 0=>{ cal:=λ_=>none,con:=T.con,dic:=T.dic,fld:=T.fld,met:=λ_ _=>none,mkr:=T.mkr,mk0:=T.mk0 }
 | k+1=>{ cal:=λx=>(match T.tb x with | some I=>some (I.ps,Uc T (GkN T k) x I (Ub T (GkN T k) x (Af (GkN T k) fuel I))) | none=>none),con:=T.con,dic:=T.dic,fld:=T.fld,met:=λc m=>(match T.tbm c m with | some I=>some (I.ps,Af (GkN T k) fuel I) | none=>none),mkr:=T.mkr,clo:=Fg (GkN T k) fuel,mk0:=T.mk0 }
theorem Pk {pos:Pos}{i j:Int}{c v:Value}(l:List Value) (h:TriplesOk l) (e:codeAmong pos (l++[rawInt i,rawInt j,c])=some v):codeAmong pos l=some v\/v=c:=by
 fun_induction TriplesOk l with
 | case1 =>
  simp only [List.nil_append,codeAmong,rawInt] at e;split at e
  ·cases e;exact .inr rfl
  ·cases e
 | case2 a t b u x rest ih =>
  simp only [List.cons_append,codeAmong] at e ⊢;split at e
  ·rename_i hc;rw [if_pos hc];exact .inl e
  ·rename_i hc;rw [if_neg hc];exact ih h e
 | case3 l h1 h2=>exact h.elim
section
variable {K:aj}{H:Hp}{ρ:List Addr}
theorem Ev.tab {p:Addr}{ys zs:Array Value}(hp:H p=some (.tbl ys)):Ev K H ρ (upd H p (.tbl zs)) ρ:=by
 have ne:∀ {a:Addr} {o:HO},H a=some o->(∀ ps,o≠.tbl ps)->upd H p (.tbl zs) a=some o:=λ{a o} h n=>by
  rw [Ac (Ju h hp (n ys))];exact h
 refine ⟨λa xs h=>?_,BR _,λa xs h=>?_,λa C dx fs h=>ne h (λ_ z=>by cases z),λa o u h=>ne h (λ_ z=>by cases z)⟩
 ·rcases h with (h|⟨ob,h⟩)|h
  ·exact .inl (.inl (ne h (λ_ z=>by cases z)))
  ·exact .inl (.inr ⟨ob,ne h (λ_ z=>by cases z)⟩)
  ·exact .inr h
 ·rcases h with ⟨ob,h⟩|h
  ·exact .inl ⟨ob,ne h (λ_ z=>by cases z)⟩
  ·exact .inr h
theorem RS.tab {mh:MH}{n:Nat}{p:Addr}{ys zs:Array Value}(h:RS K H ρ mh) (hn:ρ[n]?=some p) (hm:mh[n]?=some .plc) (hp:H p=some (.tbl ys)) (new:cM K (upd H p (.tbl zs)) p):RS K (upd H p (.tbl zs)) ρ mh :=
 ⟨h.len,h.nd,λm a ob e1 e2=>by
  by_cases hm':n=m
  ·subst hm';rw [hn] at e1;cases e1;rw [hm] at e2;cases e2;exact new
  ·refine (h.obj m a ob e1 e2).mono (Ev.tab hp) ?_;rw [Ac];intro z;subst z
   exact hm' ((vf (bf.mp hn).1 h.nd).mp (hn.trans e1.symm))⟩
theorem RS.tabQ {mh:MH}{n:Nat}{p:Addr}{ys zs:Array Value}(h:RS K H ρ mh) (hn:ρ[n]?=some p) {x:Str}(hm:mh[n]?=some (.plq x)) (hp:H p=some (.tbl ys)) (new:cN K (upd H p (.tbl zs)) x p):RS K (upd H p (.tbl zs)) ρ mh :=
 ⟨h.len,h.nd,λm a ob e1 e2=>by
  by_cases hm':n=m
  ·subst hm';rw [hn] at e1;cases e1;rw [hm] at e2;cases e2;exact new
  ·refine (h.obj m a ob e1 e2).mono (Ev.tab hp) ?_;rw [Ac];intro z;subst z
   exact hm' ((vf (bf.mp hn).1 h.nd).mp (hn.trans e1.symm))⟩
end
theorem RS.two {K:aj}{H H':Hp}{ρ:List Addr}{mh:MH}{n:Nat}{p p':Addr}{o1 o2:MO}(h:RS K H ρ mh) (hn:ρ[n]?=some p) (hp:p' ∉ ρ) (ev:Ev K H ρ H' (ρ++[p'])) (same:∀ a∈ρ,a≠p->H' a=H a) (n1:RO K H' (ρ++[p']) p o1) (n2:RO K H' (ρ++[p']) p' o2):RS K H' (ρ++[p']) (mh.set n o1++[o2]):=by
 refine ⟨by rw [bh,bh,iw,h.len];rfl,?_,λm a ob e1 e2=>?_⟩
 ·rw [vd]
  exact ⟨h.nd,zx _ _,λa ha b hb z=>by
   rw [jg.mp hb] at z;rw [z] at ha;exact hp ha⟩
 ·by_cases hm:m < ρ.length
  ·rw [dw hm] at e1;rw [dw (by rw [iw,← h.len];exact hm)] at e2
   by_cases z:n=m
   ·subst z;rw [hn] at e1;cases e1;rw [xg] at e2;simp only [if_true] at e2;split at e2
    ·cases e2;exact n1
    ·cases e2
   ·rw [gk z] at e2;refine (h.obj m a ob e1 e2).mono ev (same a (di e1) λy=>?_);subst y;exact z ((vf (bf.mp hn).1 h.nd).mp (hn.trans e1.symm))
  ·rw [gb (by omega)] at e1;rw [gb (by rw [iw,← h.len];omega),iw,← h.len] at e2;have n0:m - ρ.length=0:=by
    have:=(bf.mp e1).1;simp at this;omega
   rw [n0] at e1 e2;cases e1;cases e2;exact n2
theorem Un.add {fs:List Addr}{H H3:Hp}{h h2:Heap}{p:Addr}{o:HO}(u:Un fs [] H H3 h h2) (sp:h.objs.size<=p) (n:H3 p=none):Un fs [] H (upd H3 p o) h h2 :=
 ⟨u.keep,u.slot,λb o e n x=>by rw [Ac (fu (fj (Heap.lt_size e) sp))];exact u.free b o e n x,u.there,λb xs e=>by rw [Ac (Ad (u.tups b xs e) n)];exact u.tups b xs e,
  λb o w e=>by rw [Ac (Ad (u.frzs b o w e) n)];exact u.frzs b o w e,λb ps e=>by
   obtain ⟨m,q⟩:=u.tbls b ps e
   exact ⟨m,by rw [Ac (Ad q n)];exact q⟩⟩
theorem HOk.add {P:Program}{w:World}{H:Hp}{h:Heap}{p:Addr}{tb:Array Value}(ok:HOk P w H h) (n:H p=none) (e:h.get? p=some (jc tb)):HOk P w (upd H p (.tbl tb)) h:=λb o q=>by
 by_cases z:b=p
 ·subst z;rw [Ai] at q;cases q;exact e
 ·rw [Ac z] at q;exact (ok b o q).stay (λ_ _ _ q=>q) (λ_ q=>by rw [Ac (Ad q n)];exact q) λ_ _ q=>by rw [Ac (Ad q n)];exact q
noncomputable abbrev uT:HO:=.ext λ_=>True
section
variable {P:Program}{w:World}{H:Hp}{h h2:Heap}{pl c a:Addr}{tb more:Array Value}{oc ob:Obj}{fs:List Addr}
noncomputable abbrev H3 (H:Hp) (c:Addr) (oc:Obj) (pl:Addr) (tb:Array Value) (a:Addr) (ob:Obj):Hp:=upd (upd (upd H c (.frz oc uT)) pl (.tbl tb)) a (.frz ob uT)
theorem X7 {b:Addr}{o:HO}(e:H b=some o) (n:∀ ps,o≠.tbl ps) (ht:H pl=some (.tbl tb)) (fc:H c=none) (fa:H a=none):H3 H c oc pl (tb++more) a ob b=some o:=by
 unfold H3;rw [Ac (Ad e fa),Ac (Ju e ht (n tb)),Ac (Ad e fc)];exact e
theorem Rb (ok:HOk P w H h) (ht:H pl=some (.tbl tb)) (fc:H c=none) (fa:H a=none) (nca:c≠a) (k:∀ b o,b≠pl->h.get? b=some o->h2.get? b=some o)
  (hpl:h2.get? pl=some (jc (tb++more))) (hc:h2.get? c=some oc) (ha:h2.get? a=some ob):HOk P w (H3 H c oc pl (tb++more) a ob) h2:=λb o e=>by
 by_cases b1:b=a
 ·subst b1;unfold H3 at e;rw [Ai] at e;cases e;exact ⟨ha,trivial,⟨_,ha⟩,λ_ _ _ _=>trivial⟩
 ·by_cases b2:b=pl
  ·subst b2;unfold H3 at e;rw [Ac b1,Ai] at e;cases e;exact hpl
  ·by_cases b3:b=c
   ·subst b3;unfold H3 at e;rw [Ac b1,Ac b2,Ai] at e;cases e;exact ⟨hc,trivial,⟨_,hc⟩,λ_ _ _ _=>trivial⟩
   ·have e0:H b=some o:=by
     unfold H3 at e;rw [Ac b1,Ac b2,Ac b3] at e;exact e
    refine (ok b o e0).stay (λx u hx q=>k x u (λz=>?_) q) (λx q=>X7 q (λ_ z=>by cases z) ht fc fa) λx xs q=>X7 q (λ_ z=>by cases z) ht fc fa
    rcases hx with rfl|hx
    ·exact b2 z
    ·subst z;rw [ht] at hx;cases hx
theorem Wc (ht:H pl=some (.tbl tb)) (fc:H c=none) (fa:H a=none) (sc:h.objs.size<=c) (sa:h.objs.size<=a) (k:∀ b o,b≠pl->h.get? b=some o->h2.get? b=some o)
  (hpl:h2.get? pl=some (jc (tb++more))):Un fs [] H (H3 H c oc pl (tb++more) a ob) h h2:=by
 have np:∀ b,H b=none->b≠pl:=λb n z=>by subst z;rw [ht] at n;cases n
 refine ⟨λb o e n _ _=>k b o (np b n) e,λb o e n _ _=>⟨o.slots,k b o (np b n) e⟩,λb o e n _=>?_,λb o e _=>?_,λb xs e=>X7 e (λ_ z=>by cases z) ht fc fa,λb o u e=>X7 e (λ_ z=>by cases z) ht fc fa,λb ps e=>?_⟩
 ·unfold H3;rw [Ac (fu (fj (Heap.lt_size e) sa)),Ac (np b n),Ac (fu (fj (Heap.lt_size e) sc))];exact n
 ·by_cases z:b=pl
  ·subst z;exact ⟨_,hpl⟩
  ·exact ⟨o,k b o z e⟩
 ·unfold H3;rw [Ac (Ad e fa)]
  by_cases z:b=pl
  ·subst z;rw [ht] at e;cases e;exact ⟨more,by rw [Ai]⟩
  ·exact ⟨#[],by rw [Ac z,Ac (Ad e fc),e];simp⟩
end
section
variable {X:Cx}{pins:List (Addr×Obj)}{σ:L2.St}{H:Hp}{s:Shared}{fr:List Str}
theorem Wd (I:Inv X pins σ H s) {x:Str}{c:Addr}(hc:X.env.cells.lookup x=some c) (hf:X.fn x=false) (ha:X.s₀.heap.objs.size<=c\/∃ oc u,X.H₀ c=some (.frz oc u)) :
  ∃ H' oc u,Inv X pins σ H' s/\H' c=some (.frz oc u)/\s.heap.get? c=some oc/\((H'=H)\/(H c=none/\H'=upd H c (.frz oc u))):=by
 rcases I.freeC x c hc with fc|⟨_,oc,u,fz⟩
 rotate_left
 ·exact ⟨H,oc,u,I,fz,(I.hok c _ fz).1,.inl rfl⟩
 ·have ha:=by
   refine ha.resolve_right ?_;rintro ⟨oc,u,e⟩;rw [I.base.frzs _ _ _ e] at fc;cases fc
  obtain ⟨v,oc,ho,hd⟩:=I.cell x c hc;refine ⟨upd H c (.frz oc uT),oc,uT,?_,Ai,ho,.inr ⟨fc,rfl⟩⟩;have ne:∀ {b:Addr} {o:HO},H b=some o->upd H c (.frz oc uT) b=some o:=λ{b o} e=>by rw [Ac (Ad e fc)];exact e
  have ne0:∀ b o,X.s₀.heap.get? b=some o->b≠c:=λb o e=>fu (fj (Heap.lt_size e) ha)
  refine ⟨I.ok,I.os,I.bare,⟨I.base.keep,I.base.slot,λb o e n hx=>?_,I.base.there,λb xs e=>ne (I.base.tups b xs e),λb o u e=>ne (I.base.frzs b o u e),λb ps e=>?_⟩,I.loc,I.cell,?_,λy c' e=>?_,λp hp=>?_,λb ob e=>?_,I.len⟩
  ·rw [Ac (ne0 b o e)];exact I.base.free b o e n hx
  ·obtain ⟨more,q⟩:=I.base.tbls b ps e;exact ⟨more,ne q⟩
  ·rw [Ac (Ne.symm (I.cne x c hc))];exact I.free
  ·by_cases z:c'=c
   ·subst z;have:=I.ok.inj y x c' e hc;subst this;exact .inr ⟨hf,oc,uT,Ai⟩
   ·rw [Ac z];exact I.freeC y c' e
  ·obtain ⟨e,n,e3,e4,e5⟩:=I.pin p hp;have:p.1≠c:=λz=>by
    rw [z,ho] at e;cases e;exact e5 _ hd
   exact ⟨e,by rw [Ac this];exact n,e3,e4,e5⟩
  ·by_cases z:b=c
   ·subst z;rw [Ai] at e;cases e;exact ⟨ho,trivial,⟨_,ho⟩,λ_ _ _ _=>trivial⟩
   ·rw [Ac z] at e;exact (I.hok b ob e).stay (λ_ _ _ q=>q) (λ_ q=>ne q) λ_ _ q=>ne q
theorem Lp {K:aj}{ρ:List Addr}{mh:MH}:∀ (L:List (Str×Addr)) {vs:List V}{H:Hp},Inv X pins σ H s->RS K H ρ mh->(∀ q∈L,X.env.cells.lookup q.1=some q.2/\X.fn q.1=false/\(X.s₀.heap.objs.size<=q.2\/∃ oc u,X.H₀ q.2=some (.frz oc u)))->L.length=vs.length->(∀ (i:Nat) (q:Str×Addr) (v:V),L[i]?=some q->vs[i]?=some v->∃ u,RelV v u/\s.heap.IsCell q.2 (some u)) ->
  ∃ H',Inv X pins σ H' s/\Ev K H ρ H' ρ/\RS K H' ρ mh/\Bu H' (L.map (·.2)) vs
 | [],[],H,I,rs,_,_,_=>⟨H,I,Ev.refl,rs,trivial⟩
 | [],_::_,_,_,_,_,hl,_=>by simp at hl
 | _::_,[],_,_,_,_,hl,_=>by simp at hl
 | q::L,v::vs,H,I,rs,hq,hl,hv=>by
  obtain ⟨h1,h2,h3⟩:=hq q iy;obtain ⟨H1,oc,u,I1,f1,g1,hor⟩:=Wd I h1 h2 h3;have ev1:Ev K H ρ H1 ρ/\RS K H1 ρ mh:=by
   rcases hor with rfl|⟨n,rfl⟩
   ·exact ⟨Ev.refl,rs⟩
   ·exact ⟨Ev.new n,rs.new n⟩
  obtain ⟨H2,I2,ev2,rs2,cs⟩:=Lp L I1 ev1.2 (λq hq'=>hq q (iu _ hq')) (by simpa using hl) λi q v e1 e2=>hv (i+1) q v (by simpa using e1) (by simpa using e2)
  obtain ⟨w,rw_,o,ho,hd⟩:=hv 0 q v rfl rfl;rw [g1] at ho;cases ho;exact ⟨H2,I2,ev1.1.trans ev2,rs2,⟨oc,u,w,ev2.frz _ _ _ f1,hd,rw_⟩,cs⟩
end
theorem Ud (env:Env) (names:List (Str×NameKind)):(Ba env names).map (·.1)=Hh names:=by
 have go:∀ (names:List (Str×NameKind)) (acc:List (Str×Addr)) (acc':List Str),acc.map (·.1)=acc'->(names.foldl (λc x=>Hx env x c) acc).map (·.1)=names.foldl (λc x=>if x.2==.free then x.1::c else c) acc':=by
  intro names
  induction names with
  | nil=>exact λ_ _ h=>h
  | cons x r ih =>
   intro acc acc' h;refine ih _ _ ?_;show List.map (·.1) (Hx env x acc)=(if (x.2==.free)=true then x.1::acc' else acc');unfold Hx;split
   ·rw [mq,h]
   ·exact h
 exact go names [] [] rfl
theorem Nr {loc:DL.Loc}:∀ {js:List Nat}{ds:List D},Gn loc js=some ds->ds.length=js.length/\∀ (t j:Nat) (d:D),js[t]?=some j->ds[t]?=some d->loc[j]?=some (some d)
 | [],ds,h=>by cases h;exact ⟨rfl,λt j d e=>by simp at e⟩
 | j::r,ds,h=>by
  unfold Gn at h;split at h
  ·rename_i d ed;split at h
   ·rename_i ds' er;cases h;obtain ⟨h1,h2⟩:=Nr er;refine ⟨by rw [jk,jk,h1],λt j' d' e1 e2=>?_⟩;cases t with
    | zero=>cases e1;cases e2;exact ed
    | succ t=>exact h2 t j' d' (by simpa using e1) (by simpa using e2)
   ·cases h
  ·cases h
theorem gC {K:aj}{H:Hp}{ρ:List Addr}{loc:DL.Loc}{σ:L2.St}(rl:RL K H ρ loc σ):∀ {js:List Nat}{ds:List D},Gn loc js=some ds->∃ vs,RDs K H ρ ds vs/\∀ (t j:Nat) (v:V),js[t]?=some j->vs[t]?=some v->σ[j]?=some (some v)
 | [],ds,h=>by cases h;exact ⟨[],.nil,λt j v e=>by simp at e⟩
 | j::r,ds,h=>by
  unfold Gn at h;split at h
  ·rename_i d ed;split at h
   ·rename_i ds' er;cases h;obtain ⟨vs,r1,r2⟩:=gC rl er;obtain ⟨v,e1,rd⟩:=rl.2 j d ed;refine ⟨v::vs,.cons rd r1,λt j' v' q1 q2=>?_⟩;cases t with
    | zero=>cases q1;cases q2;exact e1
    | succ t=>exact r2 t j' v' (by simpa using q1) (by simpa using q2)
   ·cases h
  ·cases h
noncomputable def Gz:List Str:=["len", "list", "tuple", "range", "isinstance", "int", "bool", "str", "dict", "set", "sorted", "all", "any", "max", "min", "enumerate", "zip", "sum", "abs", "reversed"]
structure GOk (P:Program) (w:World) (K:aj) (mg:Str->Option Value) (base:Heap) (k:Nat) (G:Gb):Prop where
 fn:∀ x ps f,G.cal x=some (ps,f)->∃ fa fd,mg x=some (.ref fa)/\jm K (.ref fa)=true/\Binds K fd ps []/\FnOk P w K mg base CX0 (k+2) fa fd ps (spD K ps.length f)/\∀ ds mh r,f ds mh=some r->ds.length=ps.length
 con:∀ x d,G.con x=some d->∃ u v,mg x=some u/\RelV v u/\∀ H ρ,RD K H ρ d v
 blt:∀ b∈Gz,mg b=none
 dic:∀ x kvs,G.dic x=some kvs->∃ a,mg x=some (.ref a)/\DicOk w K a kvs
 fld:∀ c f,G.fld c f=true->∃ C,gn K mainGlobals c=some (some (.ref C))/\Cls K C/\bY K C f
 met:∀ c m ps g,G.met c m=some (ps,g)->∃ C fa fd,gn K mainGlobals c=some (some (.ref C))/\Cls K C/\Meth K C m fa/\Binds K fd ps []/\FnOk P w K mg base CX0 (k+2) fa fd ps (spD K ps.length g)/\∀ ds mh r,g ds mh=some r->ds.length=ps.length
 mkr:∀ c f,G.mkr c=some f->∃ C fa fd ps,gn K mainGlobals c=some (some (.ref C))/\Mk K C fa/\mg c=some (.ref C)/\Binds K fd ps []/\FnOk P w K mg base CX0 1 fa fd ps (spN C f)
 clo:T4 P w K mg base (k+2) G.clo
 mk0:∀ c f,G.mk0 c=some f->∃ C fa fd ps,gn K mainGlobals c=some (some (.ref C))/\Mk K C fa/\mg c=some (.ref C)/\Binds K fd ps []/\FnOk P w K mg base CX0 1 fa fd ps (yR C f)
structure LtOk (X:Cx) (sc:SC) (x:Str):Prop where
 qual:X.env.qual=x ++ ".<locals>."
 nm:Vo x = "<lambda>"
 code:∃ (f:Addr) (o:Obj) (fd:FuncData),gn X.K mainGlobals x=some (some (.ref f))/\X.K.lookup f=some o/\o.data=.func fd/\X.env.code=fd.code
 cab:∀ y c,sc.own y=false->X.env.cells.lookup y=some c->X.s₀.heap.objs.size<=c
 fn:∀ y,sc.own y=false->X.fn y=false
structure XOk (X:Cx) (k:Nat) (G:Gb) (sc:SC):Prop where
 N:X.N=sc.N
 nd:sc.N.Nodup
 sco:X.env.scope=sc.scope
 own:∀ x,sc.own x=true->L2.Loc sc.scope x->X.fn x=true\/sc.scope.names.lookup x=some .local
 calm:X.calm=true
 xe:X.xe=λ_ _=>False
 room:Room (k+2) X.A
 g:GOk X.prog X.w X.K X.mg X.base k G
 lt:∀ x pl,sc.lt=some (x,pl)->LtOk X sc x
theorem Du {N:List Str}{x:Str}{i:Nat}(h:slot N x=some i):N[i]?=some x:=by
 unfold slot at h;obtain ⟨hl,hp,_⟩:=List.findIdx?_eq_some_iff_getElem.mp h;rw [bw hl];exact congrArg some (cj hp)
theorem qQ {sc:Scope}{x:Str}(h:fX sc x=true):Vis sc x:=by
 unfold fX at h;split at h
 ·exact .inl (by assumption)
 ·exact .inr (.inl (by assumption))
 ·exact .inr (.inr (by assumption))
 ·cases h
theorem Rc {sc:Scope}{x:Str}(h:Z9 sc x=true):L2.Loc sc x:=by
 unfold Z9 at h;split at h
 ·exact .inl (by assumption)
 ·exact .inr (by assumption)
 ·cases h
theorem gD {sc:Scope}{x:Str}(h:glB sc x=true):sc.names.lookup x=some .globalImplicit:=by
 unfold glB at h;split at h
 ·assumption
 ·cases h
section
variable {X:Cx}{k:Nat}{G:Gb}{sc:SC}
theorem XOk.gl (O:XOk X k G sc) {x:Str}(h:glB sc.scope x=true):Gl X x:=by
 show X.env.scope.names.lookup x=_;rw [O.sco];exact gD h
theorem XOk.vis (O:XOk X k G sc) {x:Str}(h:fX sc.scope x=true):Vis X.env.scope x:=by rw [O.sco];exact qQ h
theorem XOk.units (O:XOk X k G sc):X.A.units+64 < cLine:=O.room.units
theorem Bx {a:Expr}{es:List Expr}{env:Env}(h:isStar a=false):starEach (a::es) env=(false,eval a env)::starEach es env:=by
 cases a <;> first | rfl | cases h
theorem Bf {pos:Pos}{env:Env}:∀ {es:List Expr},(es.all λe=>!isStar e)=true->(backTo pos (starEach es env)).any (·.1)=false
 | [],_=>rfl
 | a::r,h=>by
  rw [BP,au] at h;have h1:isStar a=false:=by simpa using h.1
  rw [Bx h1];show (false || (backTo pos (starEach r env)).any (·.1))=false;rw [Bf h.2];rfl
theorem Rf {pos:Pos}{env:Env}:∀ {es:List Expr},(es.all λe=>!isStar e)=true->(backTo pos (starEach es env)).all (λx=>!x.1)=true
 | [],_=>rfl
 | a::r,h=>by
  rw [BP,au] at h;have h1:isStar a=false:=by simpa using h.1
  rw [Bx h1];show (true&&(backTo pos (starEach r env)).all (λx=>!x.1))=true;rw [Rf h.2];rfl
theorem Eo {o:Expr}{name:Str}{env:Env}{w:Sem Value}(h:baseOk o=true):attributeBase o name env w=w:=by
 cases o <;> try rfl
 rename_i f as kw p;cases f <;> try rfl
 cases as <;> try rfl
 cases kw <;> try rfl
 cases h
theorem Wf {e:Expr}{env:Env}(h:isSet e=false):∀ x,foldedSetIterable e env x=pure x:=by
 intro x;cases e <;> first | rfl | cases h
theorem Kc {op:CmpOp}{e:Expr}(h:isSet e=false):behindInMarks op e=false:=by
 cases e <;> first | rfl | cases h
theorem Adi {b:Expr}(h:isSlice b=false):Qg b:=by
 intro o i;cases b <;> first | rfl | cases h
theorem Nt (O:XOk X k G sc) (scope:Scope):relabel scope X.env=J8 scope sc.scope:=by
 unfold relabel J8 Env.kindOf;rw [O.sco]
theorem K5 (O:XOk X k G sc) {scope:Scope}(h:Mp scope sc=true):CompOk X scope:=by
 unfold Mp at h;rw [au,au] at h;obtain ⟨h1,h2,h3⟩:=h;refine ⟨?_,of_decide_eq_true h2,λp hp e=>?_⟩
 ·split at h1
  ·assumption
  ·cases h1
 ·have:=kj.mp h3 p hp;rw [e] at this;show X.env.scope.names.lookup p.1=_\/X.env.scope.names.lookup p.1=_;rw [O.sco];dsimp only at this;split at this
  ·exact .inl (by assumption)
  ·exact .inr (by assumption)
  ·cases this
theorem Rg {scope:Scope}(h:(scope.names.map (·.1)).Nodup):(Dt scope).Nodup:=by
 unfold Dt;exact h.sublist ((List.filter_sublist).map _)
theorem Ue (O:XOk X k G sc) (scope:Scope):CapOk X (Dt scope) scope (Np sc.N scope):=by
 refine ⟨by unfold Np;rw [aq],λi x j e1 e2=>?_⟩;unfold Np at e2;rw [dj,e1] at e2;simp only [uo,GQ] at e2;split at e2
 ·rename_i hl;exact ⟨hl,by rw [O.N];exact Du e2⟩
 ·cases e2
theorem XOk.comp (O:XOk X k G sc) {scope:Scope}(h:Mp scope sc=true) (pins:List (Addr×Obj)) (C:Addr) (cells:List (Str×Addr)) (s₀:Shared) (H₀:Hp) (fp:List Addr) :
  XOk (Cp X pins (Dt scope) scope C cells s₀ H₀ fp) k G (Ra scope sc):=by
 have S:=K5 O h;refine ⟨rfl,Rg S.nd,Nt O scope,λx hx hl=>?_,O.calm,rfl,O.room,O.g,λ_ _ h=>nomatch h⟩;have hx:Z9 scope x=true:=hx;rcases Rc hx with q|q
 ·right;show (J8 scope sc.scope).names.lookup x=_;rw [← Nt O scope,Fq,q];rfl
 ·left;exact decide_eq_true (ir q)
theorem Ug {x:Str}{i:Nat}(h:iGn sc x=some i):Z9 sc.scope x=true/\sc.own x=true/\slot sc.N x=some i:=by
 unfold iGn at h;split at h
 ·rename_i hc;rw [au] at hc;exact ⟨hc.1,hc.2,h⟩
 ·cases h
theorem XOk.name (O:XOk X k G sc) {x:Str}{i:Nat}{pos:Pos}(h:iGn sc x=some i):PG X (.Name x pos) (bL i):=by
 obtain ⟨h1,h2,h3⟩:=Ug h;have hl:=Rc h1;refine W9 (by rw [O.N];exact O.nd) (by rw [O.N];exact Du h3) (by rw [O.sco];exact hl) ?_;rw [O.sco];exact O.own x h2 hl
theorem XOk.names (O:XOk X k G sc) {es:List Expr}{is:List Nat}(h:iGs sc es=some is):PGs X es (gNs is)/\(assignEach es X.env).length=is.length/\(assignEach es X.env).findIdx? (·.1)=none:=by
 induction es generalizing is with
 | nil=>cases h;exact ⟨nZ,rfl,rfl⟩
 | cons e r ih =>
  cases e with
  | Name x p =>
   simp only [iGs] at h;split at h
   ·rename_i i ei;split at h
    ·rename_i js ej;cases h;obtain ⟨h1,h2,h3⟩:=ih ej;refine ⟨bO (O.name ei) h1 rfl,?_,?_⟩
     ·show (assignEach r X.env).length+1=js.length+1;rw [h2]
     ·show List.findIdx? (λx=>x.1) ((false,assign (.Name x p) X.env)::assignEach r X.env)=none;rw [List.findIdx?_cons];simp only [zj,if_false,h3];rfl
    ·cases h
   ·cases h
  | _=>cases h
theorem XOk.target (O:XOk X k G sc) {tg:Expr}{ws:List Nat}{g:GM}(h:iG sc tg=some (ws,g)):DG X tg ws g:=by
 cases tg with
 | Name x p =>
  simp only [iG] at h;split at h
  ·rename_i i ei;cases h;obtain ⟨h1,h2,h3⟩:=Ug ei;have hl:=Rc h1;refine pW (by rw [O.N];exact O.nd) (by rw [O.N];exact Du h3) (by rw [O.sco];exact hl) ?_;rw [O.sco];exact O.own x h2 hl
  ·cases h
 | Tuple es kk p =>
  simp only [iG] at h;split at h
  ·rename_i is ei;cases h;obtain ⟨h1,h2,h3⟩:=O.names ei;exact yD O.calm h1 h2 h3
  ·cases h
 | _=>cases h
end
section
variable {M:Model}{A:Around}{E:Value->Shared->Prop}{s:Shared}{name qual:Str}{params:Arguments}{body:Expr}{scope:Scope}{env:Env}{c P:Addr}{ps:Array Value}{pos:Pos}{line:Nat}{mg:Str->Option Value}{clos:List (Str×Addr)}{Q:Value->Shared->Prop}
theorem Adj (hcl:closureFor scope env=pure clos) (hge0:env.globals=mainGlobals) (hg:s.heap.Ns mainGlobals mg) (hcode:env.code=.ref c) (C:xq s.heap c P) (hP:s.heap.get? P=some (jc ps)) (ht:TriplesOk ps.toList)
  (hnf:codeAmong pos ps.toList=none) (hgP:mainGlobals≠P) (hb:s.heap.BuiltinsAt mg P)
  (h:∀ c' ctv h' tk P',JW P s.heap h'->s.heap.objs.size<=c'->c' < h'.objs.size->h'.CodeRec (.ref c') qual->h'.get? P=some (jc (ps++#[rawInt pos.line,rawInt pos.col,.ref c']))->s.heap.objs.size<=P'->xq h' c' P'->h'.get? P'=some (jc #[]) ->
   Q (.ref h'.objs.size) { s with heap:=h'.push (PySem.W.kla_obj name qual params body scope clos ((mg "__name__").getD .none) c' ctv),toks:=tk }) :
  wpAny M A (makeFunction name qual params (.expr body) scope env [] [] [] pos line) Q E s:=by
 obtain ⟨bm,ob,b1,b2,_,b3,b4,b5,b6,b7⟩:=hb;rw [makeFunction_eq];simp only [List.zip_nil_right,zc,List.isEmpty_nil,if_true,pure_bind];unfold makeTail;rw [hcl,hge0];refine ao (cu ?_);cases clos with
 | nil =>
  simp only [List.isEmpty_nil,if_true];refine ao (cu (ao (NT hcode (C.code hP ht) (C.tab hP) hnf λc' h' tk hx hge hlt _ hrec htb hn=>?_)));obtain ⟨P',k1,k2,k3⟩:=hn;have g2:=hg.extBut hx hgP;refine ao (QS g2 b1 b2 (hx _ _ b3 b4) b5 b6 b7 (ao (wpAny_nsGet g2 ?_)));exact ao (cu (jo (h c' .none h' tk P' hx hge hlt hrec htb.2 k1 (.of k2 k3) k3.2) (by size_fits)))
 | cons q r =>
  simp only [List.isEmpty_cons,zj,if_false];refine ao (wpAny_newTextTuple ?_);have kp:∀ (oT:Obj) b o,s.heap.get? b=some o->(s.heap.push oT).get? b=some o:=λ_ _ _ e=>ak _ e
  have sz:∀ (oT:Obj) (z:Nat),(s.heap.push oT).objs.size<=z->s.heap.objs.size<=z:=λoT z e=>ig (by rw [ji];exact sy _) e
  refine ao (NT hcode ((C.keeps (kp _)).code (kp _ _ _ hP) ht) ((C.keeps (kp _)).tab (kp _ _ _ hP)) hnf λc' h' tk hx hge hlt _ hrec htb hn=>?_);obtain ⟨P',k1,k2,k3⟩:=hn;have g2:=(hg.push _).extBut hx hgP;have hx2:JW P s.heap h':=λb o n e=>hx b o n (kp _ _ _ e)
  refine ao (QS g2 b1 b2 (hx2 _ _ b3 b4) b5 b6 b7 (ao (wpAny_nsGet g2 ?_)));exact ao (cu (jo (h c' _ h' tk P' hx2 (sz _ _ hge) hlt hrec htb.2 (sz _ _ k1) (.of k2 k3) k3.2) (by size_fits)))
end
theorem Pn {ps:Arguments}{y:Str}(h:Mg ps=some y):∃ p,ps=⟨[],[⟨y,none,p⟩],none,[],[],none,[]⟩:=by
 unfold Mg at h;split at h
 ·cases h;exact ⟨_,rfl⟩
 ·cases h
theorem K6 {y:Str}{p:Pos}{name qual:Str}{body:Expr}{scope:Scope}{cl:List (Str×Addr)}{pm cdv ct:Value}(us:List Value) (hu:us.length=1):bindArgs (vm name qual ⟨[],[⟨y,none,p⟩],none,[],[],none,[]⟩ body scope cl pm cdv ct) ⟨us,[]⟩=pure ([y].zip us):=by
 match us,hu with
 | [u],_=>simp [bindArgs,seqItems?];rfl
theorem Uh {names:List (Str×NameKind)}{x:Str}(h:(x,NameKind.free)∈names):x∈Hh names:=by
 have go:∀ (names:List (Str×NameKind)) (acc:List Str),(x∈acc\/(x,NameKind.free)∈names)->x∈names.foldl (λc x=>if x.2==.free then x.1::c else c) acc:=by
  intro names
  induction names with
  | nil=>exact λacc h=>h.elim id λz=>by simp at z
  | cons y r ih =>
   intro acc h;refine ih _ ?_;rcases h with h|h
   ·left;show x∈(if (y.2==.free)=true then y.1::acc else acc);split
    ·exact iu _ h
    ·exact h
   ·rcases dg.mp h with h|h
    ·left;subst h;show x∈(if (NameKind.free==.free)=true then x::acc else acc);rw [if_pos (by decide)];exact iy
    ·exact .inr h
 exact go names [] (.inr h)
theorem Iv {y:Str}{body:Expr}{scope:Scope}{pos:Pos}{q:Option Str}(h:T8 y scope=true):CloSc (Hw y body scope pos q):=by
 unfold T8 at h;simp only [au,qx,decide_eq_true_eq] at h;obtain ⟨⟨⟨⟨⟨⟨h1,h2⟩,h3⟩,h4⟩,h5⟩,h6⟩,h7⟩:=h;refine ⟨?_,h2,h3,h4,rfl,λz hz=>?_,λz hz e=>?_,λz hz=>Uh (ir hz),λz hz=>cj (kj.mp h7 z hz)⟩
 ·show scope.kind=_;cases e:scope.kind <;> rw [e] at h1 <;> first | rfl | cases h1
 ·rw [jg.mp hz];exact cj h5
 ·have:=kj.mp h6 z hz;rw [e] at this;cases this
theorem Ui {sc:SC}{kd:NameKind}:∀ {fr:List Str}{js:List Nat},Nq sc kd fr=some js->js.length=fr.length/\(∀ (t j:Nat) (z:Str),js[t]?=some j->fr[t]?=some z->sc.N[j]?=some z)/\∀ z∈fr,sc.scope.names.lookup z=some kd/\sc.own z=false
 | [],js,h=>by cases h;exact ⟨rfl,λt j z e=>(by simp at e),λz hz=>(by cases hz)⟩
 | y::r,js,h=>by
  unfold Nq at h;split at h
  ·rename_i hc;rw [au] at hc;split at h
   ·rename_i j js' ej er;cases h;obtain ⟨h1,h2,h3⟩:=Ui er;refine ⟨by rw [jk,jk,h1],λt j' z e1 e2=>?_,λz hz=>?_⟩
    ·cases t with
     | zero=>cases e1;cases e2;exact Du ej
     | succ t=>exact h2 t j' z (by simpa using e1) (by simpa using e2)
    ·rcases dg.mp hz with rfl|hz
     ·exact ⟨cj hc.1,by simpa using hc.2⟩
     ·exact h3 z hz
   ·cases h
  ·cases h
section
variable {X:Cx}{k:Nat}{G:Gb}{sc:SC}
theorem Uj (O:XOk X k G sc) {kd:NameKind}(hkd:kd=.cell\/kd=.free) {y:Str}{body:Expr}{scope:Scope}{pos:Pos}{q:Option Str}{js:List Nat}(S:CloSc (Hw y body scope pos q)) (hj:Nq sc kd (Hh scope.names)=some js) (fn:∀ y,sc.own y=false->X.fn y=false)
  (cab:∀ y c,sc.own y=false->X.env.cells.lookup y=some c->X.s₀.heap.objs.size<=c\/∃ oc u,X.H₀ c=some (.frz oc u)) {loc:DL.Loc} {ds:List D} (el:Gn loc js=some ds) {pins:List (Addr×Obj)} {σ:L2.St} {H:Hp} {s:Shared} {ρ:List Addr} {mh:MH} (I0:Inv X pins σ H s) (rl:RL X.K H ρ loc σ) (rs:RS X.K H ρ mh) :
  ∃ Hz vs,closureFor scope X.env=pure (Ba X.env scope.names)/\(Ba X.env scope.names).map (·.1)=Hh scope.names/\((Ba X.env scope.names).map (·.2)).Nodup/\Inv X pins σ Hz s/\Ev X.K H ρ Hz ρ/\RS X.K Hz ρ mh/\Bu Hz ((Ba X.env scope.names).map (·.2)) vs/\RDs X.K Hz ρ ds vs:=by
 obtain ⟨j1,j2,j3⟩:=Ui hj;obtain ⟨vs,rvs,hvs⟩:=gC rl el;obtain ⟨ld,_⟩:=Nr el;have lv:vs.length=(Hh scope.names).length:=by rw [← rvs.length,ld,j1]
 have hlk:∀ z∈Hh scope.names,X.env.scope.names.lookup z=some kd:=λz hz=>by rw [O.sco];exact (j3 z hz).1
 have hfr:∀ z∈scope.names,z.2=.free->∃ c,X.env.cells.lookup z.1=some c:=λz hz e=>by
  have:=hlk z.1 (Uh (by rw [← e];exact hz));rcases hkd with rfl|rfl
  ·exact I0.ok.has z.1 (.inl this)
  ·exact I0.ok.has z.1 (.inr this)
 have hcl:closureFor scope X.env=pure (Ba X.env scope.names):=Gi hfr;have hcn:=Ud X.env scope.names;have hce:∀ z∈Ba X.env scope.names,X.env.cells.lookup z.1=some z.2:=λz hz=>by
  rcases G9 scope.names [] z.1 z.2 hz with h|⟨h1,h2⟩
  ·simp at h
  ·obtain ⟨c,e⟩:=hfr _ h1 rfl;rw [h2,e];rfl
 have hcd:((Ba X.env scope.names).map (·.2)).Nodup:=by
  have nd1:((Ba X.env scope.names).map (·.1)).Nodup:=by rw [hcn];exact (vd.mp S.nd).2.1
  generalize Ba X.env scope.names=L at nd1 hce
  induction L with
  | nil=>simp
  | cons z L ih =>
   rw [mq,uh] at nd1 ⊢;refine ⟨λhm=>?_,ih nd1.2 λz hz=>hce z (iu _ hz)⟩;obtain ⟨z',hz',e⟩:=gj.mp hm;have e1:=hce z iy;have e2:=hce z' (iu _ hz');rw [e] at e2;exact nd1.1 (gj.mpr ⟨z',hz',I0.ok.inj _ _ _ e2 e1⟩)
 have inF:∀ z∈Ba X.env scope.names,z.1∈Hh scope.names:=λz hz=>by rw [← hcn];exact gj.mpr ⟨z,hz,rfl⟩
 obtain ⟨Hz,Iz,ev0,rs0,cells⟩:=Lp (Ba X.env scope.names) (vs:=vs) I0 rs (λz hz=>⟨hce z hz,fn z.1 (j3 _ (inF z hz)).2,cab z.1 z.2 (j3 _ (inF z hz)).2 (hce z hz)⟩)
  (by rw [lv,← hcn,aq]) λi z v e1 e2=>by
   have e3:(Hh scope.names)[i]?=some z.1:=by rw [← hcn,dj,e1];rfl
   have hi:i < js.length:=by rw [j1];exact (bf.mp e3).1
   have e4:=bw hi;have e5:=hvs i _ v e4 e2;have e6:=j2 i _ z.1 e4 e3;obtain ⟨mm,hns,hl⟩:=I0.loc;have hm:z.1∈Hh scope.names:=di e3
   obtain ⟨u,ru,lk⟩:=hl _ z.1 v (by rw [O.N];exact e6) e5 (by
    rcases hkd with rfl|rfl
    ·exact .inr (.inl (hlk z.1 hm))
    ·exact .inr (.inr (hlk z.1 hm)))
   refine ⟨u,ru,?_⟩;rcases lk with ⟨k,_⟩|⟨_,c,ec,hc⟩
   ·have k:X.env.scope.names.lookup z.1=some .local:=k;rw [hlk z.1 hm] at k;rcases hkd with rfl | rfl <;> cases k
   ·have:=hce z (di e1);rw [ec] at this;cases this;exact hc
 exact ⟨Hz,vs,hcl,hcn,hcd,Iz,ev0,rs0,cells,rvs.mono ev0⟩
theorem gF {H:Hp}{h:Heap}{c P:Addr}{oc:Obj}{u:HO}(e:h.get? c=some oc) (hc:H c=some (.frz oc u)) (x:xq h c P):Jx H (.ref c) P:=by
 obtain ⟨o,vs,file,tf,flags,tg,inF,text,tt,q,r1,r2,r3,r4,r5,r6,r7,r8,r9⟩:=x;rw [e] at q;cases q;exact ⟨c,oc,u,vs,file,tf,flags,tg,inF,text,tt,rfl,hc,r1,r2,r3,r4,r5,r6,r7,r8,r9⟩
theorem aB {P':Program}{w:World}{H:Hp}{h:Heap}{v:Value}{P:Addr}(ok:HOk P' w H h) (x:Jx H v P):∃ c,v=.ref c/\xq h c P:=by
 obtain ⟨c,oc,u,vs,file,tf,flags,tg,inF,text,tt,e,hc,r⟩:=x;exact ⟨c,e,oc,vs,file,tf,flags,tg,inF,text,tt,(ok c _ hc).1,r⟩
section
variable {pins:List (Addr×Obj)}{σ:L2.St}{Hz:Hp}{s:Shared}{ρ:List Addr}{mh:MH}
theorem Wg (I:Inv X pins σ Hz s) {x:Str}{p pl:Addr}{tb:Array Value}(k:M6 X.K x p) (hP:s.heap.get? pl=some (jc tb)):s.heap.BuiltinsAt X.mg pl/\s.heap.Ns mainGlobals X.mg/\mainGlobals≠pl:=by
 obtain ⟨f,o,fd,c,bm,ob,n1,n2,n3,n4,n5,b1,b2,b3,b4,b5,b6,b7⟩:=k;have hg:s.heap.Ns mainGlobals X.mg:=I.mod.glob.keeps I.bk
 refine ⟨⟨bm,ob,ux I.kIn hg b1,b6,b7,(λz=>by
  have e:=I.kIn _ _ b2
  rw [z,hP] at e;cases e;cases b3),I.kIn _ _ b2,b3,b4,b5⟩,hg,λz=>?_⟩
 obtain ⟨o,es,ep,e,hd,_⟩:=hg;rw [z,hP] at e;cases e;cases hd
theorem Rh (I:Inv X pins σ Hz s) {x:Str}{p:Addr}(L:LtOk X sc x) (k:M6 X.K x p):∃ c,X.env.code=.ref c/\xq s.heap c p:=by
 obtain ⟨f,o,fd,c,bm,ob,n1,n2,n3,n4,n5,_⟩:=k;obtain ⟨f',o',fd',m1,m2,m3,m4⟩:=L.code;rw [n1] at m1;cases m1;rw [n2] at m2;cases m2;rw [n3] at m3;cases m3;exact ⟨c,by rw [m4];exact n4,DN I.kIn n5⟩
theorem Uk (Iz:Inv X pins σ Hz s) (rs0:RS X.K Hz ρ mh) {c pl:Addr}{tb:Array Value}{qn:Str}(hcode:X.env.code=.ref c) (C:xq s.heap c pl) (ht:Hz pl=some (.tbl tb)) (tri:TriplesOk tb.toList) (cod:∀ pos v,codeAmong pos tb.toList=some v->H9 Hz v qn) {xk:Str}{pk:Addr}(pkx:M6 X.K xk pk)
  (new:∀ {H1:Hp} {zs:Array Value},RS X.K H1 ρ mh->H1 pl=some (.tbl tb)->TriplesOk zs.toList->(∀ pos v,codeAmong pos zs.toList=some v->H9 (upd H1 pl (.tbl zs)) v qn)->RS X.K (upd H1 pl (.tbl zs)) ρ mh)
  {y:Str} {pp pos:Pos} {body:Expr} {scope:Scope} {ds:List D} {vs:List V} (S:CloSc (Hw y body scope pos none)) (hcl:closureFor scope X.env=pure (Ba X.env scope.names)) (hcn:(Ba X.env scope.names).map (·.1)=Hh scope.names) (hcd:((Ba X.env scope.names).map (·.2)).Nodup)
  (cells:Bu Hz ((Ba X.env scope.names).map (·.2)) vs) (rvs:RDs X.K Hz ρ ds vs) {Q:VK} (co:∀ H2 v,Ev X.K Hz ρ H2 ρ->RS X.K H2 ρ mh->RD X.K H2 ρ (.clo (Hw y body scope pos none) ds) v->Q v H2) :
  wpAny (model X.prog X.w) X.A (makeFunction "<lambda>" qn ⟨[],[⟨y,none,pp⟩],none,[],[],none,[]⟩ (.expr body) scope X.env [] [] [] pos pos.line) (EP X pins σ Q) X.xe s:=by
 have hP:s.heap.get? pl=some (jc tb):=Iz.hok pl _ ht;obtain ⟨hbt,hg,hgP⟩:=Wg Iz pkx hP
 have last:∀ {H2:Hp} {s2:Shared} {a:Addr} {ob:Obj} {pm ctv:Value} {c':Addr},Inv X pins σ H2 s2->Ev X.K Hz ρ H2 ρ->RS X.K H2 ρ mh->H2 a=some (.frz ob uT)->ob.data=.func (vm "<lambda>" qn ⟨[],[⟨y,none,pp⟩],none,[],[],none,[]⟩ body scope (Ba X.env scope.names) pm (.ref c') ctv)->H9 H2 (.ref c') qn->EP X pins σ Q (.ref a) s2:=λ{H2 s2 a ob pm ctv c'} J ev r2 ha hd hcod=>by
  have rc:RD X.K H2 ρ (.clo (Hw y body scope pos none) ds) (.ref a):=.clo ⟨ob,uT,_,Ba X.env scope.names,ha,hd,S,⟨.inr ⟨_,_,_,body,pos,pm,_,ctv,rfl,rfl⟩,λus hu=>K6 us hu⟩,hcod,hcn,hcd,vs,rfl,cells.mono ev.frz⟩ (rvs.mono ev);exact ⟨.ref a,H2,J,rfl,co H2 _ ev r2 rc⟩
 cases hm:codeAmong pos tb.toList with
 | none =>
  refine IW hcl Iz.ok.glob hg hcode C hP tri hm hgP hbt λc' ctv h' tk hx hge hlt hrec htb=>?_
  obtain ⟨c2,oc,ws,tq,e1,e2,e3,e4⟩:=hrec;cases e1;have fc:Hz c'=none:=Iz.hok.fresh hge;have sa:s.heap.objs.size<=h'.objs.size:=yx (FW hge hlt);have fa:Hz h'.objs.size=none:=Iz.hok.fresh sa;have nca:c'≠h'.objs.size:=fu hlt;have npa:h'.objs.size≠pl:=jz (Heap.lt_size htb);have kk:∀ (ob:Obj) b o,b≠pl->s.heap.get? b=some o->(h'.push ob).get? b=some o:=λob b o n e=>ak _ (hx b o n e)
  have rs1:=(rs0.new (o:=.frz oc uT) fc);have t1:upd Hz c' (.frz oc uT) pl=some (.tbl tb):=by rw [Ac (Ad ht fc)];exact ht
  have frz1:∀ a o u,Hz a=some (.frz o u)->upd (upd Hz c' (.frz oc uT)) pl (.tbl (tb++#[rawInt pos.line,rawInt pos.col,.ref c'])) a=some (.frz o u):=λa o u e=>by
   rw [Ac (Ju e ht (by intro z;cases z)),Ac (Ad e fc)];exact e
  have ncp:c'≠pl:=λz=>by subst z;rw [ht] at fc;cases fc
  have cd1:H9 (upd (upd Hz c' (.frz oc uT)) pl (.tbl (tb++#[rawInt pos.line,rawInt pos.col,.ref c']))) (.ref c') qn:=⟨c',oc,uT,ws,tq,rfl,by rw [Ac ncp,Ai],e3,e4⟩
  have rs2:=new (zs:=tb++#[rawInt pos.line,rawInt pos.col,.ref c']) rs1 t1 (by
    simpa using KQ pos.line pos.col (.ref c') _ tri) λpos v z=>by
    rcases Pk _ tri (by simpa using z) with z|z
    ·exact (cod pos v z).mono frz1
    ·subst z;exact cd1
  have f2:upd (upd Hz c' (.frz oc uT)) pl (.tbl (tb++#[rawInt pos.line,rawInt pos.col,.ref c'])) h'.objs.size=none:=by rw [Ac npa,Ac (Ne.symm nca)];exact fa
  refine last (c':=c') (Iz.un (Wc ht fc fa hge sa (kk _) (ak _ htb)) (Rb Iz.hok ht fc fa nca (kk _) (ak _ htb) (ak _ e2) (dh _ rfl)))
   (((Ev.new (o:=.frz oc uT) fc).trans (Ev.tab (zs:=tb++#[rawInt pos.line,rawInt pos.col,.ref c']) t1)).trans (Ev.new f2)) (rs2.new f2) Ai rfl (cd1.mono λa o u e=>by unfold H3;rw [Ac (Ad e f2)];exact e)
 | some cv =>
  obtain ⟨c',oc,u,ws,tq,rfl,e2,e3,e4⟩:=cod pos cv hm;refine xr hcl Iz.ok.glob hg hcode C hP tri hm hbt λctv h' tk hk hsz=>?_
  have fa:Hz h'.objs.size=none:=Iz.hok.fresh hsz;refine last (c':=c') (Iz.laid (o:=.frz _ uT) (t':=tk) (λb u e=>ak _ (hk b u e)) hsz ⟨dh _ rfl,trivial,⟨_,dh _ rfl⟩,λ_ _ _ _=>trivial⟩) (Ev.new fa) (rs0.new fa) Ai rfl ⟨c',oc,u,ws,tq,rfl,by rw [Ac (Ad e2 fa)];exact e2,e3,e4⟩
end
theorem RS.tabR {K:aj}{H:Hp}{ρ:List Addr}{mh:MH}{n:Nat}{p:Addr}{ys zs:Array Value}(h:RS K H ρ mh) (hn:ρ[n]?=some p) {q:Str}(hm:mh[n]?=some (.plr q)) (hp:H p=some (.tbl ys)) (new:cO K (upd H p (.tbl zs)) q p):RS K (upd H p (.tbl zs)) ρ mh :=
 ⟨h.len,h.nd,λm a ob e1 e2=>by
  by_cases hm':n=m
  ·subst hm';rw [hn] at e1;cases e1;rw [hm] at e2;cases e2;exact new
  ·refine (h.obj m a ob e1 e2).mono (Ev.tab hp) ?_;rw [Ac];intro z;subst z
   exact hm' ((vf (bf.mp hn).1 h.nd).mp (hn.trans e1.symm))⟩
section
variable {pins:List (Addr×Obj)}{σ:L2.St}{H Hz:Hp}{s:Shared}{ρ:List Addr}{mh:MH}{x y:Str}{pl:Nat}{pp pos:Pos}{body:Expr}{scope:Scope}{ds:List D}{vs:List V}{Q:VK}
theorem qR (L:LtOk X sc x) (S:CloSc (Hw y body scope pos (some (Ka x)))) (hcl:closureFor scope X.env=pure (Ba X.env scope.names)) (hcn:(Ba X.env scope.names).map (·.1)=Hh scope.names) (hcd:((Ba X.env scope.names).map (·.2)).Nodup) (Iz:Inv X pins σ Hz s) (ev0:Ev X.K H ρ Hz ρ) (rs0:RS X.K Hz ρ mh)
  (cells:Bu Hz ((Ba X.env scope.names).map (·.2)) vs) (rvs:RDs X.K Hz ρ ds vs) (h0:mh[pl]?=some (.plw x none)) (co:Co X.K H ρ (mh.set pl (.plw x (some (pos.line,pos.col,mh.length)))++[.plr (Ka x)]) (.clo (Hw y body scope pos (some (Ka x))) (.ref mh.length::ds)) Q):wpAny (model X.prog X.w) X.A (makeFunction "<lambda>" (Qn x) ⟨[],[⟨y,none,pp⟩],none,[],[],none,[]⟩ (.expr body) scope X.env [] [] [] pos pos.line) (EP X pins σ Q) X.xe s:=by
 obtain ⟨pa,hpl,ro⟩:=rs0.at h0;obtain ⟨ht,pk⟩:=(show cP X.K Hz ρ x pa none from ro);obtain ⟨c,m4,C⟩:=Rh Iz L pk;have hP:s.heap.get? pa=some (jc #[]):=Iz.hok pa _ ht;obtain ⟨hbt,hg,hgP⟩:=Wg Iz pk hP;refine Adj hcl Iz.ok.glob hg m4 C hP (by simp [TriplesOk]) rfl hgP hbt λc' ctv h' tk P' hx hge hlt hrec htb hge' hch hP'=>?_
 obtain ⟨c2,oc,ws,tq,e1,e2,e3,e4⟩:=hrec;cases e1;have fc:Hz c'=none:=Iz.hok.fresh hge;have sa:s.heap.objs.size<=h'.objs.size:=yx (FW hge hlt);have fa:Hz h'.objs.size=none:=Iz.hok.fresh sa;have fp:Hz P'=none:=Iz.hok.fresh hge';have nca:c'≠h'.objs.size:=fu hlt;have npa:h'.objs.size≠pa:=jz (Heap.lt_size htb);have ncp:c'≠pa:=λz=>by subst z;rw [ht] at fc;cases fc
 have np1:P'≠pa:=λz=>by subst z;rw [ht] at fp;cases fp
 have np2:P'≠h'.objs.size:=fu (Heap.lt_size hP');have np3:P'≠c':=by
  obtain ⟨_,_,_,_,_,_,_,_,_,_,_,_,_,_,_,_,_,_,n⟩:=hch;exact Ne.symm n
 have kk:∀ (ob:Obj) b o,b≠pa->s.heap.get? b=some o->(h'.push ob).get? b=some o:=λob b o n e=>ak _ (hx b o n e)
 have t1:upd Hz c' (.frz oc uT) pa=some (.tbl #[]):=by rw [Ac (Ad ht fc)];exact ht
 have f2:upd (upd Hz c' (.frz oc uT)) pa (.tbl (#[]++#[rawInt pos.line,rawInt pos.col,.ref c'])) h'.objs.size=none:=by rw [Ac npa,Ac (Ne.symm nca)];exact fa
 have f3:∀ ob,H3 Hz c' oc pa (#[]++#[rawInt pos.line,rawInt pos.col,.ref c']) h'.objs.size ob P'=none:=λob=>by
  unfold H3;rw [Ac np2,Ac np1,Ac np3];exact fp
 have ev:∀ ob,Ev X.K Hz ρ (upd (H3 Hz c' oc pa (#[]++#[rawInt pos.line,rawInt pos.col,.ref c']) h'.objs.size ob) P' (.tbl #[])) (ρ++[P']):=λob =>
  (((Ev.new (o:=.frz oc uT) fc).trans (Ev.tab (zs:=#[]++#[rawInt pos.line,rawInt pos.col,.ref c']) t1)).trans (Ev.new (o:=.frz ob uT) f2)).trans (Ev.newL (o:=.tbl #[]) (f3 ob))
 have hcC:∀ ob,upd (H3 Hz c' oc pa (#[]++#[rawInt pos.line,rawInt pos.col,.ref c']) h'.objs.size ob) P' (.tbl #[]) c'=some (.frz oc uT):=λob=>by
  unfold H3;rw [Ac (Ne.symm np3),Ac nca,Ac ncp,Ai]
 have cdF:∀ ob,H9 (upd (H3 Hz c' oc pa (#[]++#[rawInt pos.line,rawInt pos.col,.ref c']) h'.objs.size ob) P' (.tbl #[])) (.ref c') (Qn x):=λob=>⟨c',oc,uT,ws,tq,rfl,hcC ob,e3,e4⟩
 have cdH:∀ ob,Jx (upd (H3 Hz c' oc pa (#[]++#[rawInt pos.line,rawInt pos.col,.ref c']) h'.objs.size ob) P' (.tbl #[])) (.ref c') P':=λob=>gF e2 (hcC ob) hch
 have last:(ρ++[P'])[mh.length]?=some P':=by rw [← rs0.len,gb (cg _),CT];rfl
 have rs2:∀ ob,RS X.K (upd (H3 Hz c' oc pa (#[]++#[rawInt pos.line,rawInt pos.col,.ref c']) h'.objs.size ob) P' (.tbl #[])) (ρ++[P']) (mh.set pl (.plw x (some (pos.line,pos.col,mh.length)))++[.plr (Ka x)]):=λob=>by
  refine rs0.two hpl (λm=>?_) (ev ob) (λa ha ne=>?_) ?_ ⟨#[],Ai,by simp [TriplesOk],(λ_ _ z=>by cases z),x,pa,pk⟩
  ·obtain ⟨o,e⟩:=rs0.tracked m;rw [fp] at e;cases e
  ·obtain ⟨o,e⟩:=rs0.tracked ha;unfold H3;rw [Ac (Ad e fp),Ac (Ad e fa),Ac ne,Ac (Ad e fc)]
  ·refine ⟨#[]++#[rawInt pos.line,rawInt pos.col,.ref c'],?_,by simpa using KQ pos.line pos.col (.ref c') [] (by simp [TriplesOk]),pk,λp' l1 l2=>⟨.ref c',P',?_,cdF ob,cdH ob,last⟩⟩
   ·unfold H3;rw [Ac (Ne.symm np1),Ac (Ne.symm npa),Ai]
   ·simp [codeAmong,rawInt,l1,l2]
 have rc:∀ ob pm ctv,ob.data=.func (vm "<lambda>" (Qn x) ⟨[],[⟨y,none,pp⟩],none,[],[],none,[]⟩ body scope (Ba X.env scope.names) pm (.ref c') ctv)->RD X.K (upd (H3 Hz c' oc pa (#[]++#[rawInt pos.line,rawInt pos.col,.ref c']) h'.objs.size ob) P' (.tbl #[])) (ρ++[P']) (.clo (Hw y body scope pos (some (Ka x))) (.ref mh.length::ds)) (.ref h'.objs.size):=λob pm ctv hd =>
  .clo ⟨ob,uT,_,Ba X.env scope.names,(by unfold H3;rw [Ac (Ne.symm np2),Ai]),hd,S,⟨.inr ⟨_,_,_,body,pos,pm,_,ctv,rfl,rfl⟩,λus hu=>K6 us hu⟩,cdF ob,hcn,hcd,vs,⟨rfl,P',rfl,cdH ob⟩,cells.mono (ev ob).frz⟩ (.cons (.ref last) (rvs.mono (ev ob)))
 exact ⟨.ref h'.objs.size,_,Iz.un (Un.add (Wc ht fc fa hge sa (kk _) (ak _ htb)) hge' (f3 _)) (HOk.add (Rb Iz.hok ht fc fa nca (kk _) (ak _ htb) (ak _ e2) (dh _ rfl)) (f3 _) (ak _ hP')),rfl,co _ _ _ (ev0.trans (ev _)) (rs2 _) (rc _ _ _ rfl)⟩
theorem qT (L:LtOk X sc x) (S:CloSc (Hw y body scope pos (some (Ka x)))) (hcl:closureFor scope X.env=pure (Ba X.env scope.names)) (hcn:(Ba X.env scope.names).map (·.1)=Hh scope.names) (hcd:((Ba X.env scope.names).map (·.2)).Nodup) (Iz:Inv X pins σ Hz s) (ev0:Ev X.K H ρ Hz ρ) (rs0:RS X.K Hz ρ mh)
  (cells:Bu Hz ((Ba X.env scope.names).map (·.2)) vs) (rvs:RDs X.K Hz ρ ds vs) {l cl n:Nat} (h0:mh[pl]?=some (.plw x (some (l,cl,n)))) (h1:l=pos.line) (h2:cl=pos.col) (co:Co X.K H ρ mh (.clo (Hw y body scope pos (some (Ka x))) (.ref n::ds)) Q):wpAny (model X.prog X.w) X.A (makeFunction "<lambda>" (Qn x) ⟨[],[⟨y,none,pp⟩],none,[],[],none,[]⟩ (.expr body) scope X.env [] [] [] pos pos.line) (EP X pins σ Q) X.xe s:=by
 obtain ⟨pa,hpl,ro⟩:=rs0.at h0;obtain ⟨tb,ht,tri,pk,hit⟩:=(show cP X.K Hz ρ x pa (some (l,cl,n)) from ro);obtain ⟨c,m4,C⟩:=Rh Iz L pk;have hP:s.heap.get? pa=some (jc tb):=Iz.hok pa _ ht;obtain ⟨hbt,hg,hgP⟩:=Wg Iz pk hP;obtain ⟨v,P',c1,c2,c3,c4⟩:=hit pos h1.symm h2.symm;refine xr hcl Iz.ok.glob hg m4 C hP tri c1 hbt λctv h' tk hk hsz=>?_
 have fa:Hz h'.objs.size=none:=Iz.hok.fresh hsz;have ev:∀ ob,Ev X.K Hz ρ (upd Hz h'.objs.size (.frz ob uT)) ρ:=λob=>Ev.new fa
 have rc:∀ ob pm ctv,ob.data=.func (vm "<lambda>" (Qn x) ⟨[],[⟨y,none,pp⟩],none,[],[],none,[]⟩ body scope (Ba X.env scope.names) pm v ctv)->RD X.K (upd Hz h'.objs.size (.frz ob uT)) ρ (.clo (Hw y body scope pos (some (Ka x))) (.ref n::ds)) (.ref h'.objs.size):=λob pm ctv hd =>
  .clo ⟨ob,uT,_,Ba X.env scope.names,Ai,hd,S,⟨.inr ⟨_,_,_,body,pos,pm,_,ctv,rfl,rfl⟩,λus hu=>K6 us hu⟩,c2.mono (ev ob).frz,hcn,hcd,vs,⟨rfl,P',rfl,c3.mono (ev ob).frz⟩,cells.mono (ev ob).frz⟩ (.cons (.ref c4) (rvs.mono (ev ob)))
 exact ⟨.ref h'.objs.size,_,Iz.laid (o:=.frz _ uT) (t':=tk) (λb u e=>ak _ (hk b u e)) hsz ⟨dh _ rfl,trivial,⟨_,dh _ rfl⟩,λ_ _ _ _=>trivial⟩,rfl,co _ _ _ (ev0.trans (ev _)) (rs0.new fa) (rc _ _ _ rfl)⟩
end
theorem qU (O:XOk X k G sc) {x y:Str}{pl:Nat}(L:LtOk X sc x) {ps:Arguments}{body:Expr}{scope:Scope}{pos:Pos}(hp:Mg ps=some y):DE X (.Lambda ps body scope pos) (fZ sc x pl y body scope pos):=by
 obtain ⟨pp,rfl⟩:=Pn hp;unfold fZ;split
 rotate_left
 ·exact Ak
 rename_i hc;split
 rotate_left
 ·exact Ak
 rename_i js hj
 have hqn:X.env.qual ++ "<lambda>"=Qn x:=by
  rw [L.qual]
  show _=x ++ ".<locals>."++Vo x
  rw [L.nm]
 rintro loc mh pins s σ H Q I0 ⟨ρ,d,mh',q,rl,rs,co⟩;refine JB rfl ?_
 show wpAny (model X.prog X.w) X.A (makeFunction "<lambda>" (X.env.qual ++ "<lambda>") ⟨[],[⟨y,none,pp⟩],none,[],[],none,[]⟩ (.expr body) scope X.env [] [] [] pos pos.line) _ X.xe s;rw [hqn];cases el:Gn loc js with
 | none=>dsimp only at q;rw [el] at q;cases q
 | some ds =>
  dsimp only at q;rw [el] at q
  replace q:Wa x pl y body scope pos ds mh=some (d,mh'):=q
  obtain ⟨Hz,vs,hcl,hcn,hcd,Iz,ev0,rs0,cells,rvs⟩:=Uj O (.inl rfl) (Iv (body:=body) (pos:=pos) (q:=none) hc) hj L.fn (λy c a b=>.inl (L.cab y c a b)) el I0 rl rs;unfold Wa at q;split at q
  ·rename_i z h0;split at q
   rotate_left
   ·cases q
   rename_i hz;have hz:=cj (au _ _ ▸ hz:_/\_).1;subst hz;cases q;obtain ⟨pa,hpl,ro⟩:=rs0.at h0;obtain ⟨tb,ht,tri,cod,pk⟩:=(show cN X.K Hz z pa from ro);obtain ⟨c,m4,C⟩:=Rh Iz L pk;exact Uk Iz rs0 m4 C ht tri cod pk (λr t a b=>r.tabQ hpl h0 t ⟨_,Ai,a,b,pk⟩) (Iv hc) hcl hcn hcd cells rvs λH2 v e r2 rc=>co H2 ρ _ (ev0.trans e) r2 rc
  ·rename_i z o h0;split at q
   rotate_left
   ·cases q
   rename_i hz;have hz:=cj (au _ _ ▸ hz:_/\_).1;subst hz;cases o with
   | none=>cases q;exact qR L (Iv hc) hcl hcn hcd Iz ev0 rs0 cells rvs h0 co
   | some w =>
    obtain ⟨l,cl,n⟩:=w;dsimp only at q;split at q
    ·rename_i hh;rw [au] at hh;cases q;exact qT L (Iv hc) hcl hcn hcd Iz ev0 rs0 cells rvs h0 (cj hh.1) (cj hh.2) co
    ·cases q
  ·cases q
end
structure SndE (G:Gb) (n:Nat):Prop where
 e:∀ {X:Cx} {k:Nat} {sc:SC},XOk X k G sc->∀ e,DE X e (iE G n sc e)
 t:∀ {X:Cx} {k:Nat} {sc:SC},XOk X k G sc->∀ e,DT X e (iT G n sc e)
 a:∀ {X:Cx} {k:Nat} {sc:SC},XOk X k G sc->∀ es,DA X es (iA G n sc es)
 f:∀ {X:Cx} {k:Nat} {sc:SC},XOk X k G sc->∀ es,DIf X es (iF G n sc es)
 i:∀ {X:Cx} {k:Nat} {sc:SC},XOk X k G sc->∀ tg e,DI X tg e (iI G n sc tg e)
theorem X8 {X:Cx}{es:List Expr}:DIf X es Zb:=λpins s σ H Q I ⟨loc,mh,ρ,b,mh',q,_⟩=>by cases q
theorem Hj {X:Cx}{tg e:Expr}:DI X tg e Zb:=λloc mh=>Dw
theorem qW {c:Str}{T:String}(h:tyOf c=some T):T∈["bool", "int", "str", "tuple", "list", "dict"]/\bootBuiltins c=some (.type T)/\c∈Gz:=by
 unfold tyOf at h;split at h
 ·rename_i e;cases h;rw [cj e];exact ⟨by decide,boot_int,by decide +kernel⟩
 ·split at h
  ·rename_i e;cases h;rw [cj e];exact ⟨by decide,boot_bool,by decide +kernel⟩
  ·split at h
   ·rename_i e;cases h;rw [cj e];exact ⟨by decide,boot_str,by decide +kernel⟩
   ·split at h
    ·rename_i e;cases h;rw [cj e];exact ⟨by decide,by decide +kernel,by decide +kernel⟩
    ·split at h
     ·rename_i e;cases h;rw [cj e];exact ⟨by decide,by decide +kernel,by decide +kernel⟩
     ·split at h
      ·rename_i e;cases h;rw [cj e];exact ⟨by decide,by decide +kernel,by decide +kernel⟩
      ·cases h
theorem Ri {X:Cx}{a:Expr}{es:List Expr}{p:Pos}(hs:isStar a=false) (hr:(es.all λe=>!isStar e)=true) (hk:(a::es).length < 20):((backTo p (starEach (a::es) X.env)).all (λx=>!x.1)&&(backToKw p (keywordEach [] X.env)).all (λx=>x.1.isSome)&&decide ((a::es).length+([]:List Keyword).length+(if ([]:List Keyword).isEmpty then 0 else 1) < 30))=true:=by
 rw [Rf (by rw [BP,hs,hr];rfl)];have:decide ((a::es).length+([]:List Keyword).length+(if ([]:List Keyword).isEmpty then 0 else 1) < 30)=true:=decide_eq_true (by simp;simp at hk;omega);rw [this];rfl
theorem gG {X:Cx}{k:Nat}{G:Gb}{sc:SC}(O:XOk X k G sc) {f:Str}{g:Fn}{p pos:Pos}{a:Expr}{es:List Expr}{mr:DM (List D)}(h:fY f=some g) (hg:glB sc.scope f=true) (ha:DA X (a::es) mr) (hn:f ≠ "__name__") (hd:(f==("__debug__":Str))=false) (hs:isStar a=false) (hr:(es.all λe=>!isStar e)=true) :
  DE X (.Call (.Name f p) (a::es) [] pos) (mr.bnd λds=>Zl (g ds)):=by
 unfold fY at h;split at h
 ·rename_i e;cases h;rw [cj e] at hg hn hd ⊢;exact Es Z7 (O.gl hg) (O.g.blt _ (by decide +kernel)) PySem.boot_len ha hn hd (Bx hs) (Bf hr)
 ·split at h
  ·rename_i e;cases h;rw [cj e] at hg hn hd ⊢;exact Ku Vs (O.gl hg) (O.g.blt _ (by decide +kernel)) (by decide +kernel) ha hn hd (Bx hs) (Bf hr)
  ·split at h
   ·rename_i e;cases h;rw [cj e] at hg hn hd ⊢;exact Ku Td (O.gl hg) (O.g.blt _ (by decide +kernel)) (by decide +kernel) ha hn hd (Bx hs) (Bf hr)
   ·split at h
    ·rename_i e;cases h;rw [cj e] at hg hn hd ⊢;exact Es (Zg O.calm) (O.gl hg) (O.g.blt _ (by decide +kernel)) (by decide +kernel) ha hn hd (Bx hs) (Bf hr)
    ·split at h
     ·rename_i e;cases h;rw [cj e] at hg hn hd ⊢;exact Es (X5 (f:=.builtin "any")) (O.gl hg) (O.g.blt _ (by decide +kernel)) (by decide +kernel) ha hn hd (Bx hs) (Bf hr)
     ·split at h
      ·rename_i e;cases h;rw [cj e] at hg hn hd ⊢;exact Es (V0 O.calm) (O.gl hg) (O.g.blt _ (by decide +kernel)) (by decide +kernel) ha hn hd (Bx hs) (Bf hr)
      ·split at h
       ·rename_i e;cases h;rw [cj e] at hg hn hd ⊢;exact Es (V1 O.calm) (O.gl hg) (O.g.blt _ (by decide +kernel)) (by decide +kernel) ha hn hd (Bx hs) (Bf hr)
       ·split at h
        ·rename_i e;cases h;rw [cj e] at hg hn hd ⊢;exact Ku Z3 (O.gl hg) (O.g.blt _ (by decide +kernel)) (by decide +kernel) ha hn hd (Bx hs) (Bf hr)
        ·split at h
         ·rename_i e;cases h;rw [cj e] at hg hn hd ⊢;exact Es Qy (O.gl hg) (O.g.blt _ (by decide +kernel)) (by decide +kernel) ha hn hd (Bx hs) (Bf hr)
         ·split at h
          ·rename_i e;cases h;rw [cj e] at hg hn hd ⊢;exact Es (Z5 O.calm) (O.gl hg) (O.g.blt _ (by decide +kernel)) (by decide +kernel) ha hn hd (Bx hs) (Bf hr)
          ·split at h
           ·rename_i e;cases h;rw [cj e] at hg hn hd ⊢;exact Es (X5 (f:=.builtin "abs")) (O.gl hg) (O.g.blt _ (by decide +kernel)) (by decide +kernel) ha hn hd (Bx hs) (Bf hr)
           ·cases h
theorem Wh {X:Cx}{m:Str}{T:String}{f:D->List D->MH->Option (D×MH)}{o:Expr}{mo:DM D}{ap p:Pos}(h:K4 m 0=some (T,f)) (ho:DE X o mo) (hb:baseOk o=true) (hl:(ap.endLine==p.line)=true):DE X (.Call (.Attribute o m ap) [] [] p) (Bo T f mo (Zr [])):=by
 unfold K4 at h;split at h
 ·rename_i e;rw [au] at e;exact absurd e.2 (by decide)
 ·split at h
  ·rename_i e;rw [au] at e;cases h;rw [cj e.1];exact dW PySem.F.plainAttrs_int PySem.F.slot_int_bit_length PySem.F.type_int_bit_length Nm ho (Eo hb) hl
  ·split at h
   ·rename_i e;rw [au] at e;exact absurd e.2 (by decide)
   ·split at h
    ·rename_i e;rw [au] at e;cases h;rw [cj e.1];exact dW qi KR KY Nm ho (Eo hb) hl
    ·split at h
     ·rename_i e;rw [au] at e;exact absurd e.2 (by decide)
     ·split at h
      ·rename_i e;rw [au] at e;exact absurd e.2 (by decide)
      ·cases h
theorem aC {X:Cx}{m:Str}{T:String}{f:D->List D->MH->Option (D×MH)}{o a:Expr}{es:List Expr}{mo:DM D}{mr:DM (List D)}{ap p:Pos}(h:K4 m (a::es).length=some (T,f)) (ho:DE X o mo) (ha:DA X (a::es) mr) (hb:baseOk o=true) (hl:(ap.endLine==p.line)=true) (hs:isStar a=false) (hr:(es.all λe=>!isStar e)=true) (hk:(a::es).length < 20) :
  DE X (.Call (.Attribute o m ap) (a::es) [] p) (Bo T f mo mr):=by
 have few:((backTo p (starEach (a::es) X.env)).all (λx=>!x.1)&&(backToKw p (keywordEach [] X.env)).all (λx=>x.1.isSome)&&decide ((a::es).length+([]:List Keyword).length+(if ([]:List Keyword).isEmpty then 0 else 1) < 30))=true:=by
  rw [Rf (by rw [BP,hs,hr];rfl)];have:decide ((a::es).length+([]:List Keyword).length+(if ([]:List Keyword).isEmpty then 0 else 1) < 30)=true:=decide_eq_true (by simp;simp at hk;omega);rw [this];rfl
 unfold K4 at h;split at h
 ·rename_i e;rw [au] at e;cases h;rw [cj e.1];exact Li qi PySem.F.slot_list_append PySem.F.type_list_append Vy ho ha (Eo hb) few hl (Bx hs) (Bf hr)
 ·split at h
  ·rename_i e;rw [au] at e;exact absurd (cj e.2) (by simp)
  ·split at h
   ·rename_i e;rw [au] at e;cases h;rw [cj e.1];exact Li qi KR KY Zj ho ha (Eo hb) few hl (Bx hs) (Bf hr)
   ·split at h
    ·rename_i e;rw [au] at e;exact absurd (cj e.2) (by simp)
    ·split at h
     ·rename_i e;rw [au] at e;cases h;rw [cj e.1];exact Li qi PySem.F.slot_list_extend PySem.F.type_list_extend Nm ho ha (Eo hb) few hl (Bx hs) (Bf hr)
     ·split at h
      ·rename_i e;rw [au] at e;cases h;rw [cj e.1];exact Li zm JC JD Nm ho ha (Eo hb) few hl (Bx hs) (Bf hr)
      ·cases h
theorem Wi {X:Cx}{k:Nat}{G:Gb}{sc:SC}(O:XOk X k G sc) {a b:Expr}{op:CmpOp}{i j:Nat}{pos:Pos}(h:X6 sc a op b=some (i,j)) :
  DE X (.Compare a [op] [b] pos) (eE (λloc mh=>match loc[i]? with | some (some d)=>some (d,mh) | _=>none) (λloc mh=>match loc[j]? with | some (some d)=>some (d,mh) | _=>none)):=by cases h
theorem gH (G:Gb):SndE G 0:=⟨λ_ _=>Ak,λ_ _=>Ef,λ_ _=>cR,λ_ _=>X8,λ_ _ _=>Hj⟩
theorem Adk {G:Gb}{n:Nat}(S:SndE G n) {X:Cx}{k:Nat}{sc:SC}(O:XOk X k G sc) (es:List Expr):DA X es (iA G (n+1) sc es):=by
 cases es with
 | nil=>exact Vq
 | cons a r =>
  show DA X (a::r) (if isStar a then Zb else Aa (iE G n sc a) (iA G n sc r));split
  ·exact cR
  ·rename_i h;exact Mi (S.e O a) (S.a O r) (Bx (by simpa using h))
theorem Adl {G:Gb}{n:Nat}(S:SndE G n) {X:Cx}{k:Nat}{sc:SC}(O:XOk X k G sc) (es:List Expr):DIf X es (iF G (n+1) sc es):=by
 cases es with
 | nil=>exact pY
 | cons a r =>
  cases r with
  | nil=>exact pZ (S.t O a)
  | cons b r=>exact X8
theorem Adm {G:Gb}{n:Nat}(S:SndE G n) {X:Cx}{k:Nat}{sc:SC}(O:XOk X k G sc) (tg e:Expr):DI X tg e (iIb (iE G n) (iT G n) (iA G n) (iF G n) (iI G n) G sc tg e):=by
 cases e with
 | Call ff args kws p' =>
  cases ff with
  | Name f p =>
   cases args with
   | nil=>exact Eg (S.e O _)
   | cons a r =>
    cases r with
    | nil =>
     cases kws with
     | nil =>
      delta iIb
      dsimp only;split
      ·rename_i h;rw [au] at h;split
       ·exact Hj
       ·rename_i hs;have hs:isStar a=false:=by simpa using hs
        have e:=cj h.1;subst e;exact Ze (O.gl h.2) (O.g.blt _ (by decide +kernel)) (S.a O [a]) (Bx hs)
      ·split
       ·rename_i h;rw [au] at h;split
        ·exact Hj
        ·rename_i hs;have hs:isStar a=false/\Ej tg=true:=by simpa using hs
         have e:=cj h.1;subst e;cases tg with
         | Tuple es kk tp=>exact Hj
         | _=>cases hs.2
       ·exact Eg (S.e O _)
     | cons _ _=>exact Eg (S.e O _)
    | cons b r =>
     cases r with
     | nil =>
      cases kws with
      | nil =>
       delta iIb
       dsimp only;split
       ·rename_i h;rw [au] at h;split
        ·exact Hj
        ·rename_i hs;have hs:isStar a=false/\isStar b=false:=by simpa using hs
         have e:=cj h.1;subst e;exact Hj
       ·split
        ·rename_i h;rw [au] at h;split
         ·exact Hj
         ·rename_i hs;have hs:(isStar a=false/\isStar b=false)/\Ej tg=true:=by simpa using hs
          have e:=cj h.1;subst e;cases tg with
          | Tuple elts kk tp=>exact yK (O.gl h.2) (O.g.blt _ (by decide +kernel)) (S.a O [a,b]) (Bx hs.1.1) (Bf (by simp [hs.1.2]))
          | _=>cases hs.2
        ·exact Eg (S.e O _)
      | cons _ _=>exact Eg (S.e O _)
     | cons c r =>
      cases r with
      | cons _ _=>exact Eg (S.e O _)
      | nil =>
       cases kws with
       | cons _ _=>exact Eg (S.e O _)
       | nil =>
        delta iIb
        dsimp only;split
        ·rename_i h;rw [au] at h;split
         ·exact Hj
         ·rename_i hs;have hs:(isStar a=false/\isStar b=false)/\isStar c=false:=by simpa using hs
          have e:=cj h.1;subst e;exact Z1 (O.gl h.2) (O.g.blt _ (by decide +kernel)) (S.a O [a,b,c]) (Bx hs.1.1) (Bf (by simp [hs.1.2,hs.2]))
        ·exact Eg (S.e O _)
  | Attribute o m ap =>
   cases args with
   | cons _ _=>exact Eg (S.e O _)
   | nil =>
    cases kws with
    | cons _ _=>exact Eg (S.e O _)
    | nil =>
     delta iIb
     dsimp only;split
     ·rename_i h;simp only [au] at h;obtain ⟨⟨⟨h1,h2⟩,h3⟩,h4⟩:=h;have e:=cj h1;subst e;cases tg with
      | Tuple es kk tp=>exact Hj
      | _=>cases h4
     ·exact Eg (S.e O _)
  | _=>exact Eg (S.e O _)
 | _=>exact Eg (S.e O _)
theorem uH {X:Cx}{op:BoolOp}{vs:List Expr}{p:Pos}{m:DM Bool}(h:DT X (.BoolOp op vs p) m):DW X (.BoolOp op vs p) m:=λloc mh wh pins s σ H Q I q=>h loc mh pins s σ H Q I q
theorem Adn {G:Gb}{n:Nat}(S:SndE G n) {X:Cx}{k:Nat}{sc:SC}(O:XOk X k G sc) (e:Expr):DT X e (iTb (iE G n) (iT G n) (iA G n) (iF G n) (iI G n) G sc e):=by
 cases e with
 | UnaryOp op a p =>
  cases op with
  | Not=>exact xO (S.t O _)
  | _=>exact S9 (S.e O _) λ_=>rfl
 | BoolOp op vs p =>
  cases vs with
  | nil=>cases op <;> exact Ef
  | cons a r =>
   cases r with
   | nil =>
    cases op
    ·exact (pI (S.t O a)).dt
    ·exact (xM (S.t O a)).dt
   | cons b r =>
    cases op
    ·exact (xN (S.t O _) (uH (S.t O _))).dt
    ·exact (Acz (S.t O _) (uH (S.t O _))).dt
 | IfExp c a b p=>exact Ef
 | Compare a ops cs p =>
  cases ops with
  | nil=>exact Ef
  | cons op ops =>
   cases ops with
   | nil =>
    cases cs with
    | nil=>exact Ef
    | cons b cs =>
     cases cs with
     | cons _ _=>exact Ef
     | nil =>
      delta iTb
      dsimp only;split
      ·rename_i neg kvs hd;exact Ef
      ·split
       ·exact Ef
       ·rename_i h;exact xK (Gy O.units _) (Kc (by simpa using h)) (S.e O _) (S.e O _)
   | cons op' ops =>
    cases ops with
    | cons _ _=>exact Ef
    | nil =>
     cases cs with
     | nil=>exact Ef
     | cons b cs =>
      cases cs with
      | nil=>exact Ef
      | cons c cs =>
       cases cs with
       | cons _ _=>exact Ef
       | nil =>
        delta iTb
        dsimp only;split
        ·exact Ef
        ·rename_i h;exact dR (Gy O.units _) (Gy O.units _) (by show behindInMarks _ _=false;exact Kc (by simpa using h)) (S.e O _) (S.e O _) (S.e O _)
 | _=>exact S9 (S.e O _) λ_=>rfl
theorem Ado {G:Gb}{n:Nat}(S:SndE G n) {X:Cx}{k:Nat}{sc:SC}(O:XOk X k G sc) (e:Expr):DE X e (iEb (iE G n) (iT G n) (iA G n) (iF G n) (iI G n) G sc e):=by
 cases e with
 | Constant c _ _ =>
  cases c with
  | int i=>exact pF vG λ_ _ _=>.int _
  | bool b=>exact pF Aby λ_ _ _=>.bl _
  | none=>exact pF vH λ_ _ _=>.non
  | str x=>exact pF vI λ_ _ _=>.str _
  | _=>exact Ak
 | Name x p =>
  delta iEb
  dsimp only;split
  ·rename_i h;rw [au,au] at h;obtain ⟨⟨h1,h2⟩,h3⟩:=h;split
   ·rename_i i ei;exact cT (by rw [O.N];exact Du ei) (O.vis h1) (by simpa using h2) (by simpa using h3)
   ·exact Ak
  ·split
   ·rename_i h;rw [au] at h;split
    ·rename_i d ed;obtain ⟨u,v,h1,h2,h3⟩:=O.g.con _ _ ed;exact λloc mh=>Bt (nP (O.gl h.1) h1 h2 (by simpa using h.2)) λσ H Q ⟨ρ,d',mh',q,rl,rs,co⟩=>by
      cases q;exact co H ρ v Ev.refl rs (h3 H ρ)
    ·exact Ak
   ·exact Ak
 | BinOp a op b _ =>
  delta iEb
  dsimp only;split
  ·rename_i f ef;exact Acw (qN ef) (S.e O _) (S.e O _)
  ·exact Ak
 | UnaryOp op a _ =>
  cases op with
  | USub=>exact Acy qD (S.e O _)
  | Not=>exact xR (S.e O _)
  | _=>exact Ak
 | BoolOp op vs _ =>
  cases vs with
  | nil=>cases op <;> exact Ak
  | cons a r =>
   cases r with
   | nil=>cases op <;> exact xP (S.e O _)
   | cons b r =>
    cases op
    ·exact xQ (S.e O _) (S.e O _)
    ·exact Ac1 (S.e O _) (S.e O _)
 | Compare a ops cs _ =>
  cases ops with
  | nil=>exact Ak
  | cons op ops =>
   cases ops with
   | nil =>
    cases cs with
    | nil=>exact Ak
    | cons b cs =>
     cases cs with
     | cons _ _=>exact Ak
     | nil =>
      delta iEb
      dsimp only;split
      ·rename_i i j hp;exact Wi O hp
      ·split
       ·rename_i neg kvs hd;exact Ak
       ·split
        ·exact Ak
        ·rename_i h;exact xJ (Gy O.units _) (Kc (by simpa using h)) (S.e O _) (S.e O _)
   | cons op' ops =>
    cases ops with
    | cons _ _=>exact Ak
    | nil =>
     cases cs with
     | nil=>exact Ak
     | cons b cs =>
      cases cs with
      | nil=>exact Ak
      | cons c cs =>
       cases cs with
       | cons _ _=>exact Ak
       | nil =>
        delta iEb
        dsimp only;split
        ·exact Ak
        ·rename_i h;exact dO (Gy O.units _) (Gy O.units _) (by show behindInMarks _ _=false;exact Kc (by simpa using h)) (S.e O _) (S.e O _) (S.e O _)
 | IfExp c a b _=>exact Ac0 (S.t O _) (S.e O _) (S.e O _)
 | Tuple es _ _=>exact xT (S.a O _)
 | List es _=>exact xU (S.a O _)
 | Dict ks vs p =>
  delta iEb
  dsimp only;split
  ·rename_i h;rw [au,au] at h;exact Ak
  ·split
   ·rename_i kk vv hh;obtain ⟨rfl,rfl⟩:=aA hh;exact Ak
   ·exact Ak
 | Subscript a b _ =>
  have gen:DE X (.Subscript a b ‹_›) (if isSlice b then (if X4 b then (iE G n sc a).bnd λx=>Zl (dF x) else Zb) else (match T9 G sc a with | some kvs=>Zb | none=>dop ixD (iE G n sc a) (iE G n sc b))):=by
   split
   ·split
    ·rename_i h;obtain ⟨k,p1,p2,p3,rfl⟩:=V9 h;exact xY (S.e O _)
    ·exact Ak
   ·rename_i h;split
    ·rename_i kvs hd;exact Ak
    ·exact Acx (Afc (by have:=O.room.un;omega)) (Adi (by simpa using h)) (S.e O _) (S.e O _)
  cases b with
  | Slice lo hi st _ =>
   cases st with
   | none =>
    refine dB (S.e O _) ?_ ?_
    ·cases lo with
     | none=>trivial
     | some e=>exact S.e O e
    ·cases hi with
     | none=>trivial
     | some e=>exact S.e O e
   | some s=>exact gen
  | _=>exact gen
 | Attribute o f _ =>
  delta iEb
  dsimp only;split
  ·rename_i h;exact Ak
  ·exact Ak
 | Call ff args kws p' =>
  cases ff with
  | Name f p =>
   cases kws with
   | cons kw ks =>
    cases args with
    | nil=>exact Ak
    | cons a es =>
     cases es with
     | cons _ _=>exact Ak
     | nil =>
      delta iEb
      dsimp only;split
      ·rename_i h;simp only [au] at h;obtain ⟨⟨⟨h1,h4⟩,h5⟩,h6⟩:=h;have h4:isStar a=false:=by simpa using h4
       have h6:ks=[]:=by simpa using h6
       subst h6;obtain ⟨j,cp,kp,rfl⟩:=Ua h5;split
       ·rename_i hf;have e:=cj hf;subst e;exact Ak
       ·split
        ·rename_i hf;have e:=cj hf;subst e;exact Ak
        ·exact Ak
      ·exact Ak
   | nil =>
    cases args with
    | nil =>
     delta iEb
     dsimp only;split
     ·rename_i h;rw [au] at h;split
      ·rename_i g eg;obtain ⟨fa,fd,h1,h2,h3,h4,h5⟩:=O.g.fn _ _ _ eg;exact dJ (E:=E0) h4 O.room (O.gl h.1) h1 h2 h3 Ow (by simpa using h.2)
      ·exact Ak
      ·split
       ·rename_i fl hb;obtain ⟨C,fa,fd,ps,g1,g2,g3,g4,g5⟩:=O.g.mk0 _ _ hb;exact fU (E:=E0) g1 g2 g5 (O.room.mono (by omega)) (O.gl h.1) g3 g4 Ow (by simpa using h.2)
       ·exact Ak
     ·exact Ak
    | cons a es =>
     delta iEb
     dsimp only;split
     ·rename_i h;simp only [au] at h;obtain ⟨⟨⟨⟨h1,h2⟩,h3⟩,h4⟩,h5⟩:=h;have h4:isStar a=false:=by simpa using h4
      split
      ·rename_i i ei;exact fP (by omega) (λy ps f h=>O.g.fn y ps f h) O.g.clo O.room (by rw [O.N];exact Du ei) (O.vis h1) Ow (S.a O _) (by simpa using h2) (by simpa using h3) (Bx h4) (Bf h5)
      ·exact Ak
     split
     ·rename_i h;simp only [au] at h;obtain ⟨⟨⟨⟨h1,h2⟩,h3⟩,h4⟩,h5⟩:=h
      have h2:(f==("__debug__":Str))=false:=by simpa using h2
      have h3:f ≠ "__name__":=by simpa using h3
      have h4:isStar a=false:=by simpa using h4
      split
      ·rename_i ps g eg;obtain ⟨fa,fd,g1,g2,g3,g4,g5⟩:=O.g.fn _ _ _ eg;exact Xr (E:=E0) g4 O.room (O.gl h1) g1 g2 g3 Ow (S.a O _) g5 h2 (Bx h4) (Bf h5)
      ·split
       ·rename_i fl hb;exact Ak
       split
       ·rename_i b hb;cases hb
       ·split
        ·rename_i b c hb;cases hb
        ·split
         ·rename_i b hb;cases hb
         ·split
          ·rename_i b c hb;cases hb
          ·split
           ·rename_i b hb;cases hb
           ·split
            ·rename_i hf;split
             ·rename_i c pc;split
              ·rename_i hc;simp only [au] at hc;obtain ⟨⟨c1,c2⟩,c3⟩:=hc;split
               ·rename_i T eT;obtain ⟨t1,t2,t3⟩:=qW eT;have e:=cj hf;subst e;exact yH t1 (O.gl h1) (O.g.blt _ (by decide +kernel)) (O.gl c1) (O.g.blt _ t3) t2 (by simpa using c3) (by simpa using c2) (S.e O a) (Bx h4)
               ·exact Ak
              ·exact Ak
             ·exact Ak
            ·split
             ·rename_i g eg;exact gG O eg h1 (S.a O _) h3 h2 h4 h5
             ·exact Ak
     ·exact Ak
  | Attribute o m ap =>
   cases kws with
   | cons _ _=>cases args <;> exact Ak
   | nil =>
    cases args with
    | nil =>
     delta iEb
     dsimp only;split
     ·rename_i h;rw [au] at h;split
      ·rename_i T f eT;exact Wh eT (S.e O _) h.1 h.2
      ·exact Ak
     ·exact Ak
    | cons a es =>
     delta iEb
     dsimp only;split
     ·rename_i h;simp only [au] at h;obtain ⟨⟨⟨⟨h1,h2⟩,h3⟩,h4⟩,h5⟩:=h;split
      ·rename_i hm;have em:=cj hm;subst em;rw [qx] at h3;split
       ·rename_i kvs hd;exact Ak
       ·exact Ak
      split
      ·rename_i hm;rw [au] at hm;have em:=cj hm.1;subst em;rw [qx] at h3;exact Tw (Li zm PySem.F.slot_tuple_count PySem.F.type_tuple_count Nm (S.e O _) (S.a O _) (Eo h1) (Ri h3 h4 (of_decide_eq_true h5)) h2 (Bx h3) (Bf h4))
        (Li qi BJ PySem.F.type_list_count fL (S.e O _) (S.a O _) (Eo h1) (Ri h3 h4 (of_decide_eq_true h5)) h2 (Bx h3) (Bf h4))
      split
      ·rename_i hm;rw [au] at hm;have em:=cj hm.1;subst em;rw [qx] at h3;exact Tw (Li zm JC JD Nm (S.e O _) (S.a O _) (Eo h1) (Ri h3 h4 (of_decide_eq_true h5)) h2 (Bx h3) (Bf h4))
        (Li qi PySem.F.slot_list_index PySem.F.type_list_index Nm (S.e O _) (S.a O _) (Eo h1) (Ri h3 h4 (of_decide_eq_true h5)) h2 (Bx h3) (Bf h4))
      split
      ·rename_i T f eT;exact aC eT (S.e O _) (S.a O _) h1 h2 (by simpa using h3) h4 (of_decide_eq_true h5)
      ·rw [qx] at h3;exact Ak
     ·exact Ak
  | _=>cases args <;> exact Ak
 | Lambda ps body scope pos =>
  show DE X _ (match sc.lt,Mg ps with | some (x,pl),some y=>fZ sc x pl y body scope pos | _,_=>Zb);cases hlt:sc.lt with
  | none=>exact Ak
  | some w =>
   obtain ⟨x,pl⟩:=w;cases hp:Mg ps with
   | none=>exact Ak
   | some y=>exact qU O (O.lt x pl hlt) hp
 | ListComp elt gens scope p =>
  cases gens with
  | nil=>exact Ak
  | cons g gens =>
   obtain ⟨tg,iter,ifs,kk⟩:=g;cases gens with
   | cons _ _=>exact Ak
   | nil =>
    delta iEb
    dsimp only;split
    ·rename_i h;simp only [au] at h;obtain ⟨⟨h1,h2⟩,h3⟩:=h;have e:=cj h1;subst e;split
     ·rename_i ws g eg;split
      ·rename_i hw;refine qC (N':=Dt scope) O.calm (K5 O h2) (Ue O scope) (λi hi j q=>?_) (S.i O tg iter) (λp C c s h f=>(O.comp h2 p C c s h f).target eg) (λp C c s h f=>S.f (O.comp h2 p C c s h f) ifs) (λp C c s h f=>S.e (O.comp h2 p C c s h f) elt) (Wf (by simpa using h3));have z:=kj.mp hw i hi;rw [q] at z;cases z
      ·exact Ak
     ·exact Ak
    ·exact Ak
 | _=>exact Ak
theorem snd (G:Gb):∀ n,SndE G n
 | 0=>gH G
 | n+1=>⟨λO=>Ado (snd G n) O,λO=>Adn (snd G n) O,λO=>Adk (snd G n) O,λO=>Adl (snd G n) O,λO=>Adm (snd G n) O⟩
structure LamT (lps:Arguments) (body:Expr) (lsc:Scope):Prop where
 d:∀ env,defaultsOf lps env=([],[])
 c:∀ env,closureFor lsc env=pure []
 f:∀ name qual pm cdv ct,Xg (vm name qual lps body lsc [] pm cdv ct)
section
variable {X:Cx}
theorem zE {lps:Arguments}{body:Expr}{lsc:Scope}{lpos:Pos}{loc:DL.Loc}{mh:MH}(L:LamT lps body lsc) (hq:X.env.qual ++ "<lambda>"=pB)
  (hX:∃ (f:Addr) (o:Obj) (fd:FuncData),gn X.K mainGlobals "pattern_of"=some (some (.ref f))/\X.K.lookup f=some o/\o.data=.func fd/\X.env.code=fd.code) (h0:mh[0]?=some .plc) :
  PE X (.Lambda lps body lsc lpos) (tD X.K loc mh (some (.lam,mh))):=by
 rintro pins s σ H Q I ⟨ρ,d,mh',q,rl,rs,co⟩;cases q;obtain ⟨pl,hpl,ro⟩:=rs.at h0;obtain ⟨tb,ht,tri,cod,pk⟩:=(show cM X.K H pl from ro);obtain ⟨f,o,fd,c,bm,ob,n1,n2,n3,n4,n5,b1,b2,b3,b4,b5,b6,b7⟩:=id pk;obtain ⟨f',o',fd',m1,m2,m3,m4⟩:=hX;rw [n1] at m1;cases m1;rw [n2] at m2;cases m2;rw [n3] at m3;cases m3;rw [n4] at m4;have hP:s.heap.get? pl=some (jc tb):=I.hok pl _ ht;have C:=DN I.kIn n5;have hg:s.heap.Ns mainGlobals X.mg:=I.mod.glob.keeps I.bk;have hgP:mainGlobals≠pl:=λz=>by
  obtain ⟨o,es,ep,e,hd,_⟩:=hg;rw [z,hP] at e;cases e;cases hd
 have hb:s.heap.BuiltinsAt X.mg pl:=⟨bm,ob,ux I.kIn hg b1,b6,b7,(λz=>by
  have e:=I.kIn _ _ b2
  rw [z,hP] at e;cases e;cases b3),I.kIn _ _ b2,b3,b4,b5⟩
 refine JB (L.d _) ?_;rw [hq];cases hm:codeAmong lpos tb.toList with
 | none =>
  refine IW (L.c _) I.ok.glob hg m4 C hP tri hm hgP hb λc' ctv h' tk hx hge hlt hrec htb=>?_
  obtain ⟨c2,oc,vs,tq,e1,e2,e3,e4⟩:=hrec;cases e1;have fc:H c'=none:=I.hok.fresh hge;have sa:s.heap.objs.size<=h'.objs.size:=yx (FW hge hlt);have fa:H h'.objs.size=none:=I.hok.fresh sa;have nca:c'≠h'.objs.size:=fu hlt;have npa:h'.objs.size≠pl:=jz (Heap.lt_size htb);have kk:∀ (ob:Obj) b o,b≠pl->s.heap.get? b=some o->(h'.push ob).get? b=some o:=λob b o n e=>ak _ (hx b o n e)
  have rs1:=(rs.new (o:=.frz oc uT) fc);have t1:upd H c' (.frz oc uT) pl=some (.tbl tb):=by rw [Ac (Ad ht fc)];exact ht
  have fr:∀ a o u,H a=some (.frz o u)->upd (upd H c' (.frz oc uT)) pl (.tbl (tb++#[rawInt lpos.line,rawInt lpos.col,.ref c'])) a=some (.frz o u):=λa o u e=>by
   rw [Ac (Ju e ht (by intro z;cases z)),Ac (Ad e fc)];exact e
  have ncp:c'≠pl:=λz=>by subst z;rw [ht] at fc;cases fc
  have cd1:H9 (upd (upd H c' (.frz oc uT)) pl (.tbl (tb++#[rawInt lpos.line,rawInt lpos.col,.ref c']))) (.ref c') pB:=⟨c',oc,uT,vs,tq,rfl,by rw [Ac ncp,Ai],e3,e4⟩
  have rs2:=rs1.tab (zs:=tb++#[rawInt lpos.line,rawInt lpos.col,.ref c']) hpl h0 t1 ⟨_,Ai,by
    simpa using KQ lpos.line lpos.col (.ref c') _ tri,λpos v z=>by
    rcases Pk _ tri (by simpa using z) with z|z
    ·exact (cod pos v z).mono fr
    ·subst z;exact cd1,pk⟩
  have f2:upd (upd H c' (.frz oc uT)) pl (.tbl (tb++#[rawInt lpos.line,rawInt lpos.col,.ref c'])) h'.objs.size=none:=by rw [Ac npa,Ac (Ne.symm nca)];exact fa
  have ev:Ev X.K H ρ _ ρ:=((Ev.new (o:=.frz oc uT) fc).trans (Ev.tab (zs:=tb++#[rawInt lpos.line,rawInt lpos.col,.ref c']) t1)).trans (Ev.new (o:=.frz (PySem.W.kla_obj "<lambda>" pB lps body lsc [] ((X.mg "__name__").getD .none) c' ctv) uT) f2);refine ⟨.ref h'.objs.size,H3 H c' oc pl _ h'.objs.size _,I.un (Wc ht fc fa hge sa (kk _) (ak _ htb)) (Rb I.hok ht fc fa nca (kk _) (ak _ htb) (ak _ e2) (dh _ rfl)),rfl,?_⟩;exact co _ ρ _ ev (rs2.new f2) (.lam ⟨_,uT,_,Ai,rfl,L.f _ _ _ _ _,cd1.mono λa o u e=>by unfold H3;rw [Ac (Ad e f2)];exact e⟩)
 | some cv =>
  obtain ⟨c',oc,u,vs,tq,rfl,e2,e3,e4⟩:=cod lpos cv hm;refine xr (L.c _) I.ok.glob hg m4 C hP tri hm hb λctv h' tk hk hsz=>?_
  have fa:H h'.objs.size=none:=I.hok.fresh hsz;refine ⟨.ref h'.objs.size,upd H h'.objs.size (.frz _ uT),I.laid (t':=tk) (λb u e=>ak _ (hk b u e)) hsz ⟨dh _ rfl,trivial,⟨_,dh _ rfl⟩,λ_ _ _ _=>trivial⟩,rfl,?_⟩;exact co _ ρ _ (Ev.new fa) (rs.new fa) (.lam ⟨_,uT,_,Ai,rfl,L.f _ _ _ _ _,c',oc,u,vs,tq,rfl,by rw [Ac (Ad e2 fa)];exact e2,e3,e4⟩)
noncomputable def zF:DM D:=λ_ mh=>match mh[0]? with
 | some MO.plc=>some (D.lam,mh)
 | _=>none
end
theorem Ih {K:aj}{H:Hp}{ρ:List Addr}{N:List Str}{ds:List D}{vs:List V}(r:RDs K H ρ ds vs):RL K H ρ (ds.map some++iz (N.length - ds.length) none) (L2.start N vs):=by
 have hl:=r.length;unfold L2.start;refine ⟨by simp [hl],λi d e=>?_⟩
 by_cases hi:i < ds.length
 ·rw [dw (by simpa using hi),dj] at e;cases q:ds[i]? with
  | none=>rw [q] at e;cases e
  | some d' =>
   rw [q] at e;cases e;obtain ⟨v,e1,r1⟩:=r.get q;exact ⟨v,by rw [dw (by simp;omega),dj,e1];rfl,r1⟩
 ·rw [gb (by simpa using hi),wk] at e;split at e <;> cases e
noncomputable def Nu (st:Stmt) (a y:Str):Prop:=∃ p1 p2 p3 rpos cpos lps body lsc lpos,Av st=[.Return (some (.Call (.Name y p1) [.Name a p2,.Name a p3,.Lambda lps body lsc lpos] [] cpos)) rpos]/\LamT lps body lsc /\
  glB (Ag st) y=true/\(y==("__debug__":Str))=false/\(a==("__debug__":Str))=false/\(a==("__classdict__":Str))=false
theorem zG {P:Program}{w:World}{K:aj}{mg:Str->Option Value}{base:Heap}{k:Nat}{G:Gb}{st:Stmt}{f:Addr}{fd:FuncData}{N:List Str}{a y:Str}(g:GOk P w K mg base k G) (F:Fun K "pattern_of" "pattern_of" st f fd)
  (hn:gn K mainGlobals "pattern_of"=some (some (.ref f))) (S:FnScope N [a] (Ag st)) (L:Nu st a y):FnOk P w K mg base CX0 (k+3) f fd [a] (spD K 1 (lamF G y)):=by
 obtain ⟨⟨oc,od,kV,doc,pm,an,cdv,ct,osl,rfl,lk,hcd⟩,kp⟩:=F;obtain ⟨p1,p2,p3,rpos,cpos,lps,body,lsc,lpos,hb,LT,hy,hyd,ha1,ha2⟩:=L;refine tZ lk hcd S (λvs H Q E h=>h.1) λA outer s H vs Q E hr h=>?_
 obtain ⟨hl,ρ,mh,ds,d,mh',q,rs,r,co⟩:=h;unfold lamF at q;split at q
 ·rename_i d0 ps gf h0 hg;obtain ⟨fa,fdz,g1,g2,g3,g4,g5⟩:=g.fn _ _ _ hg;have hN:N[0]?=some a:=by
   have:=S.pre
   match N,this with
   | n::r,z=>simp at z;rw [z];rfl
  have va:Vis (Ag st) a:=(S.par a (by simp)).elim .inl λh=>.inr (.inl h)
  have dl:DE (Jw CX0 P w K mg base N "pattern_of" (Ag st) f cdv A outer s H E) (.Lambda lps body lsc lpos) zF:=λloc mh=>by
   unfold zF;split
   ·rename_i h0;exact zE LT rfl ⟨f,_,_,hn,lk,rfl,rfl⟩ h0
   ·exact Dq
  have dv:∀ p,DE (Jw CX0 P w K mg base N "pattern_of" (Ag st) f cdv A outer s H E) (.Name a p) _:=λp=>cT (i:=0) hN va ha1 ha2
  have dc:=Xr (p:=p1) (pos:=cpos) g4 hr (gD hy) g1 g2 g3 Ow (Mi (dv p2) (Mi (dv p3) (Mi dl Vq rfl) rfl) rfl) g5 hyd rfl rfl;refine ⟨_,by rw [hb];exact Te (dH (pos:=rpos) dc) Xq,?_⟩;refine ⟨_,mh,ρ,.rt d,[d0].map some++iz (N.length - [d0].length) none,mh',?_,Ih r,rs,co⟩;cases N with
  | nil=>cases hN
  | cons n r =>
   simp [Ab,retS,DM.bnd,Aa,Zr,Zl,zF,h0,q]
 ·cases q
theorem Iw {X:Cx}{st:Stmt}{g:GM}:DS X st (Ao Zb g):=λ_ _ _ _ _ _ h=>by obtain ⟨_,_,_,_,_,_,e,_⟩:=h;cases e
theorem Wj {G:Gb}{X:Cx}{k:Nat}{sc:SC}(O:XOk X k G sc) (n:Nat) {y:Str}{py vp spos:Pos}{elt:Expr}{gens:List Comprehension}{scope:Scope}{ws:List Nat}{gy:GM}(hgy:iG sc (.Name y py)=some (ws,gy)) :
  DS X (.Assign [.Name y py] (.ListComp elt gens scope vp) spos) (Ao (iE G n sc (.ListComp elt gens scope vp)) gy):=by
 have hg:=O.target hgy;have sw:swapsWith (.ListComp elt gens scope vp) (some (.Name y py)) spos.line X.env=pure (X.env.blockKind==.function&&X.env.kindOf y==some .local&&py.line==vp.line&&!(scope.names.any λ(n,k)=>n==y&&(k==.local || k==.cell))):=rfl;cases hb:(X.env.blockKind==.function&&X.env.kindOf y==some .local&&py.line==vp.line&&!(scope.names.any λ(n,k)=>n==y&&(k==.local || k==.cell))) with
 | false =>
  rw [hb] at sw;exact Vw ((snd G n).e O _) hg sw rfl rfl
 | true =>
  rw [hb] at sw;cases n with
  | zero=>exact Iw
  | succ n =>
   show DS X _ (Ao (iEb (iE G n) (iT G n) (iA G n) (iF G n) (iI G n) G sc _) gy)
   match gens with
   | []=>exact Iw
   | ⟨_,_,_,_⟩::_::_=>exact Iw
   | [⟨tg,iter,ifs,kk⟩] =>
    delta iEb
    dsimp only;split
    ·rename_i h;simp only [au] at h;obtain ⟨⟨h1,h2⟩,h3⟩:=h;have e:=cj h1;subst e;split
     ·rename_i ws g eg;split
      ·rename_i hw;refine Vx (N':=Dt scope) O.calm (K5 O h2) (Ue O scope) (λi hi j q=>?_) ((snd G n).i O tg iter) (λp C c s h f=>(O.comp h2 p C c s h f).target eg) (λp C c s h f=>(snd G n).f (O.comp h2 p C c s h f) ifs) (λp C c s h f=>(snd G n).e (O.comp h2 p C c s h f) elt) hg sw (Wf (by simpa using h3));have z:=kj.mp hw i hi;rw [q] at z;cases z
      ·exact Iw
     ·exact Iw
    ·exact Iw
theorem Ul {v tg:Expr}{line:Nat}{env:Env}(h:Iu v=false):swapsWithSole [tg] v line env=pure false:=by
 show swapsWith v (some tg) line env=pure false;cases v <;> first | rfl | cases h
theorem aD {v:Expr}{line:Nat}{env:Env}(h:Iu v=false):swapsWith v none line env=pure false:=by
 cases v <;> first | rfl | cases h
theorem Lq {v tg:Expr}{env:Env}(h:(Ej tg&&Ej v)=false) (hl:∀ es p,tg≠.List es p):swappedStores [tg] v env=pure none:=by
 cases tg with
 | Tuple ts kk p =>
  cases v with
  | Tuple vs k2 p2=>cases h
  | _=>rfl
 | List es p=>exact (hl es p rfl).elim
 | _=>first | rfl | (cases v <;> rfl)
theorem zH {x y:Str}{a b:Expr}{px py pt pt2:Pos}{kt k2:Nat}{env:Env}(hb:(env.blockKind==.function)=true) (hx:(env.kindOf x==some .local)=true) (hy:(env.kindOf y==some .local)=true) (hl:(py.line==px.line)=true) (hne:(x==y)=false) (sa:isStar a=false) (sb:isStar b=false)
  (hf:[a,b].all (foldedForSure 8)=false) (hc:[a,b].all (constantsAlone 8)=false):swappedStores [.Tuple [.Name x px,.Name y py] kt pt] (.Tuple [a,b] k2 pt2) env=pure (some [x,y]):=by
 have he:([x,y].eraseDups.length != [x,y].length)=false:=by
  have:(y==x)=false:=by
   cases q:(y==x) with
   | false=>rfl
   | true=>rw [cj q] at hne;simp at hne
  simp [List.eraseDups_cons,this,hne]
 have hbk:(env.blockKind != .function)=false:=by rw [bne,hb];rfl
 have e1:(Option.map (λe:Expr=>e.pos.line) [Expr.Name x px,Expr.Name y py].head?).getD 0=px.line:=rfl;unfold swappedStores;dsimp only;refine (if_neg ?_).trans ?_
 ·simp [hbk]
 refine (if_neg ?_).trans ?_
 ·simp only [List.any_cons,List.any_nil,Bool.or_false];rw [Bool.not_eq_true,MJ];constructor
  ·cases a <;> first | rfl | cases sa
  ·cases b <;> first | rfl | cases sb
 simp only [e1,qy,zc,hx,hy,hl,beq_self_eq_true,Bool.and_self,if_true];refine (if_neg ?_).trans ?_
 ·rw [he];simp
 rw [if_neg (by rw [hf];simp),if_neg (by rw [hc];simp)]
theorem zJ {X:Cx}{i j:Nat}{x y:Str}{a b:Expr}{mr:DM (List D)}{px py pt pt2 pos:Pos}{kt k2:Nat}(hc:X.calm=true) (hN:X.N.Nodup) (hi:X.N[i]?=some x) (hj:X.N[j]?=some y) (hij:i≠j) (hx:X.env.scope.names.lookup x=some .local) (hy:X.env.scope.names.lookup y=some .local) (ha:DA X [a,b] mr)
  (hw:swappedStores [.Tuple [.Name x px,.Name y py] kt pt] (.Tuple [a,b] k2 pt2) X.env=pure (some [x,y])):DS X (.Assign [.Tuple [.Name x px,.Name y py] kt pt] (.Tuple [a,b] k2 pt2) pos) (zA mr i j):=by
 rintro pins s σ H N I ⟨loc,mh,ρ,f,loc',mh',e,rl,rs,co⟩;refine vY hc hN hi hj hij hx hy (ha loc mh) hw rfl pins s σ H N I ?_;unfold zA at e;split at e
 ·rename_i d1 d2 h1 er;cases e;refine ⟨ρ,[d1,d2],mh',er,rl,rs,λH' ρ' vs e' rs' r'=>?_⟩;cases r' with
  | cons r1 r' =>
   cases r' with
   | cons r2 r' =>
    cases r';exact ⟨_,_,rfl,co H' ρ' _ e' rs' (((rl.mono e').set r1).set r2)⟩
 ·cases e
theorem Adp (G:Gb) (n:Nat) (ihss:∀ {X:Cx}{k:Nat}{sc:SC},XOk X k G sc->∀ ss,DSs X ss (iSs G n sc ss)) {X:Cx}{k:Nat}{sc:SC}(O:XOk X k G sc) (s:Stmt):DS X s (iSb n (iSs G n) G sc s):=by
 have S:=snd G n;cases s with
 | Expr e p =>
  delta iSb
  dsimp only;split
  ·exact Eh
  ·rename_i h;exact pU (S.e O _) (aD (by simpa using h))
 | Pass _=>exact pQ
 | Break _=>exact dG
 | Continue _=>exact Tf
 | Return e _ =>
  cases e with
  | some e=>exact dH (S.e O _)
  | none=>exact pR
 | Assign ts v p =>
  cases ts with
  | nil=>exact Eh
  | cons tg r =>
   cases r with
   | cons _ _=>exact Eh
   | nil =>
    have gen:DS X (.Assign [tg] v p) (if Iu v || (Ej tg&&Ej v) then SM.bad else (match iGt G n sc tg with | some g=>Ao (iE G n sc v) g | none=>SM.bad)):=by
     split
     ·exact Eh
     ·rename_i h;have h:Iu v=false/\(Ej tg&&Ej v)=false:=by
       rw [Bool.not_eq_true,MJ] at h;exact h
      split
      ·rename_i g eg;have gen:(match iG sc tg with | some (_,g)=>some g | none=>none)=some g->DS X (.Assign [tg] v p) (Ao (iE G n sc v) g):=λeg=>by
        split at eg
        ·rename_i ws g' eg';cases eg;refine Vw (S.e O _) (O.target eg') (Ul h.1) (Lq h.2 (λes p z=>by subst z;simp [iG] at eg')) ?_;cases tg <;> first | rfl | (simp [iG] at eg')
        ·cases eg
       cases tg with
       | Subscript o i p' =>
        simp only [iGt] at eg;split at eg
        ·cases eg
        ·rename_i hs;cases eg;have hs:isSlice i=false:=by simpa using hs
         refine Vw (S.e O _) (yE (S.e O _) (S.e O _) ?_) (Ul h.1) (Lq h.2 (λ_ _ z=>by cases z)) rfl;intro v';cases i <;> first | rfl | cases hs
       | _=>exact gen eg
      ·exact Eh
    cases tg with
    | Name y py =>
     cases v with
     | ListComp elt gens scope vp =>
      delta iSb
      dsimp only
      delta zB
      dsimp only;split
      ·rename_i ws g eg;exact Wj O n eg
      ·exact Eh
     | _=>exact gen
    | Tuple tl kt pt =>
     cases tl with
     | nil=>exact gen
     | cons t1 tl =>
      cases t1 with
      | Name x px =>
       cases tl with
       | nil=>exact gen
       | cons t2 tl =>
        cases t2 with
        | Name y py =>
         cases tl with
         | cons _ _=>exact gen
         | nil =>
          cases v with
          | Tuple vl k2 pt2 =>
           cases vl with
           | nil=>exact gen
           | cons a vl =>
            cases vl with
            | nil=>exact gen
            | cons b vl =>
             cases vl with
             | cons _ _=>exact gen
             | nil =>
              delta iSb
              dsimp only
              delta zB
              dsimp only;split
              ·rename_i h;unfold Adh at h;simp only [au,qx] at h;obtain ⟨⟨⟨⟨⟨⟨⟨⟨h1,h2⟩,h3⟩,h4⟩,h5⟩,h6⟩,h7⟩,h8⟩,h9⟩:=h;split
               ·rename_i i j ei ej;have hi:=Du ei;have hj:=Du ej;refine zJ O.calm (by rw [O.N];exact O.nd) (by rw [O.N];exact hi) (by rw [O.N];exact hj) (λz=>?_) (by rw [O.sco];exact cj h2) (by rw [O.sco];exact cj h3) (S.a O _) (zH ?_ ?_ ?_ h4 h5 h6 h7 h8 h9)
                ·subst z;rw [hi] at hj;cases hj;simp at h5
                ·unfold Env.blockKind;rw [O.sco];exact h1
                ·unfold Env.kindOf;rw [O.sco];exact h2
                ·unfold Env.kindOf;rw [O.sco];exact h3
               ·exact Eh
              ·exact Eh
          | _=>exact gen
        | _=>exact gen
      | _=>exact gen
    | _=>exact gen
 | If c a b _=>exact Ac5 (S.t O _) (ihss O _) (ihss O _)
 | For tg it body els _ =>
  cases els with
  | cons _ _=>exact Eh
  | nil =>
   delta iSb
   dsimp only;split
   ·exact Eh
   ·rename_i h;split
    ·rename_i ws g eg;refine yF ?_ O.calm (S.i O _ _) (O.target eg) (ihss O _) (Wf (by simpa using h));rw [O.xe];exact PassesOwn.never
    ·exact Eh
 | _=>exact Eh
theorem qX (G:Gb) (n:Nat):(∀ {X:Cx}{k:Nat}{sc:SC},XOk X k G sc->∀ s,DS X s (iS G n sc s))/\(∀ {X:Cx}{k:Nat}{sc:SC},XOk X k G sc->∀ ss,DSs X ss (iSs G n sc ss)):=by
 induction n with
 | zero=>exact ⟨λ_ _=>Eh,λ_ _ _ _ _ _ _ _ h=>by obtain ⟨_,_,_,_,_,_,e,_⟩:=h;cases e⟩
 | succ n ih =>
  refine ⟨λ{X k sc} O s=>Adp G n (λO ss=>ih.2 O ss) O s,λ{X k sc} O ss=>?_⟩;cases ss with
  | nil=>exact Xq
  | cons s r=>exact Te (ih.1 O s) (ih.2 O r)
theorem gJ {P:Program}{w:World}{K:aj}{mg:Str->Option Value}{base:Heap}{k:Nat}{G:Gb}{x qual:Str}{st:Stmt}{f:Addr}{fd:FuncData}{I:FnI}(g:GOk P w K mg base k G) (F:Fun K x qual st f fd) (S:FnScope I.N I.ps (Ag st))
  (hs:I.scope=Ag st) (hb:I.body=Av st) (n:Nat):FnOk P w K mg base CX0 (k+3) f fd I.ps (spD K I.ps.length (Af G n I)):=by
 refine F.ok S (λvs H Q E h=>h.1) λcdv A outer s H vs Q E hr h=>?_
 obtain ⟨hl,ρ,mh,ds,d,mh',q,rs,r,co⟩:=h;refine ⟨_,(qX G n).2 (sc:={ N:=I.N,scope:=I.scope,own:=λ_=>true }) ⟨rfl,S.nd,hs.symm,λ_ _ _=>.inl rfl,rfl,rfl,hr,g,λ_ _ h=>nomatch h⟩ (Av st),?_⟩;unfold Af at q;split at q
 ·split at q
  ·rename_i d' loc' m' e;cases q;exact ⟨_,mh,ρ,.rt d,loc',mh',by rw [← hb];exact e,Ih r,rs,co⟩
  ·rename_i loc' m' e;cases q;exact ⟨_,mh,ρ,.nx,loc',mh',by rw [← hb];exact e,Ih r,rs,λH' ρ' σ' e' rs' _=>co H' ρ' _ e' rs' .non⟩
  ·cases q
 ·cases q
theorem Um {G:Gb}{n:Nat}{I:FnI}{ds:List D}{mh:MH}{r:D×MH}(h:Af G n I ds mh=some r):ds.length=I.ps.length:=by
 unfold Af at h;split at h
 ·assumption
 ·cases h
theorem aF {e:Expr}{g:Str}{a b:Expr}{ps:Arguments}{body:Expr}{sc:Scope}{pos:Pos}(h:T7 e=some (g,a,b,ps,body,sc,pos)):∃ p1 p2,e=.Call (.Name g p1) [a,b,.Lambda ps body sc pos] [] p2:=by
 unfold T7 at h;split at h
 ·cases h;exact ⟨_,_,rfl⟩
 ·cases h
noncomputable def tDp (K:aj) (t:Nat) (p:Addr) (loc:DL.Loc) (mh:MH) (r:Option (D×MH)):TE:=λσ H Q=>∃ ρ d mh',ρ[t]?=some p/\r=some (d,mh')/\RL K H ρ loc σ/\RS K H ρ mh/\Co K H ρ mh' d Q
noncomputable def qY (K:aj) (t:Nat) (p:Addr) (loc:DL.Loc) (mh:MH) (r:Option (List D×MH)):TA:=λσ H Q=>∃ ρ ds mh',ρ[t]?=some p/\r=some (ds,mh')/\RL K H ρ loc σ/\RS K H ρ mh/\∀ H' ρ' vs,Ev K H ρ H' ρ'->RS K H' ρ' mh'->RDs K H' ρ' ds vs->Q vs H'
section
variable {X:Cx}{k:Nat}{G:Gb}{sc:SC}{t:Nat}{p:Addr}
theorem Uo {a:Expr}{es:List Expr}{ma:DM D}{mr:DM (List D)}(ha:DE X a ma) (hr:∀ loc mh,PA X es (qY X.K t p loc mh (mr loc mh))) (hs:starEach (a::es) X.env=(false,eval a X.env)::starEach es X.env) (loc:DL.Loc) (mh:MH):PA X (a::es) (qY X.K t p loc mh (Aa ma mr loc mh)):=by
 cases ea:ma loc mh with
 | none =>
  have:Aa ma mr loc mh=none:=by unfold Aa DM.bnd;rw [ea]
  rw [this];rintro pos pins s σ H Q I ⟨_,_,_,_,z,_⟩;cases z
 | some w =>
  obtain ⟨x,m1⟩:=w;refine Qp (G8 (ha loc mh) (hr loc m1) hs) ?_;rintro σ H Q ⟨ρ,ds,mh',hp,q,rl,rs,co⟩;obtain ⟨x2,m2,ea2,q⟩:=Al q;rw [ea] at ea2;cases ea2;obtain ⟨xs,m2,er,q'⟩:=Al q;cases q';exact ⟨ρ,x,m1,ea,rl,rs,λH1 ρ1 v e1 rs1 r1=>⟨ρ1,xs,mh',e1.at hp,er,rl.mono e1,rs1,λH2 ρ2 vs e2 rs2 r2=>co H2 ρ2 _ (e1.trans e2) rs2 (.cons (r1.mono e2) r2)⟩⟩
theorem gK {a:Expr}{ma:DM D}(ha:∀ loc mh,PE X a (tDp X.K t p loc mh (ma loc mh))) (hs:starEach [a] X.env=(false,eval a X.env)::starEach [] X.env) (loc:DL.Loc) (mh:MH):PA X [a] (qY X.K t p loc mh (Aa ma (Zr []) loc mh)):=by
 cases ea:ma loc mh with
 | none =>
  have:Aa ma (Zr []) loc mh=none:=by unfold Aa DM.bnd;rw [ea]
  rw [this];rintro pos pins s σ H Q I ⟨_,_,_,_,z,_⟩;cases z
 | some w =>
  obtain ⟨x,m1⟩:=w;refine Qp (G8 (ha loc mh) (Vq loc m1) hs) ?_;rintro σ H Q ⟨ρ,ds,mh',hp,q,rl,rs,co⟩;obtain ⟨x2,m2,ea2,q⟩:=Al q;rw [ea] at ea2;cases ea2;obtain ⟨xs,m2,er,q'⟩:=Al q;cases q';exact ⟨ρ,x,m1,hp,ea,rl,rs,λH1 ρ1 v e1 rs1 r1=>⟨ρ1,xs,mh',er,rl.mono e1,rs1,λH2 ρ2 vs e2 rs2 r2=>co H2 ρ2 _ (e1.trans e2) rs2 (.cons (r1.mono e2) r2)⟩⟩
theorem gM {CX:CXT}{k:Nat}{fa:Addr}{fd:FuncData}{ps:List Str}{f:List D->MH->Option (D×MH)}{x:Str}{p1 pos:Pos}{a:Expr}{es:List Expr}{mr:DM (List D)}{E:XK}
  (F:FnOk X.prog X.w X.K X.mg X.base CX k fa fd ps (spD X.K ps.length f)) (hr:Room k X.A) (hg:Gl X x) (hm:X.mg x=some (.ref fa)) (hk:jm X.K (.ref fa)=true) (hb:Binds X.K fd ps []) (hx:Dj CX X E)
  (ha:∀ loc mh,PA X (a::es) (qY X.K t p loc mh (mr loc mh))) (hf:∀ ds mh r,f ds mh=some r->ds.length=ps.length) (hdb:(x==("__debug__":Str))=false) (he:starEach (a::es) X.env=(false,eval a X.env)::starEach es X.env) (hpl:(backTo pos (starEach es X.env)).any (·.1)=false) (loc:DL.Loc) (mh:MH) :
  PE X (.Call (.Name x p1) (a::es) [] pos) (tDp X.K t p loc mh ((mr.bnd λds=>Zl (f ds)) loc mh)):=by
 refine Bt (Xd F hr hg hm hk hb .nil hx (ha loc mh) hdb he hpl) ?_;rintro σ H Q ⟨ρ,d,mh',hp,q,rl,rs,co⟩;obtain ⟨ds,m1,ea,q⟩:=Al q;refine ⟨ρ,ds,m1,hp,ea,rl,rs,λH1 ρ1 vs e1 rs1 r1=>?_⟩;show spD X.K ps.length f (vs++[]) H1 Q E;rw [ni];exact ⟨by rw [← r1.length];exact hf _ _ _ q,ρ1,m1,ds,d,mh',q,rs1,r1,co.ev e1⟩
theorem qZ (O:XOk X k G sc) {q y:Str}{ps:Arguments}{body:Expr}{scope:Scope}{pos:Pos}(hp:Mg ps=some y) (hq:X.env.qual ++ "<lambda>"=q) (hC:Jx X.H₀ X.env.code p) (fn:∀ y,sc.own y=false->X.fn y=false)
  (cab:∀ y c,sc.own y=false->X.env.cells.lookup y=some c->X.s₀.heap.objs.size<=c\/∃ oc u,X.H₀ c=some (.frz oc u)) (loc:DL.Loc) (mh:MH):PE X (.Lambda ps body scope pos) (tDp X.K t p loc mh (gB sc t q y body scope pos loc mh)):=by
 obtain ⟨pp,rfl⟩:=Pn hp;rintro pins s σ H Q I0 ⟨ρ,d,mh',hpt,e,rl,rs,co⟩;unfold gB at e
 by_cases hc:T8 y scope=true
 rotate_left
 ·rw [if_neg hc] at e;cases e
 rw [if_pos hc] at e;cases hj:Nq sc .free (Hh scope.names) with
 | none=>rw [hj] at e;cases e
 | some js =>
 rw [hj] at e;dsimp only at e;cases el:Gn loc js with
 | none=>rw [el] at e;cases e
 | some ds =>
  rw [el] at e;dsimp only at e;split at e
  rotate_left
  ·cases e
  rename_i z h0;split at e
  rotate_left
  ·cases e
  rename_i hz;have hz:=cj hz;cases e;refine JB rfl ?_
  show wpAny (model X.prog X.w) X.A (makeFunction "<lambda>" (X.env.qual ++ "<lambda>") ⟨[],[⟨y,none,pp⟩],none,[],[],none,[]⟩ (.expr body) scope X.env [] [] [] pos pos.line) _ X.xe s;rw [hq,← hz];obtain ⟨Hz,vs,hcl,hcn,hcd,Iz,ev0,rs0,cells,rvs⟩:=Uj O (.inr rfl) (Iv (body:=body) (pos:=pos) (q:=none) hc) hj fn cab el I0 rl rs;obtain ⟨tb,ht,tri,cod,xk,pk,pkx⟩:=(show cO X.K Hz z p from rs0.obj t p _ hpt h0);obtain ⟨c,m4,C⟩:=aB Iz.hok (hC.mono Iz.base.frzs);exact Uk Iz rs0 m4 C ht tri cod pkx (λr t1 a b=>r.tabR hpt h0 t1 ⟨_,Ai,a,b,xk,pk,pkx⟩) (Iv hc) hcl hcn hcd cells rvs λH2 v e r2 rc=>co H2 ρ _ (ev0.trans e) r2 rc
end
noncomputable def Uq (P:Program) (w:World) (K:aj) (mg:Str->Option Value) (base:Heap) (I:CloI) (qual:Str) (f:Addr) (cd:Value) (cl:List (Str×Addr)) (A:Around) (outer:List Env) (s:Shared) (H:Hp):Cx where
 prog:=P
 w:=w
 K:=K
 mg:=mg
 base:=base
 A:=A.deeper (QF qual I.scope s.heap.objs.size f cd cl)
 N:=I.N++I.fr
 s₀:=s
 H₀:=H
 env:=QF qual I.scope s.heap.objs.size f cd cl
 outer:=outer
 stack:=QF qual I.scope s.heap.objs.size f cd cl::outer
 ex:=[]
 calm:=true
 fn:=λy=>!(I.fr.contains y)
 pn:=[]
 xe:=λ_ _=>False
theorem Bu.get {H:Hp}:∀ {cs:List Addr}{vs:List V}{i:Nat}{c:Addr},Bu H cs vs->cs[i]?=some c->∃ v oc u w,vs[i]?=some v/\H c=some (.frz oc u)/\oc.data=.cell (some w)/\RelV v w
 | [],[],i,c,_,e=>by simp at e
 | _::_,_::_,0,c,⟨⟨oc,u,w,h1,h2,h3⟩,_⟩,e=>by simp at e;subst e;exact ⟨_,oc,u,w,rfl,h1,h2,h3⟩
 | _::_,_::_,i+1,c,⟨_,t⟩,e=>by
  obtain ⟨v,oc,u,w,h0,h1,h2,h3⟩:=Bu.get (i:=i) t (by simpa using e);exact ⟨v,oc,u,w,by simpa using h0,h1,h2,h3⟩
theorem Bu.len {H:Hp}:∀ {cs:List Addr}{vs:List V},Bu H cs vs->cs.length=vs.length
 | [],[],_=>rfl
 | _::_,_::_,⟨_,t⟩=>by rw [jk,jk,Bu.len t]
theorem aG {α:Type}:∀ {cl:List (Str×α)}{i:Nat}{x:Str}{c:α},(cl.map (·.1)).Nodup->cl[i]?=some (x,c)->cl.lookup x=some c:=λ{cl i x c} nd e=>Ci nd (di e)
theorem Rj {α:Type}{cl:List (Str×α)}{x:Str}{c:α}(e:cl.lookup x=some c):∃ i:Nat,cl[i]?=some (x,c):=by
 obtain ⟨i,hi,e2⟩:=wj (ir e);exact ⟨i,by rw [bw hi,e2]⟩
theorem Wk {us:List Value}:∀ {ps:List Str}{i:Nat}{x:Str}{u:Value},ps.Nodup->ps[i]?=some x->us[i]?=some u->(ps.zip us).reverse.lookup x=some u:=λ{ps i x u} nd h1 h2=>by
 refine Ci ?_ (List.mem_reverse.mpr (di (i:=i) ?_))
 ·rw [List.map_reverse];have h:((ps.zip us).map (·.1)).Nodup:=by
   refine List.Nodup.sublist ?_ nd
   clear h1 h2 nd
   induction ps generalizing us with
   | nil=>simp
   | cons p ps ih =>
    cases us with
    | nil=>simp
    | cons u us=>exact (ih (us:=us)).cons_cons p
  exact List.pairwise_reverse.mpr (h.imp λz=>Ne.symm z)
 ·rw [List.getElem?_zip_eq_some];exact ⟨h1,h2⟩
section
variable {P:Program}{w:World}{K:aj}{mg:Str->Option Value}{base:Heap}{k:Nat}{G:Gb}
theorem Pq {I:CloI}{qual:Str}{f:Addr}{cd:Value}{cl:List (Str×Addr)}{A:Around}{outer:List Env}{s:Shared}{H:Hp}{us:List Value}{vs xs:List V}{h₁:Heap}{tk:Nat}
  (S:CloSc I) (hn:cl.map (·.1)=I.fr) (hnd:(cl.map (·.2)).Nodup) (hc:Bu H (cl.map (·.2)) xs) (hd:A.handled=none) (e0:Env0 P w K mg base A outer s H) (hl:vs.length=I.ps.length) (r:Vals vs us)
  (hns:h₁.Ns s.heap.objs.size (λx=>(I.ps.zip us).reverse.lookup x)) (hk:∀ b o,s.heap.get? b=some o->h₁.get? b=some o) :
  Inv (Uq P w K mg base I qual f cd cl A outer s H) [] (vs.map some++iz (I.N.length - vs.length) none++xs.map some) H { s with heap:=h₁,toks:=tk }:=by
 have noA:∀ b:Addr,b ∉ ([]:List Addr):=λb z=>absurd z (by simp)
 have ndF:(cl.map (·.1)).Nodup:=by rw [hn];exact (vd.mp S.nd).2.1
 have ndN:=(vd.mp S.nd).1;have hpl:I.ps.length<=I.N.length:=by have:=congrArg List.length S.pre;rw [jj] at this;omega
 have at_:∀ x c,cl.lookup x=some c->∃ i v oc u wv,cl[i]?=some (x,c)/\xs[i]?=some v/\H c=some (.frz oc u)/\oc.data=.cell (some wv)/\RelV v wv:=λx c e=>by
  obtain ⟨i,ei⟩:=Rj e;obtain ⟨v,oc,u,wv,h0,h1,h2,h3⟩:=hc.get (i:=i) (c:=c) (by rw [dj,ei];rfl);exact ⟨i,v,oc,u,wv,ei,h0,h1,h2,h3⟩
 have cellAt:∀ {c:Addr} {oc:Obj} {u:HO} {wv:Value},H c=some (.frz oc u)->oc.data=.cell (some wv)->h₁.IsCell c (some wv):=λh1 h2=>⟨_,hk _ _ (e0.hok _ _ h1).1,h2⟩
 have frN:∀ x c,cl.lookup x=some c->x∈I.fr:=λx c e=>by
  rw [← hn];exact gj.mpr ⟨(x,c),ir e,rfl⟩
 have fnF:∀ x,x∈I.fr->(Uq P w K mg base I qual f cd cl A outer s H).fn x=false:=λx hx=>by
  show (!(I.fr.contains x))=false;rw [List.contains_iff_mem.mpr hx];rfl
 refine ⟨⟨e0.mod,S.kind,rfl,rfl,cg _,λy z c h1 h2=>?_,λy hy=>?_,λy c h1 h2=>?_,λ_=>hd,LC e0.frames,.inr ⟨rfl,rfl⟩,λb z=>absurd z (noA b),e0.bs,e0.bsz,λb _ _=>noA b,λb z=>absurd z (noA b),e0.funs,e0.frf⟩,
  rfl,e0.bare,Un.kept hk,⟨_,hns,λi y v h1 h2 h3=>?_⟩,λy c h=>?_,e0.hok.fresh (cg _),λy c h=>?_,λp hp=>absurd (show p∈([]:List (Addr×Obj)) from hp) (by simp),e0.hok.kept hk,?_⟩
 ·have h1:cl.lookup y=some c:=h1;have h2:cl.lookup z=some c:=h2;obtain ⟨i,ei⟩:=Rj h1;obtain ⟨j,ej⟩:=Rj h2;have e1:(cl.map (·.2))[i]?=some c:=by rw [dj,ei];rfl
  have e2:(cl.map (·.2))[j]?=some c:=by rw [dj,ej];rfl
  have:i=j:=(vf (bf.mp e1).1 hnd).mp (e1.trans e2.symm);subst this;rw [ei] at ej;cases ej;rfl
 ·have hy:I.scope.names.lookup y=some .cell\/I.scope.names.lookup y=some .free:=hy;rcases hy with hy|hy
  ·exact absurd rfl (S.nocell _ (ir hy))
  ·have:=S.free y hy;rw [← hn] at this;obtain ⟨⟨a,c⟩,hm,rfl⟩:=gj.mp this;exact ⟨c,Ci ndF hm⟩
 ·rw [fnF y (frN y c h2)] at h1;cases h1
 ·have h1:(I.N++I.fr)[i]?=some y:=h1;have lm:(vs.map some++iz (I.N.length - vs.length) none:List (Option V)).length=I.N.length:=by
   rw [bh,aq,BZ];omega
  by_cases hi:i < I.N.length
  ·rw [dw hi] at h1;rw [dw (by rw [lm];exact hi)] at h2
   by_cases hv:i < vs.length
   ·rw [dw (by simpa using hv),dj] at h2;have ha:vs[i]?=some v:=by
     cases e:vs[i]? with
     | none=>rw [e] at h2;cases h2
     | some a=>rw [e] at h2;cases h2;rfl
    obtain ⟨u,hu,rv⟩:=r.get ha;have hp:I.ps[i]?=some y:=by
     rw [← S.pre,HN (by omega)];exact h1
    have ndP:I.ps.Nodup:=by rw [← S.pre];exact ndN.sublist (QH _ _)
    exact ⟨u,rv,.inl ⟨S.par y (di hp),Wk ndP hp hu⟩⟩
   ·rw [gb (by simpa using hv),wk] at h2;split at h2 <;> cases h2
  ·rw [gb (by omega)] at h1;rw [gb (by rw [lm];omega),lm,dj] at h2;rw [← hn,dj] at h1;cases ec:cl[i - I.N.length]? with
   | none=>rw [ec] at h1;cases h1
   | some q =>
    obtain ⟨x,c⟩:=q;rw [ec] at h1;cases h1;obtain ⟨v',oc,u,wv,g0,g1,g2,g3⟩:=hc.get (i:=i - I.N.length) (c:=c) (by rw [dj,ec];rfl);rw [g0] at h2;cases h2;refine ⟨wv,g3,.inr ⟨?_,c,aG ndF ec,cellAt g1 g2⟩⟩;rcases h3 with z|z|z
    ·exact .inr (by
      have hf:x∈I.fr:=by rw [← hn];exact gj.mpr ⟨(x,c),di ec,rfl⟩
      exact absurd z (λz=>by
       have:=S.frs x hf;rw [show I.scope.names.lookup x=some .local from z] at this
       cases this))
    ·exact .inl z
    ·exact .inr z
 ·obtain ⟨i,v,oc,u,wv,_,_,h1,h2,_⟩:=at_ y c h;exact ⟨_,cellAt h1 h2⟩
 ·obtain ⟨i,v,oc,u,wv,_,_,h1,h2,_⟩:=at_ y c h;exact .inr ⟨fnF y (frN y c h),oc,u,h1⟩
 ·show _=(I.N++I.fr).length;have h5:=hc.len;have h6:=congrArg List.length hn;rw [aq] at h5 h6;rw [bh,bh,bh,aq,BZ,aq];omega
theorem Wl {H:Hp}{ρ:List Addr}{ds fs:List D}{vs xs:List V}(n:Nat) (rd:RDs K H ρ ds vs) (rf:RDs K H ρ fs xs):RL K H ρ (ds.map some++iz (n - ds.length) none++fs.map some) (vs.map some++iz (n - vs.length) none++xs.map some):=by
 have lv:ds.length=vs.length:=rd.length;have lf:=rf.length;refine ⟨by simp [lv,lf],λi d' e=>?_⟩
 by_cases hi:i < (ds.map some++iz (n - ds.length) none:List (Option D)).length
 ·rw [dw hi] at e;have hi':i < (vs.map some++iz (n - vs.length) none:List (Option V)).length:=by simp at hi ⊢;omega
  rw [dw hi']
  by_cases hv:i < ds.length
  ·rw [dw (by simpa using hv),dj] at e;cases q':ds[i]? with
   | none=>rw [q'] at e;cases e
   | some d2 =>
    rw [q'] at e;cases e;obtain ⟨v,e1,r1⟩:=rd.get q';exact ⟨v,by rw [dw (by simp;omega),dj,e1];rfl,r1⟩
  ·rw [gb (by simpa using hv),wk] at e;split at e <;> cases e
 ·have eL:(ds.map some++iz (n - ds.length) none:List (Option D)).length=(vs.map some++iz (n - vs.length) none:List (Option V)).length:=by simp [lv]
  rw [gb (by omega),dj] at e;rw [gb (by omega),← eL];cases q':fs[i - (ds.map some++iz (n - ds.length) none:List (Option D)).length]? with
  | none=>rw [q'] at e;cases e
  | some d2 =>
   rw [q'] at e;cases e;obtain ⟨v,e1,r1⟩:=rf.get q';exact ⟨v,by rw [dj,e1];rfl,r1⟩
theorem zK {I:CloI}{a:Addr}{fd:FuncData}{cl:List (Str×Addr)}(g:GOk P w K mg base k G) (S:CloSc I) (F:Xi I fd cl) (n:Nat):FnOk P w K mg base CX0 (k+3) a fd I.ps (spC K a I fd cl (Fg G n I)):=by
 obtain ⟨F,bind⟩:=F;refine ⟨λvs H Q E h=>h.1,λA outer s H args us vs Q E hr e0 hb r hsp=>?_⟩;obtain ⟨hl,⟨o,u,ho,hd⟩,⟨c,oc,u2,fs',tq,e1,e2,e3,e4⟩,hn,hnd,xs,ys,htx,hc,ρ,mh,fs,ds,d,mh',q,rs,rf,rd,co⟩:=hsp;have lim:s.heap.NoLimit:=e0.mod.nolimit.keeps λb o e=>(e0.bs b o e).1
 have ul:us.length=I.ps.length:=by rw [← r.length];exact hl
 unfold Fg at q;split at q
 rotate_left
 ·cases q
 rename_i hds;rcases F with ⟨name,qual,params,doc,pm,cdv,ctv,hinn,rfl⟩|⟨name,qual,params,body,rp,pm,cdv,ctv,eb,rfl⟩
 ·refine codeAny_call_def (binds:=I.ps.zip us) hr.depth (e0.hok a _ ho).1 hd lim ⟨c,oc,fs',tq,e1,(e0.hok c _ e2).1,e3,e4⟩ rfl hb S.nocell (λy hy=>S.par _ (nj hy).1) (λh₁ hns hk=>?_) S.co S.gen S.kind;have J:=Pq (cd:=cdv) (f:=a) (qual:=qual) (tk:=s.toks+(I.ps.zip us).length) S hn hnd hc hr.hd e0 hl r hns hk;have O:XOk (Uq P w K mg base I qual a cdv cl A outer s H) k G { N:=I.N++I.fr,scope:=I.scope,own:=λy=>!(I.fr.contains y) }:=⟨rfl,S.nd,rfl,λx hx _=>.inl hx,rfl,rfl,hr.deeper _,g,λ_ _ h=>nomatch h⟩
  ·unfold Jy at htx;rw [hinn] at htx q;have htx:xs=ys:=htx;subst htx
   replace q:Hi G n I fs ds mh=some (d,mh'):=q
   unfold Hi at q;have rl:=Wl (K:=K) I.N.length rd rf;have T:=(qX G n).2 O I.body;have fin:∀ {σ':L2.St} {H':Hp} {v:V} {u:Value} {s':Shared},Inv (Uq P w K mg base I qual a cdv cl A outer s H) [] σ' H' s'->RelV v u->Q v H'->CE outer P w H s Q u s':=λ{σ' H' v u s'} J rv q=>⟨v,H',J.os,J.bare,J.base,J.hok,rv,q⟩
   have run:tS K (iSs G n { N:=I.N++I.fr,scope:=I.scope,own:=λy=>!(I.fr.contains y) } I.body) { nx:=λ_ H'=>Q .non H',rt:=Q } (vs.map some++iz (I.N.length - vs.length) none++xs.map some) H:=by
    split at q
    ·rename_i d' loc' m' e;cases q;exact ⟨_,mh,ρ,.rt d,loc',mh',e,rl,rs,co⟩
    ·rename_i loc' m' e;cases q;exact ⟨_,mh,ρ,.nx,loc',mh',e,rl,rs,λH' ρ' σ' e' rs' _=>co H' ρ' _ e' rs' .non⟩
    ·cases q
   refine qb (T [] _ _ H _ J run) (λfl s' hs=>?_) λe s' hs=>False.elim hs
   cases fl with
   | ret u =>
    obtain ⟨v,σ',H',J',rv,q'⟩:=hs;exact fin J' rv q'
   | next =>
    obtain ⟨σ',H',J',q'⟩:=hs;exact fin (v:=V.non) (u:=Value.none) J' rfl q'
   | brk =>
    obtain ⟨_,_,_,q'⟩:=hs;exact False.elim q'
   | cont =>
    obtain ⟨_,_,_,q'⟩:=hs;exact False.elim q'
 ·refine LR hr.depth (e0.hok a _ ho).1 hd S.co S.gen rfl ⟨c,oc,fs',tq,e1,(e0.hok c _ e2).1,e3,e4⟩ (hb _ _ _ _ ?_);refine wpAny_newFunctionEnv S.nocell (λy hy=>S.par _ (nj hy).1) (λh₁ hns hsb=>⟨lim.fresh _ hsb,MF ?_⟩) S.kind;have hk:∀ b o,s.heap.get? b=some o->h₁.get? b=some o:=λb o e=>hsb.extBut b o (fu (Heap.lt_size e)) (ak _ e)
  have J:=Pq (cd:=cdv) (f:=a) (qual:=qual) (tk:=s.toks+(I.ps.zip us).length) S hn hnd hc hr.hd e0 hl r hns hk;have O:XOk (Uq P w K mg base I qual a cdv cl A outer s H) k G { N:=I.N++I.fr,scope:=I.scope,own:=λy=>!(I.fr.contains y) }:=⟨rfl,S.nd,rfl,λx hx _=>.inl hx,rfl,rfl,hr.deeper _,g,λ_ _ h=>nomatch h⟩;cases hinn:I.inn with
  | some qq =>
   unfold Jy at htx;rw [hinn] at htx q;obtain ⟨hqq,p,hx,hC⟩:=htx;subst hx
   replace q:runN G n I qq fs ds mh=some (d,mh'):=q
   unfold runN at q;split at q
   rotate_left
   ·cases q
   rename_i t fr';cases rf with
   | cons rt rf =>
   cases rt with
   | ref hpt =>
   rw [eb] at q
   replace q:(match T7 body with
    | some w=>if glB I.scope w.1&&!(w.1 == "__debug__")&&!(isStar w.2.1)&&!(isStar w.2.2.1) then (match Mg w.2.2.2.1 with
     | some y=>(match G.cal w.1 with
      | some p=>((Aa (iE G n (Jo I) w.2.1) (Aa (iE G n (Jo I) w.2.2.1) (Aa (gB (Jo I) t qq y w.2.2.2.2.1 w.2.2.2.2.2.1 w.2.2.2.2.2.2) (Zr [])))).bnd λas=>Zl (p.2 as)) (ds.map some++iz (I.N.length - ds.length) none++fr'.map some) mh
      | none=>none)
     | none=>none) else none
    | none=>none)=some (d,mh'):=q
   split at q
   rotate_left
   ·cases q
   rename_i w hw;obtain ⟨g',a',b',ps',body',scope',pos'⟩:=w;obtain ⟨p1,p2,rfl⟩:=aF hw;split at q
   rotate_left
   ·cases q
   rename_i hcnd;simp only [au,qx] at hcnd;obtain ⟨⟨⟨c1,c2⟩,c3⟩,c4⟩:=hcnd;split at q
   rotate_left
   ·cases q
   rename_i y hy;split at q
   rotate_left
   ·cases q
   rename_i pg hcal;obtain ⟨pps,gf⟩:=pg;obtain ⟨fa,fdg,g1,g2,g3,g4,g5⟩:=O.g.fn _ _ _ hcal;have rl:=Wl (K:=K) I.N.length rd rf
   have T:=gM (t:=t) (p:=p) (p1:=p1) (pos:=p2) (E:=E0) g4 O.room (O.gl c1) g1 g2 g3 Ow (Uo ((snd G n).e O a') (Uo ((snd G n).e O b') (gK (qZ (body:=body') (scope:=scope') (pos:=pos') O hy hqq hC (λz hz=>hz) λz cc _ hz=>.inr ?_) (Bx rfl)) (Bx c4)) (Bx c3)) g5 c2 (Bx c3) (Bf (by
    show ((!isStar b')&&true)=true
    rw [c4];rfl)) _ mh [] _ _ H Q J ⟨ρ,d,mh',hpt,q,rl,rs,co⟩
   ·refine qb T (λv s' h=>?_) λe s' h=>False.elim h
    obtain ⟨v',H',J',rv,q'⟩:=h;exact ⟨v',H',J'.os,J'.bare,J'.base,J'.hok,rv,q'⟩
   ·obtain ⟨i,ei⟩:=Rj (show cl.lookup z=some cc from hz);obtain ⟨v,oc,u,wv,h0,h1,h2,h3⟩:=hc.get (i:=i) (c:=cc) (by rw [dj,ei];rfl);exact ⟨oc,u,h1⟩
  | none =>
   unfold Jy at htx;rw [hinn] at htx q;have htx:xs=ys:=htx;subst htx
   replace q:Hi G n I fs ds mh=some (d,mh'):=q
   unfold Hi at q;have rl:=Wl (K:=K) I.N.length rd rf;rw [eb] at q
   match n,q with
   | 0,q=>cases q
   | 1,q=>cases q
   | n+2,q =>
    have q:(match Ab (retS (iE G n { N:=I.N++I.fr,scope:=I.scope,own:=λy=>!(I.fr.contains y) } body)) (iSs G (n+1) { N:=I.N++I.fr,scope:=I.scope,own:=λy=>!(I.fr.contains y) } []) (ds.map some++iz (I.N.length - ds.length) none++fs.map some) mh with
     | some (.rt d,_,mh')=>some (d,mh')
     | some (.nx,_,mh')=>some (.non,mh')
     | _=>none)=some (d,mh'):=q
    unfold Ab retS at q;cases ev:iE G n { N:=I.N++I.fr,scope:=I.scope,own:=λy=>!(I.fr.contains y) } body (ds.map some++iz (I.N.length - ds.length) none++fs.map some) mh with
    | none=>rw [ev] at q;cases q
    | some z =>
     obtain ⟨dz,mz⟩:=z;rw [ev] at q;cases q;refine qb ((snd G n).e O body _ mh [] _ _ H Q J ⟨ρ,d,mh',ev,rl,rs,co⟩) (λv s' h=>?_) λe s' h=>False.elim h
     obtain ⟨v',H',J',rv,q'⟩:=h;exact ⟨v',H',J'.os,J'.bare,J'.base,J'.hok,rv,q'⟩
theorem aH {n:Nat}{I:CloI}{fs ds:List D}{mh:MH}{r:D×MH}(h:Fg G n I fs ds mh=some r):ds.length=I.ps.length:=by
 unfold Fg at h;split at h
 ·assumption
 ·cases h
end
noncomputable abbrev cap (X:Cx) (fr:List Str):Cx:={ X with fn:=λy=>X.fn y&&!(fr.contains y) }
section
variable {X:Cx}{pins:List (Addr×Obj)}{σ:L2.St}{H:Hp}{s:Shared}{fr:List Str}
theorem zL (ok:X.Ok):(DL.cap X fr).Ok :=
 ⟨ok.mod,ok.kind,ok.glob,ok.blt,ok.above,ok.inj,ok.has,λx c h=>ok.cab x c (by
  have h:(X.fn x&&!(fr.contains x))=true:=h;rw [au] at h
  exact h.1),ok.hd,ok.frames,ok.stk,ok.exf,ok.bs,ok.bsz,ok.noex,ok.exfs,ok.funs,ok.frf⟩
theorem rA (I:Inv X pins σ H s):Inv (DL.cap X fr) pins σ H s :=
 ⟨zL I.ok,I.os,I.bare,I.base,I.loc,I.cell,I.free,λx c h=>(I.freeC x c h).imp id λ⟨a,b⟩=>⟨by show (X.fn x&&!(fr.contains x))=false;rw [a];rfl,b⟩,I.pin,I.hok,I.len⟩
end
section
variable {X:Cx}
end
section
variable {P:Program}{w:World}{K:aj}{mg:Str->Option Value}{base:Heap}{k:Nat}{G:Gb}
theorem gO {m1 m2:SM}{D:Ends}{σ:L2.St}{H:Hp}(h:tS K (Ab m1 m2) D σ H):tS K m1 { D with nx:=tS K m2 D } σ H:=by
 obtain ⟨loc,mh,ρ,f,loc',mh',q,rl,rs,co⟩:=h;unfold Ab at q;split at q
 ·rename_i l h e1;exact ⟨loc,mh,ρ,.nx,l,h,e1,rl,rs,λH1 ρ1 σ1 ev1 rs1 rl1=>⟨l,h,ρ1,f,loc',mh',q,rl1,rs1,co.ev ev1⟩⟩
 ·rename_i r hne;refine ⟨loc,mh,ρ,f,loc',mh',q,rl,rs,?_⟩;cases f with
  | nx=>exact absurd q (hne _ _)
  | bk=>exact co
  | ct=>exact co
  | rt d=>exact co
theorem Yb {X:Cx}{sc:SC}(O:XOk X k G sc) {Z:Flow->Shared->Prop}{rest:List Stmt}(pins:List (Addr×Obj)):∀ (n:Nat) (pre:List Stmt) {s:Shared}{σ:L2.St}{H:Hp}{D:Ends},Inv X pins σ H s->tS X.K (iSs G n sc pre) D σ H->(∀ f s',f≠.next->SP X pins D f s'->Z f s') ->
  (∀ s' σ' H',Inv X pins σ' H' s'->D.nx σ' H'->wpAny (model X.prog X.w) X.A (execs rest X.env) Z X.xe s')->wpAny (model X.prog X.w) X.A (execs (pre++rest) X.env) Z X.xe s
 | 0,pre,s,σ,H,D,I,h,_,_=>by
  obtain ⟨_,_,_,_,_,_,q,_⟩:=h;cases q
 | n+1,[],s,σ,H,D,I,h,h1,h2=>by
  obtain ⟨loc,mh,ρ,f,loc',mh',q,rl,rs,co⟩:=h;cases q;exact h2 s σ H I (co H ρ σ Ev.refl rs rl)
 | n+1,st::r,s,σ,H,D,I,h,h1,h2=>by
  refine wpAny_execs_cons (thn ((qX G n).1 O st pins s σ H _ I (gO h)) λf s1 q=>?_);cases f with
  | next =>
   obtain ⟨σ',H',I',q⟩:=q;exact Yb O pins n r I' q h1 h2
  | ret v=>exact h1 _ _ (by intro z;cases z) q
  | brk=>exact h1 _ _ (by intro z;cases z) q
  | cont=>exact h1 _ _ (by intro z;cases z) q
end
section
variable {X:Cx}
end
section
variable {P:Program}{w:World}{K:aj}{mg:Str->Option Value}{base:Heap}{k:Nat}{G:Gb}
end
section
variable {P:Program}{w:World}{K:aj}{mg:Str->Option Value}{base:Heap}{k:Nat}{G:Gb}
theorem gQ {n:Nat}{x:Str}{I:FnI}{m:LmI}{ds:List D}{mh:MH}{r:D×MH}(h:Jh G n x I m ds mh=some r):ds.length=I.ps.length:=by
 unfold Jh at h;split at h
 ·assumption
 ·cases h
theorem zM {x:Str}{st:Stmt}{f:Addr}{fd:FuncData}{I:FnI}{m:LmI}(g:GOk P w K mg base k G) (F:Fun K x x st f fd) (hn:gn K mainGlobals x=some (some (.ref f))) (S:FnScope I.N I.ps (Ag st)) (hs:I.scope=Ag st) (hin:Vo x = "<lambda>") (hbd:Av st=m.pre++m.post) (n:Nat) :
  FnOk P w K mg base CX0 (k+3) f fd I.ps (spD K I.ps.length (Jh G n x I m)):=by
 obtain ⟨⟨oc,od,kV,doc,pm,an,cdv,ct,osl,rfl,lk,hcd⟩,kp⟩:=F;refine ⟨λvs H Q E h=>h.1,λA outer s H args us vs Q E hr e0 hbn r hsp=>?_⟩;have hl:=hsp.1;have KX:K.In s.heap:=e0.mod.kin.keeps λb o e=>(e0.bs b o e).1
 have lim:s.heap.NoLimit:=e0.mod.nolimit.keeps λb o e=>(e0.bs b o e).1
 have hkind:∀ y∈I.ps.zip us,(Ag st).names.lookup y.1=some .local\/((Ag st).names.lookup y.1=some .cell/\((cellsFrom (s.heap.objs.size+1) (Ag st).names []).lookup y.1).isSome=true):=by
  rintro ⟨n,v⟩ hy;rcases S.par n (nj hy).1 with q|q
  ·exact .inl q
  ·exact .inr ⟨q,qm _ _ _ (.inl q)⟩
 refine JX hr.depth (KX _ _ lk) rfl S.co S.gen rfl (PK KX hcd) (hbn _ _ _ _ ?_);refine yg S.kind hkind λenv he s1 xx=>?_
 subst he;refine ⟨lim.keeps xx.toInCall.keep,codeAny_func ?_⟩;have J0:Inv (Jw CX0 P w K mg base I.N x (Ag st) f cdv A outer s H E) [] (start I.N vs) H s1:=Ks S hr.hd e0 hl r xx;have J:Inv (Jw CX0 P w K mg base I.N x (Ag st) f cdv A outer s H E).nox [] (start I.N vs) H s1:=J0.wish _;have O:XOk (Jw CX0 P w K mg base I.N x (Ag st) f cdv A outer s H E).nox k G { N:=I.N,scope:=I.scope,own:=λ_=>true }:=⟨rfl,S.nd,hs.symm,λ_ _ _=>.inl rfl,rfl,rfl,hr.deeper _,g,λ_ _ h=>nomatch h⟩
 have O2:XOk (cap (Jw CX0 P w K mg base I.N x (Ag st) f cdv A outer s H E).nox m.fr) k G { N:=I.N,scope:=I.scope,own:=λy=>!(m.fr.contains y),lt:=some (x,m.pl) }:=⟨rfl,S.nd,hs.symm,λy hy _=>.inl (by
  have hy:(!(m.fr.contains y))=true:=hy;show (true&&!(m.fr.contains y))=true
  rw [hy];rfl),rfl,rfl,hr.deeper _,g,λx' pl' h=>by
   cases h
   exact ⟨rfl,hin,⟨f,_,_,hn,lk,rfl,rfl⟩,λy c _ e=>J0.ok.cab y c rfl e,λy hy=>by
    have hy:(!(m.fr.contains y))=false:=hy;show (true&&!(m.fr.contains y))=false
    rw [hy];rfl⟩⟩
 obtain ⟨_,ρ,mh,ds,d,mh',q,rs,rd,co⟩:=hsp;have run:tS K (Pj G n x I m) { nx:=λ_ H'=>Q .non H',rt:=Q } (start I.N vs) H:=by
  unfold Jh at q;split at q
  ·split at q
   ·rename_i d' loc' m' e;cases q;exact ⟨_,mh,ρ,.rt d,loc',mh',e,Ih rd,rs,co⟩
   ·rename_i loc' m' e;cases q;exact ⟨_,mh,ρ,.nx,loc',mh',e,Ih rd,rs,λH' ρ' σ' e' rs' _=>co H' ρ' _ e' rs' .non⟩
   ·cases q
  ·cases q
 let Z:Flow->Shared->Prop:=λfl s'=>match fl with
  | .ret u=>CE outer P w H s Q u s'
  | .next=>CE outer P w H s Q .none s'
  | _=>False
 have fin:∀ {σ':L2.St} {H':Hp} {v:V} {u:Value} {s':Shared} {Y:Cx},Y.outer=outer->Y.prog=P->Y.w=w->Y.H₀=H->Y.s₀=s->Y.ex=[]->Inv Y [] σ' H' s'->RelV v u->Q v H'->CE outer P w H s Q u s':=λ{σ' H' v u s' Y} e1 e2 e3 e4 e5 e6 J rv q=>by
  refine ⟨v,H',by rw [← e5];exact J.os,J.bare,?_,by rw [← e2,← e3];exact J.hok,rv,q⟩;have:=J.base;rw [e6,e4,e5] at this;rw [← e1];exact this
 have flow:∀ {Y:Cx} {D:Ends},Y.outer=outer->Y.prog=P->Y.w=w->Y.H₀=H->Y.s₀=s->Y.ex=[]->D.rt=Q->(D.bk=λ_ _=>False)->(D.ct=λ_ _=>False)->∀ fl s',(fl≠.next\/∀ σ' H',D.nx σ' H'->Q .non H')->SP Y [] D fl s'->Z fl s':=λ{Y D} e1 e2 e3 e4 e5 e6 q1 q3 q4 fl s' q2 h=>by
  cases fl with
  | ret u =>
   obtain ⟨v,σ',H',J',rv,q'⟩:=h;exact fin e1 e2 e3 e4 e5 e6 J' rv (by rw [← q1];exact q')
  | next =>
   obtain ⟨σ',H',J',q'⟩:=h;exact fin (v:=V.non) (u:=Value.none) e1 e2 e3 e4 e5 e6 J' rfl ((q2.resolve_left λz=>z rfl) _ _ q')
  | brk =>
   obtain ⟨_,_,_,q'⟩:=h;rw [q3] at q';exact q'
  | cont =>
   obtain ⟨_,_,_,q'⟩:=h;rw [q4] at q';exact q'
 have R:wpAny (model P w) (A.deeper (envOfC x (Ag st) s.heap.objs.size f cdv)) (execs (Av st) (envOfC x (Ag st) s.heap.objs.size f cdv)) Z (λ_ _=>False) s1:=by
  rw [hbd];refine Yb O [] n m.pre J (gO run) (λfl s' hne h=>flow rfl rfl rfl rfl rfl rfl rfl rfl rfl fl s' (.inl hne) h) λs2 σ2 H2 J2 h=>?_
  have Jc:=rA (fr:=m.fr) J2;exact thn ((qX G n).2 O2 m.post [] s2 σ2 H2 _ Jc h) λfl s' h=>flow rfl rfl rfl rfl rfl rfl rfl rfl rfl fl s' (.inr λ_ _ z=>z) h
 refine qb R (λfl s' hz=>?_) λe s' h=>False.elim h
 cases fl with
 | ret u=>exact hz
 | next=>exact hz
 | brk=>exact False.elim hz
 | cont=>exact False.elim hz
end
noncomputable def Adq (K:aj) (mg:Str->Option Value) (x:Str) (I:FnI):Prop:=∃ (qual:Str) (st:Stmt) (f:Addr) (fd:FuncData),mg x=some (.ref f)/\Fun K qual qual st f fd/\FnScope I.N I.ps (Ag st)/\I.scope=Ag st/\I.body=Av st/\∀ us:List Value,us.length=I.ps.length->bindArgs fd ⟨us,[]⟩=pure (I.ps.zip us)
noncomputable def Nv (K:aj) (mg:Str->Option Value) (x:Str) (d:D):Prop:=∃ u v,mg x=some u/\RelV v u/\∀ H ρ,RD K H ρ d v
theorem Yc {α:Type}{x n:Str}{a I:α}{r:Option α}{P:Str->α->Prop}(hx:(if x==n then some a else r)=some I) (h1:P n a) (h2:r=some I->P x I):P x I:=by
 by_cases h:(x==n)=true
 ·rw [if_pos h] at hx;cases hx;rw [cj h];exact h1
 ·rw [if_neg h] at hx;exact h2 hx
structure TbOk (w:World) (K:aj) (mg:Str->Option Value) (T:Tb):Prop where
 fn:∀ x I,T.tb x=some I->∃ (qual:Str) (st:Stmt) (f:Addr) (fd:FuncData),mg x=some (.ref f)/\Fun K qual qual st f fd/\FnScope I.N I.ps (Ag st)/\I.scope=Ag st/\I.body=Av st/\∀ us:List Value,us.length=I.ps.length->bindArgs fd ⟨us,[]⟩=pure (I.ps.zip us)
 con:∀ x d,T.con x=some d->∃ u v,mg x=some u/\RelV v u/\∀ H ρ,RD K H ρ d v
 blt:∀ b∈Gz,mg b=none
 dic:∀ x kvs,T.dic x=some kvs->∃ a,mg x=some (.ref a)/\DicOk w K a kvs
 fld:∀ c f,T.fld c f=true->∃ C,gn K mainGlobals c=some (some (.ref C))/\Cls K C/\bY K C f
 met:∀ c m I,T.tbm c m=some I->∃ (qual:Str) (st:Stmt) (C f:Addr) (fd:FuncData),gn K mainGlobals c=some (some (.ref C))/\Cls K C/\Meth K C m f/\Fun K m qual st f fd/\FnScope I.N I.ps (Ag st)/\I.scope=Ag st/\I.body=Av st/\∀ us:List Value,us.length=I.ps.length->bindArgs fd ⟨us,[]⟩=pure (I.ps.zip us)
 mkr:∀ c f,T.mkr c=some f->∃ C fa fd ps,gn K mainGlobals c=some (some (.ref C))/\Mk K C fa/\mg c=some (.ref C)/\Binds K fd ps []/\∀ (P:Program) (w:World) (base:Heap),FnOk P w K mg base CX0 1 fa fd ps (spN C f)
 lam:∀ x y,T.lam x=some y->x = "pattern_of"/\∀ I,T.tb x=some I->∃ (st:Stmt) (f:Addr) (fd:FuncData) (a:Str),mg x=some (.ref f)/\Fun K x x st f fd/\gn K mainGlobals x=some (some (.ref f))/\I.ps=[a]/\FnScope I.N [a] (Ag st)/\Nu st a y/\∀ us:List Value,us.length=I.ps.length->bindArgs fd ⟨us,[]⟩=pure (I.ps.zip us)
 mk0:∀ c f,T.mk0 c=some f->∃ C fa fd ps,gn K mainGlobals c=some (some (.ref C))/\Mk K C fa/\mg c=some (.ref C)/\Binds K fd ps []/\∀ (P:Program) (w:World) (base:Heap),FnOk P w K mg base CX0 1 fa fd ps (yR C f)
 lmd:∀ x m,T.lmd x=some m->∀ I,T.tb x=some I->∃ (st:Stmt) (f:Addr) (fd:FuncData),mg x=some (.ref f)/\Fun K x x st f fd/\gn K mainGlobals x=some (some (.ref f))/\FnScope I.N I.ps (Ag st)/\I.scope=Ag st/\Vo x = "<lambda>"/\Av st=m.pre++m.post/\∀ us:List Value,us.length=I.ps.length->bindArgs fd ⟨us,[]⟩=pure (I.ps.zip us)
theorem gok {P:Program}{w:World}{K:aj}{mg:Str->Option Value}{base:Heap}{T:Tb}(O:TbOk w K mg T) (k:Nat):GOk P w K mg base k (GkN T k):=by
 induction k with
 | zero=>exact ⟨λx ps f h=>(by cases h),O.con,O.blt,O.dic,O.fld,λc m ps g h=>(by cases h),λc f h=>by
   obtain ⟨C,fa,fd,ps,h1,h2,h3,h4,h5⟩:=O.mkr c f h;exact ⟨C,fa,fd,ps,h1,h2,h3,h4,h5 _ _ _⟩,fM,λc f h=>by
   obtain ⟨C,fa,fd,ps,h1,h2,h3,h4,h5⟩:=O.mk0 c f h
   exact ⟨C,fa,fd,ps,h1,h2,h3,h4,h5 _ _ _⟩⟩
 | succ k ih =>
  refine ⟨λx ps f h=>?_,O.con,O.blt,O.dic,O.fld,λc m ps g h=>?_,λc f h=>by
   obtain ⟨C,fa,fd,ps,h1,h2,h3,h4,h5⟩:=O.mkr c f h;exact ⟨C,fa,fd,ps,h1,h2,h3,h4,h5 _ _ _⟩,⟨λI a fd cl h1 h2=>zK ih h1 h2 fuel,λI fs ds mh r h=>aH h⟩,λc f h=>by
   obtain ⟨C,fa,fd,ps,h1,h2,h3,h4,h5⟩:=O.mk0 c f h
   exact ⟨C,fa,fd,ps,h1,h2,h3,h4,h5 _ _ _⟩⟩
  ·simp only [GkN] at h;split at h
   ·rename_i I eI;cases h;obtain ⟨qual,st,fa,fd,h1,h2,h3,h4,h5,h6⟩:=O.fn x I eI;cases eA:T.lmd x with
    | some m =>
     have e:∀ g,Uc T (GkN T k) x I g=Jh (GkN T k) fuel x I m:=λg=>by unfold Uc;rw [eA]
     rw [e];obtain ⟨st,f',fd',l1,l2,l3,l4,l5,l6,l7,l8⟩:=O.lmd x m eA I eI;exact ⟨f',fd',l1,l2.kp,.all l8,zM ih l2 l3 l4 l5 l6 l7 fuel,λds mh r hr=>gQ hr⟩
    | none =>
    have eA1:∀ g,Uc T (GkN T k) x I g=g:=λg=>by unfold Uc;rw [eA]
    rw [eA1];cases ey:T.lam x with
    | some y =>
     have e:Ub T (GkN T k) x (Af (GkN T k) fuel I)=lamF (GkN T k) y:=by unfold Ub;rw [ey]
     rw [e];obtain ⟨rfl,z⟩:=O.lam x y ey;obtain ⟨st,f',fd',a,l1,l2,l3,l4,l5,l6,l7⟩:=z I eI;refine ⟨f',fd',l1,l2.kp,.all l7,?_,λds mh r hr=>?_⟩
     ·rw [l4];exact zG ih l2 l3 l5 l6
     ·rw [l4];unfold lamF at hr;split at hr
      ·rfl
      ·cases hr
    | none =>
     have e:Ub T (GkN T k) x (Af (GkN T k) fuel I)=Af (GkN T k) fuel I:=by unfold Ub;rw [ey]
     rw [e];exact ⟨fa,fd,h1,h2.kp,.all h6,gJ ih h2 h3 h4 h5 fuel,λds mh r hr=>Um hr⟩
   ·cases h
  ·simp only [GkN] at h;split at h
   ·rename_i I eI;cases h;obtain ⟨qual,st,C,fa,fd,g1,g2,g3,h2,h3,h4,h5,h6⟩:=O.met c m I eI;exact ⟨C,fa,fd,g1,g2,g3,.all h6,gJ ih h2 h3 h4 h5 fuel,λds mh r hr=>Um hr⟩
   ·cases h
noncomputable def Bl (st:Stmt):FnI :=
  { ps:=(Fi st).args.map (·.arg),
    N:=(Fi st).args.map (·.arg)++(((Ag st).names.filter λp=>(match p.2 with | .local=>true | .cell=>true | _=>false)).map (·.1)).filter (λx=>!((Fi st).args.map (·.arg)).contains x),
    scope:=Ag st,body:=Av st }
end DL
namespace DL
open PySem L2
noncomputable def vr (i:Nat):DM D:=λloc mh=>match loc[i]? with | some (some d)=>some (d,mh) | _=>none
noncomputable abbrev Gq:=iop (λ_ _=>true) λi j=>i - j
noncomputable abbrev Ii:=iop T6 λi j=>i * j
noncomputable abbrev Bb:=iop (λ_ j=>decide (j≠0)&&decide (j.natAbs < 10889035741470030830827987437816582766592)) λi j=>i.fdiv j
noncomputable abbrev Bd:=iop (λ_ j=>decide (j≠0)) λi j=>i.fmod j
noncomputable abbrev Rm:=iop (λi j=>decide (0<=j)&&(decide (j<=1000000)&&decide (i.natAbs < 2 ^ 64))) λi j=>i ^ j.toNat
noncomputable abbrev Wm:=iop (λi j=>decide (0<=j)&&(decide (j<=1000000)&&decide (i.natAbs < 2 ^ 64))) λi j=>i * 2 ^ j.toNat
noncomputable abbrev ltD:=Qq λi j=>decide (i < j)
noncomputable abbrev leD:=Qq λi j=>decide (i<=j)
noncomputable abbrev gtD:=Qq λi j=>decide (j < i)
noncomputable def Rn (m:DM D):DM D:=m.bnd λx=>Zl (yI x)
noncomputable def rB (m:DM D):DM D:=(Ar m).bnd λc=>Zr (.bl (!c))
noncomputable def Bg (mr:DM (List D)):DM D:=mr.bnd λds=>Zl (Oz ds)
noncomputable def lstM (mr:DM (List D)):DM D:=mr.bnd λds=>Zl (O1 ds)
noncomputable def Afi (m:DM D):DM D:=m.bnd λx=>Zl (dF x)
noncomputable def Ae (f:Fn) (mr:DM (List D)):DM D:=mr.bnd λds=>Zl (f ds)
noncomputable def Gd (T:String) (m:DM D):DM D:=m.bnd λx=>Zl (M8 T x)
theorem ln0 {f:List Value->Prop}(h:f []) (us:List Value) (e:us.length=0):f us:=by
 cases us with
 | nil=>exact h
 | cons _ _=>cases e
theorem ln1 {f:List Value->Prop}(h:∀ a,f [a]) (us:List Value) (e:us.length=1):f us:=by
 cases us with
 | nil=>cases e
 | cons a r=>exact ln0 (f:=λr=>f (a::r)) (h a) r (Nat.succ.inj e)
theorem ln2 {f:List Value->Prop}(h:∀ a b,f [a,b]) (us:List Value) (e:us.length=2):f us:=by
 cases us with
 | nil=>cases e
 | cons a r=>exact ln1 (f:=λr=>f (a::r)) (h a) r (Nat.succ.inj e)
theorem ln3 {f:List Value->Prop}(h:∀ a b c,f [a,b,c]) (us:List Value) (e:us.length=3):f us:=by
 cases us with
 | nil=>cases e
 | cons a r=>exact ln2 (f:=λr=>f (a::r)) (h a) r (Nat.succ.inj e)
theorem ln4 {f:List Value->Prop}(h:∀ a b c d,f [a,b,c,d]) (us:List Value) (e:us.length=4):f us:=by
 cases us with
 | nil=>cases e
 | cons a r=>exact ln3 (f:=λr=>f (a::r)) (h a) r (Nat.succ.inj e)
theorem gU {q:Program}{loose:List Str}{XP:(Str->Option Value)->Heap->Prop}{K:Params->aj}{as:List Addr}{n t:Nat}{r:PySem.W.RowW}{d:DefRec}{kwd:List (Str×Expr)}{run:Value->List Value->Sem Value}
  (e:∀ P,as=(K P).map (·.1)) (h:PySem.W.WalkO q loose XP (λw h=>(K w.params).In h) r d kwd run):PySem.W.WalkX q loose XP (PySem.W.X.obsZ as) (PySem.W.X.valZ K n t) r d kwd run :=
 λw s₀ s₁ mg mb G y a o pm cd doc dV kV h1 h2 h3 h4 h5 h6 args vals as' L hpre hlay hrd hwl hlo =>
  h w s₀ s₁ mg mb G (PySem.W.InK.keeps w s₀.heap s₁.heap (PySem.W.X.z_facts e y).2.1 L.keeps) a o pm cd doc dV kV h1 h2 h3 h4 h5 h6 args vals as' hpre hlay hrd hwl hlo
noncomputable def dnm:Stmt->Str
 | .FunctionDef n _ _ _ _ _ _ _ _ _=>n
 | _=>Str.empty
noncomputable def Ht (K:aj):List (Str×Stmt)->Prop
 | []=>True
 | r::L=>(∃ (f:Addr) (fd:FuncData),gn K mainGlobals r.1=some (some (.ref f))/\Fun K (dnm r.2) (dnm r.2) r.2 f fd)/\Ht K L
theorem gW {K:aj}{x n:Str}{st:Stmt}{L:List (Str×Stmt)}{f:Addr}{oc:Value}{od an:Option Addr}{osl:Array (Option Value)}{kV doc pm cdv ct:Value}(a:gn K mainGlobals x=some (some (.ref f)))
  (l:K.lookup f=some ⟨oc,od,.func (vq n n (Fi st) (Av st) (Ag st) .none kV doc pm an cdv ct),osl⟩)
  (c:vh K cdv n=true) (k:jm K (.ref f)=true) (hn:dnm st=n) (q:Ht K L):Ht K ((x,st)::L):=by
 subst hn;exact ⟨⟨f,_,a,xH l c k⟩,q⟩
noncomputable def Adr (x:Str) (st:Stmt):Prop:=FnScope (Bl st).N (Bl st).ps (Ag st)/\∀ (kV doc pm:Value) (an:Option Addr) (cdv ct:Value) (us:List Value),us.length=(Bl st).ps.length->bindArgs (vq x x (Fi st) (Av st) (Ag st) .none kV doc pm an cdv ct) ⟨us,[]⟩=pure ((Bl st).ps.zip us)
theorem Ay {x:Str}{st:Stmt}(s:FnScope (Bl st).N (Bl st).ps (Ag st)) (b:∀ (kV doc pm:Value) (an:Option Addr) (cdv ct:Value) (us:List Value),us.length=(Bl st).ps.length->bindArgs (vq x x (Fi st) (Av st) (Ag st) .none kV doc pm an cdv ct) ⟨us,[]⟩=pure ((Bl st).ps.zip us)):Adr x st:=⟨s,b⟩
noncomputable def Ur:List (Str×Stmt)->Prop
 | []=>True
 | r::L=>Adr (dnm r.2) r.2/\Ur L
theorem Yd {K:aj}{h:Heap}{mg:Str->Option Value}(X:K.In h) (G:h.Ns mainGlobals mg) {x:Str}{I:FnI}:∀ {L:List (Str×Stmt)},Ht K L->Ur L->(L.lookup x).map Bl=some I->Adq K mg x I
 | [],_,_,e=>by cases e
 | (y,st)::L,⟨⟨f,fd,a,F⟩,q⟩,⟨s,t⟩,e=>by
  simp only [yo] at e;split at e
  ·rename_i hy;rw [cj hy];cases e;refine ⟨dnm st,st,f,fd,ux X G a,F,s.1,rfl,rfl,λus hu=>?_⟩;obtain ⟨oc,od,kV,doc,pm,an,cdv,ct,osl,rfl,_⟩:=F.ex;exact s.2 kV doc pm an cdv ct us hu
  ·exact Yd X G q t e
theorem Wn {K:aj}{h:Heap}{mg:Str->Option Value}(X:K.In h) (G:h.Ns mainGlobals mg) {x:Str}{st:Stmt}:∀ {L:List (Str×Stmt)},Ht K L->L.lookup x=some st->Nv K mg x (.fn x)
 | [],_,e=>by cases e
 | (y,st)::L,⟨⟨f,fd,a,F⟩,q⟩,e=>by
  simp only [yo] at e;split at e
  ·rename_i hy;rw [cj hy];exact ⟨_,.ref f,ux X G a,rfl,λ_ _=>.fn a⟩
  ·exact Wn X G q e
noncomputable def Kd (K:aj):List (Str×D)->Prop
 | []=>True
 | r::L=>(∃ u,gn K mainGlobals r.1=some (some u)/\rdV K 60 u=some r.2)/\Kd K L
theorem gY {K:aj}{x:Str}{d:D}{L:List (Str×D)}{u:Value}(a:gn K mainGlobals x=some (some u)) (b:rdV K 60 u=some d) (q:Kd K L):Kd K ((x,d)::L):=⟨⟨u,a,b⟩,q⟩
theorem Us {K:aj}{h:Heap}{mg:Str->Option Value}(X:K.In h) (G:h.Ns mainGlobals mg) {x:Str}{d:D}:∀ {L:List (Str×D)},Kd K L->L.lookup x=some d->Nv K mg x d
 | [],_,e=>by cases e
 | (y,d')::L,⟨⟨u,a,b⟩,q⟩,e=>by
  simp only [yo] at e;split at e
  ·rename_i hy;rw [cj hy];cases e;obtain ⟨v,r1,r2⟩:=fG 60 b;exact ⟨u,v,ux X G a,r1,r2⟩
  ·exact Us X G q e
noncomputable def Ke (K:aj):List Str->Prop
 | []=>True
 | b::L=>gn K mainGlobals b=some none/\Ke K L
theorem gZ {K:aj}{b:Str}{L:List Str}(a:gn K mainGlobals b=some none) (q:Ke K L):Ke K (b::L):=⟨a,q⟩
theorem Ut {K:aj}{h:Heap}{mg:Str->Option Value}(X:K.In h) (G:h.Ns mainGlobals mg):∀ {L:List Str},Ke K L->∀ b∈L,mg b=none
 | _::_,⟨a,_⟩,_,.head _=>PySem.W.mg_none_of X G a
 | _::_,⟨_,q⟩,b,.tail _ m=>Ut X G q b m
end DL
namespace L2
open PySem PySem.Spec PyProof.Rows
end L2
namespace DL
open PySem L2
noncomputable def cut (pl:Addr) (K:aj):aj:=K.filter λq=>q.1 != pl
theorem Fw {pl a:Addr}:∀ {K:aj},(cut pl K).lookup a=if a=pl then none else K.lookup a
 | []=>by unfold cut;simp
 | (b,o)::K=>by
  have ih:=Fw (pl:=pl) (a:=a) (K:=K);unfold cut at ih ⊢;rw [JF]
  by_cases hb:b=pl
  ·subst hb;rw [if_neg (by simp),ih]
   by_cases ha:a=b
   ·rw [if_pos ha,if_pos ha]
   ·rw [if_neg ha,if_neg ha,jt];have:(a==b)=false:=by simpa using ha
    rw [this]
  ·rw [if_pos (by simpa using hb),jt,jt]
   by_cases ha:a=b
   ·subst ha;simp [hb]
   ·have:(a==b)=false:=by simpa using ha
    rw [this];exact ih
section
variable {pl:Addr}{K:aj}(hp:K.lookup pl=some (jc #[]))
theorem iB {h:Heap}(X:K.In h):(cut pl K).In h:=λa o e=>by
 rw [Fw] at e;split at e
 ·cases e
 ·exact X a o e
include hp
theorem Hl {a:Addr}{o:Obj}(e:K.lookup a=some o) (n:o.data≠.fields #[]):(cut pl K).lookup a=some o:=by
 rw [Fw,if_neg,e];intro z;subst z;rw [hp] at e;cases e;exact n rfl
theorem Jp {x:Str}{r:Option Value}(e:gn K mainGlobals x=some r):gn (cut pl K) mainGlobals x=some r:=by
 unfold gn at e ⊢;split at e
 ·rename_i hk;rw [Hl hp hk (by intro z;cases z)];exact e
 ·cases e
theorem iC {v:Value}{q:Str}(e:vh K v q=true):vh (cut pl K) v q=true:=by
 unfold vh at e ⊢;split at e
 ·split at e
  ·rename_i vs _ hk;rw [Hl hp hk (by intro z;injection z with z;subst z;simp at e)];exact e
  ·cases e
 ·cases e
theorem Nx {c a:Addr}(e:vz K c a=true):vz (cut pl K) c a=true:=by
 unfold vz at e ⊢;split at e
 ·rename_i vs _ hk;rw [Hl hp hk (by intro z;injection z with z;subst z;simp at e)];exact e
 ·cases e
theorem rC {x q:Str}{st:Stmt}{f:Addr}{fd:FuncData}(F:Fun K x q st f fd):Fun (cut pl K) x q st f fd:=by
 obtain ⟨⟨oc,od,kV,doc,pm,an,cdv,ct,osl,e,lk,hcd⟩,kp⟩:=F;have l2:=Hl hp lk (by intro z;cases z);refine ⟨⟨oc,od,kV,doc,pm,an,cdv,ct,osl,e,l2,iC hp hcd⟩,?_⟩;unfold jm;simp only [l2]
theorem Ye:∀ {L:List (Str×Stmt)},Ht K L->Ht (cut pl K) L
 | [],_=>trivial
 | _::_,⟨⟨f,fd,a,F⟩,q⟩=>⟨⟨f,fd,Jp hp a,rC hp F⟩,Ye q⟩
theorem Yg:∀ {L:List Str},Ke K L->Ke (cut pl K) L
 | [],_=>trivial
 | _::_,⟨a,q⟩=>⟨Jp hp a,Yg q⟩
mutual
theorem Yh:∀ (n:Nat) {u:Value}{d:D},rdV K n u=some d->rdV (cut pl K) n u=some d
 | n,.none,d,h=>by cases n <;> (simp only [rdV] at h ⊢;exact h)
 | n,.bool b,d,h=>by cases n <;> (simp only [rdV] at h ⊢;exact h)
 | n,.int i t,d,h=>by cases n <;> (simp only [rdV] at h ⊢;exact h)
 | n,.str x t,d,h=>by cases n <;> (simp only [rdV] at h ⊢;exact h)
 | 0,.ref a,d,h=>by simp only [rdV] at h;cases h
 | n+1,.ref a,d,h=>by
  simp only [rdV] at h ⊢;split at h
  ·rename_i c its ep sl hk;rw [Hl hp hk (by intro z;cases z)];dsimp only;split at h
   ·rename_i hc;rw [if_pos hc];split at h
    ·rename_i ds hd;rw [Uu n hd];exact h
    ·cases h
   ·cases h
  ·cases h
 | n,.float _ _,d,h=>by cases n <;> (simp only [rdV] at h;cases h)
 | n,.bytes _ _,d,h=>by cases n <;> (simp only [rdV] at h;cases h)
 | n,.ellipsis,d,h=>by cases n <;> (simp only [rdV] at h;cases h)
 | n,.notImplemented,d,h=>by cases n <;> (simp only [rdV] at h;cases h)
 | n,.type _,d,h=>by cases n <;> (simp only [rdV] at h;cases h)
 | n,.builtin _,d,h=>by cases n <;> (simp only [rdV] at h;cases h)
theorem Uu:∀ (n:Nat) {us:List Value}{ds:List D},Nh K n us=some ds->Nh (cut pl K) n us=some ds
 | n,[],ds,h=>by cases n <;> (simp only [Nh] at h ⊢;exact h)
 | 0,_::_,ds,h=>by simp only [Nh] at h;cases h
 | n+1,u::r,ds,h=>by
  simp only [Nh] at h ⊢;split at h
  ·rename_i d hd;rw [Yh n hd];dsimp only;split at h
   ·rename_i ds2 hd2;rw [Uu n hd2];exact h
   ·cases h
  ·cases h
end
theorem Yi:∀ {L:List (Str×D)},Kd K L->Kd (cut pl K) L
 | [],_=>trivial
 | _::_,⟨⟨u,a,b⟩,q⟩=>⟨⟨u,Jp hp a,Yh hp 60 b⟩,Yi q⟩
end
theorem Yj {K:aj}{h:Heap}{mg:Str->Option Value}(X:K.In h) (G:h.Ns mainGlobals mg) {x a y:Str}{st:Stmt}{I:FnI}(ps:(Bl st).ps=[a]) (D:Nu st a y) (hdn:dnm st=x:=by rfl):∀ {L:List (Str×Stmt)},Ht K L->Ur L->L.lookup x=some st->(L.lookup x).map Bl=some I ->
  ∃ (st:Stmt) (f:Addr) (fd:FuncData) (a:Str),mg x=some (.ref f)/\Fun K x x st f fd/\gn K mainGlobals x=some (some (.ref f))/\I.ps=[a]/\FnScope I.N [a] (Ag st)/\Nu st a y/\∀ us:List Value,us.length=I.ps.length->bindArgs fd ⟨us,[]⟩=pure (I.ps.zip us)
 | [],_,_,e,_=>by cases e
 | (z,st')::L,⟨⟨f,fd,n,F⟩,q⟩,⟨s,t⟩,e,e2=>by
  simp only [yo] at e e2;split at e
  ·rename_i hy;have hz:=cj hy;subst hz;cases e;simp only [hy] at e2;cases e2;rw [hdn] at F;refine ⟨st,f,fd,a,ux X G n,F,n,ps,by rw [← ps];exact s.1,D,λus hu=>?_⟩;obtain ⟨oc,od,kV,doc,pm,an,cdv,ct,osl,rfl,_⟩:=F.ex;have:=s.2;rw [hdn] at this;exact this kV doc pm an cdv ct us hu
  ·rename_i hy;simp only [hy] at e2;exact Yj X G ps D hdn q t e e2
noncomputable def lamOf:Expr->CloI
 | .Lambda ps body sc p=>{ ps:=ps.args.map (·.arg),N:=ps.args.map (·.arg),fr:=Hh sc.names,scope:=sc,body:=[.Return (some body) p] }
 | _=>{ ps:=[],N:=[],fr:=[],scope:=Ag (.Pass ⟨0,0,0,0⟩),body:=[] }
noncomputable def stE:Stmt->Expr
 | .Assign _ e _=>e
 | .Return (some e) _=>e
 | .If t _ _ _=>t
 | _=>.Constant .none 0 ⟨0,0,0,0⟩
noncomputable def exE:Expr->Nat->Expr
 | .BoolOp _ es _,i=>es.getD i (.Constant .none 0 ⟨0,0,0,0⟩)
 | .Call _ es _ _,i=>es.getD i (.Constant .none 0 ⟨0,0,0,0⟩)
 | .UnaryOp _ e _,_=>e
 | .Lambda _ e _ _,_=>e
 | e,_=>e
noncomputable def K7 (sc:SC) (x:Str) (pl:Nat) (e:Expr):DM D:=match e with
 | .Lambda ps body scope pos=>(match Mg ps with | some y=>fZ sc x pl y body scope pos | none=>Zb)
 | _=>Zb
noncomputable def iD (e:Expr) (q:Option Str):CloI:=match e with
 | .Lambda ps body scope pos=>Hw ((Mg ps).getD "") body scope pos q
 | _=>lamOf e
noncomputable def rE (sc:SC) (t:Nat) (q:Str) (e:Expr):DM D:=match e with
 | .Lambda ps body scope pos=>gB sc t q ((Mg ps).getD "") body scope pos
 | _=>Zb
theorem Mq {K:aj}{h:Heap}{mg:Str->Option Value}(X:K.In h) (G:h.Ns mainGlobals mg) {x:Str}{st:Stmt}{I:FnI}{m:LmI}(D:Av st=m.pre++m.post) (hin:Vo x = "<lambda>") (hdn:dnm st=x):∀ {L:List (Str×Stmt)},Ht K L->Ur L->L.lookup x=some st->(L.lookup x).map Bl=some I ->
  ∃ (st:Stmt) (f:Addr) (fd:FuncData),mg x=some (.ref f)/\Fun K x x st f fd/\gn K mainGlobals x=some (some (.ref f))/\FnScope I.N I.ps (Ag st)/\I.scope=Ag st/\Vo x = "<lambda>"/\Av st=m.pre++m.post/\∀ us:List Value,us.length=I.ps.length->bindArgs fd ⟨us,[]⟩=pure (I.ps.zip us)
 | [],_,_,e,_=>by cases e
 | (z,st')::L,⟨⟨f,fd,n,F⟩,q⟩,⟨s,t⟩,e,e2=>by
  simp only [yo] at e e2;split at e
  ·rename_i hy;have hz:=cj hy;subst hz;cases e;simp only [hy] at e2;cases e2;rw [hdn] at F;refine ⟨st,f,fd,ux X G n,F,n,s.1,rfl,hin,D,λus hu=>?_⟩;obtain ⟨oc,od,kV,doc,pm,an,cdv,ct,osl,rfl,_⟩:=F.ex;have:=s.2;rw [hdn] at this;exact this kV doc pm an cdv ct us hu
  ·rename_i hy;simp only [hy] at e2;exact Mq X G D hin hdn q t e e2
section
variable {pl:Addr}{K:aj}(hp:K.lookup pl=some (jc #[]))
include hp
end
end DL
namespace L2
open PySem PySem.Spec PyProof.Rows
theorem aJ {P:Program}{w:World}{K:aj}{mg mb:Str->Option Value}{CX:CXT}{k:Nat}{fa a:Addr}{pls:List Addr}{fd:FuncData}{x:Str}{sp:Sp}{s₁:Shared}{vs:List Value}{ns:List Int}
  (KX:K.In s₁.heap) (kp:∀ pl∈pls,K.lookup pl=none) (hpl:∀ pl∈pls,s₁.heap.get? pl=some (jc #[])) (ct:∀ pl∈pls,isCodeTable s₁.heap pl)
  (hns:s₁.heap.Ns mainGlobals mg) (hb:s₁.heap.Ns builtinsNs mb) (hbb:∀ x:Str,x ≠ "__name__"->mb x=bootBuiltins x) (hlim:s₁.heap.NoLimit) (hg:s₁.gens=#[])
  (ha:s₁.heap.get? a=some { cls:=.type "list",data:=.seq vs.toArray }) (hi:IntsAre vs ns) (hl:ns.length<=sizeLine) (hr:Room k callerA)
  (F:∀ base:Heap,K.In base->base.Ns mainGlobals mg->FnOk P w K mg base CX k fa fd [x] sp) (hbind:∀ (s:Shared) (u:Value),BindsTo s fd ⟨[u],[]⟩ [(x,u)])
  (hsp:∀ H:Hp,(∀ pl∈pls,H pl=some (.tbl #[]))->((∃ o,H a=some (.frz o (.lst (ns.map V.int))))\/∃ (o:Obj) (its:Array Value) (n:Nat),K.lookup a=some o/\o.cls=.type "list"/\o.dict=none/\o.data=.seq its n/\its.size<=sizeLine/\Vals (ns.map V.int) its.toList)->sp [.ref a] H (λv _=>v=.bl true) λ_ _ _=>False)
  (hCX:∀ H e s',CX [] H s₁ (λ_ _ _=>False) e s'->False) :
  codeAny (model P w) callerA (.call (.ref fa) ⟨[.ref a],[]⟩) (λr s'=>r=.ok (.ret (.bool true))/\OldK s₁.heap s'.heap/\s'.os=s₁.os/\AllBare s'.gens) s₁:=by
 have rv:=Gu hi;have lenV:=hi.length;have hap:a ∉ pls:=λz=>by rw [hpl a z] at ha;cases ha
 have core:∀ H:Hp,(∀ pl∈pls,H pl=some (.tbl #[]))->(H a=none\/H a=some (.frz { cls:=.type "list",data:=.seq vs.toArray } (.lst (ns.map V.int))))->(∀ b,b≠a->b ∉ pls->H b=none)->(H a≠none->K.lookup a=none) ->
   ((∃ o,H a=some (.frz o (.lst (ns.map V.int))))\/∃ (o:Obj) (its:Array Value) (n:Nat),K.lookup a=some o/\o.cls=.type "list"/\o.dict=none/\o.data=.seq its n/\its.size<=sizeLine/\Vals (ns.map V.int) its.toList) ->
   codeAny (model P w) callerA (.call (.ref fa) ⟨[.ref a],[]⟩) (λr s'=>r=.ok (.ret (.bool true))/\OldK s₁.heap s'.heap/\s'.os=s₁.os/\AllBare s'.gens) s₁:=by
  intro H hP hA hO hK hS;have hok:HOk P w H s₁.heap:=λb u z=>by
   by_cases b1:b=a
   ·subst b1;rcases hA with q|q
    ·rw [q] at z;cases z
    ·rw [q] at z;cases z;exact ⟨ha,by rw [aq];exact hl,vs,_,rv,ha⟩
   ·by_cases b2:b∈pls
    ·rw [hP b b2] at z;cases z;exact hpl b b2
    ·rw [hO b b1 b2] at z;cases z
  have base_of:∀ {b:Addr} {o:Obj},s₁.heap.get? b=some o->H b=none->(Qc s₁.heap H).get? b=some o:=λe n=>bH e n
  have noA:∀ {b:Addr} {o:Obj} {es:Array DictEntry} {ep:Nat},s₁.heap.get? b=some o->o.data=.dict es ep->H b=none:=λ{b o es ep} e d=>by
   refine hO b (λz=>?_) λz=>?_
   ·subst z;rw [ha] at e;cases e;have d':Data.seq vs.toArray _=Data.dict es ep:=d;cases d'
   ·rw [hpl b z] at e;cases e;have d':Data.fields #[]=Data.dict es ep:=d;cases d'
  have nsK:∀ {b:Addr} {m:Str->Option Value},s₁.heap.Ns b m->(Qc s₁.heap H).Ns b m:=λ{b m} ⟨o,es,ep,e,d,r⟩=>⟨o,es,ep,base_of e (noA e d),d,r⟩
  have hKb:K.In (Qc s₁.heap H):=λb o e=>base_of (KX b o e) (by
   by_cases b1:b=a
   ·subst b1;cases q:H b with
    | none=>rfl
    | some u=>rw [hK (by rw [q];simp)] at e;cases e
   ·exact hO b b1 λz=>by rw [kp b z] at e;cases e)
  have hM:Mod K mg (Qc s₁.heap H):=⟨hKb,nsK hns,⟨mb,nsK hb,hbb⟩,let ⟨mc,h1,h2⟩:=hlim;⟨mc,nsK h1,h2⟩⟩;have e0:Env0 P w K mg (Qc s₁.heap H) callerA [] s₁ H:=⟨rfl,hM,λb o e=>nO e,HF (Yw _ _),trivial,λb hb=>absurd (show b∈([]:List Addr) from hb) (by simp),hok,.of_eq hg⟩;refine HJ ((F _ hKb (nsK hns)).run callerA [] s₁ H ⟨[.ref a],[]⟩ [.ref a] [.ref a] _ _ hr e0 (hbind s₁ (.ref a)) (.cons rfl .nil) (hsp H hP hS)) λr s' h=>?_
  cases r with
  | error e=>exact (hCX H e s' h).elim
  | ok fl =>
   cases fl with
   | next=>exact False.elim h
   | brk=>exact False.elim h
   | cont=>exact False.elim h
   | ret u =>
    obtain ⟨v,H',os,bare,un,hok',r',q⟩:=h;have q':v=.bl true:=q;subst q';obtain rfl:u=Value.bool true:=r';have pl':∀ pl∈pls,∃ more,s'.heap.get? pl=some (jc (#[]++more)):=λpl hq=>by
     obtain ⟨more,hm⟩:=un.tbls pl _ (hP pl hq);exact ⟨more,hok' pl _ hm⟩
    have keep:∀ b o,b ∉ pls->s₁.heap.get? b=some o->s'.heap.get? b=some o:=λb o n e=>by
     by_cases b1:b=a
     ·subst b1;rcases hA with z|z
      ·exact un.keep b o e z (by intro z;exact absurd (show b∈([]:List Addr) from z) (by simp)) (by simp)
      ·have z2:=un.frzs b _ _ z;obtain ⟨e1,_⟩:=hok b _ z;obtain ⟨e2,_⟩:=hok' b _ z2;rw [e] at e1;cases e1;exact e2
     ·exact un.keep b o e (hO b b1 n) (by intro z;exact absurd (show b∈([]:List Addr) from z) (by simp)) (by simp)
    refine ⟨rfl,⟨λb o e=>?_,λb o e=>?_⟩,os,bare⟩
    ·by_cases z:b∈pls
     ·rw [hpl b z] at e;cases e;obtain ⟨more,q⟩:=pl' b z;exact .inr (.inl ⟨ct b z,rfl,#[],more,rfl,q⟩)
     ·exact .inl (keep b o z e)
    ·by_cases z:b∈pls
     ·obtain ⟨more,q⟩:=pl' b z;exact ⟨_,q⟩
     ·exact ⟨o,keep b o z e⟩
 cases hk:K.lookup a with
 | some o =>
  have e:=KX a o hk;rw [ha] at e;cases e;exact core (λb=>if b∈pls then some (.tbl #[]) else none) (λb hb=>if_pos hb) (.inl (if_neg hap)) (λb _ z=>if_neg z) (λz=>absurd (if_neg hap) z) (.inr ⟨_,vs.toArray,_,hk,rfl,rfl,rfl,by rw [dm,lenV];exact hl,by simpa using rv⟩)
 | none =>
  exact core (λb=>if b∈pls then some (.tbl #[]) else if b=a then some (.frz { cls:=.type "list",data:=.seq vs.toArray } (.lst (ns.map V.int))) else none) (λb hb=>if_pos hb) (.inr (by simp only [if_neg hap,if_pos])) (λb y z=>by simp only [if_neg z,if_neg y]) (λ_=>hk) (.inl ⟨_,by simp only [if_neg hap,if_pos];rfl⟩)
end L2
namespace DL
open PySem L2
noncomputable def Jq:List Addr->aj->aj
 | [],K=>K
 | p::r,K=>Jq r (cut p K)
noncomputable def Wo (K:aj) (pls:List Addr):Prop:=pls.Nodup/\∀ p∈pls,K.lookup p=some (jc #[])
theorem Wo.next {K:aj}{p:Addr}{r:List Addr}(h:Wo K (p::r)):K.lookup p=some (jc #[])/\Wo (cut p K) r:=by
 obtain ⟨nd,h⟩:=h;rw [uh] at nd;refine ⟨h p iy,nd.2,λq hq=>?_⟩;rw [Fw,if_neg λz=>nd.1 (by rw [← z];exact hq)];exact h q (iu _ hq)
theorem Dc {Q:aj->Prop}(hQ:∀ {K p},K.lookup p=some (jc #[])->Q K->Q (cut p K)):∀ {pls:List Addr}{K:aj},Wo K pls->Q K->Q (Jq pls K)
 | [],_,_,q=>q
 | p::r,K,t,q=>Dc (pls:=r) (K:=cut p K) hQ t.next.2 (hQ t.next.1 q)
theorem Lr:∀ {pls:List Addr}{K:aj}{a:Addr},a∈pls\/K.lookup a=none->(Jq pls K).lookup a=none
 | [],_,_,h=>h.elim (λz=>by cases z) id
 | p::r,K,a,h=>Lr (pls:=r) (K:=cut p K) (by
  rw [Fw];rcases h with h|h
  ·rcases dg.mp h with h|h
   ·exact .inr (if_pos h)
   ·exact .inl h
  ·exact .inr (by split <;> first | rfl | exact h))
theorem rF {pl q:Addr}{K:aj}(hp:K.lookup pl=some (jc #[])) (h:pA K q):pA (cut pl K) q:=by
 obtain ⟨f,o,fd,c,bm,ob,n1,n2,n3,n4,n5,b1,b2,b3,b4,b5,b6⟩:=h;exact ⟨f,o,fd,c,bm,ob,Jp hp n1,Hl hp n2 (by rw [n3];intro z;cases z),n3,n4,Nx hp n5,Jp hp b1,Hl hp b2 (by rw [b5];intro z;cases z),b3,b4,b5,b6⟩
theorem Uv {pl q:Addr}{x:Str}{K:aj}(hp:K.lookup pl=some (jc #[])) (h:M6 K x q):M6 (cut pl K) x q:=by
 obtain ⟨f,o,fd,c,bm,ob,n1,n2,n3,n4,n5,b1,b2,b3,b4,b5,b6⟩:=h;exact ⟨f,o,fd,c,bm,ob,Jp hp n1,Hl hp n2 (by rw [n3];intro z;cases z),n3,n4,Nx hp n5,Jp hp b1,Hl hp b2 (by rw [b5];intro z;cases z),b3,b4,b5,b6⟩
noncomputable def Slot (K:aj) (o:MO) (a:Addr):Prop:=match o with
 | .plc=>pA K a
 | .plq x=>M6 K x a
 | .plw x o=>o=none/\M6 K x a
 | _=>False
theorem Slot.cut {K:aj}{o:MO}{p a:Addr}(hp:K.lookup p=some (jc #[])) (h:Slot K o a):Slot (DL.cut p K) o a:=by
 cases o with
 | plc=>exact rF hp h
 | plq x=>exact Uv hp h
 | plw x o=>exact ⟨h.1,Uv hp h.2⟩
 | _=>exact h
theorem Slot.table {K:aj}{o:MO}{a:Addr}{h:Heap}(KX:K.In h) (s:Slot K o a):isCodeTable h a:=by
 have go:∀ {c:Addr},vz K c a=true->isCodeTable h a:=λ{c} n5=>by
  obtain ⟨o,vs,_,_,_,_,_,_,_,e1,e2,e3,e4,_⟩:=DN KX n5;exact ⟨c,o,vs,e1,e2,e3,e4⟩
 cases o with
 | plc =>
  obtain ⟨f,o,fd,c,bm,ob,n1,n2,n3,n4,n5,_⟩:=s;exact go n5
 | plq x =>
  obtain ⟨f,o,fd,c,bm,ob,n1,n2,n3,n4,n5,_⟩:=s;exact go n5
 | plw x o =>
  obtain ⟨_,f,o,fd,c,bm,ob,n1,n2,n3,n4,n5,_⟩:=s;exact go n5
 | _=>exact s.elim
noncomputable def Slots (K:aj):MH->List Addr->Prop
 | [],[]=>True
 | o::os,a::as=>Slot K o a/\Slots K os as
 | _,_=>False
theorem Slots.at {K:aj}:∀ {os:MH}{as:List Addr}{n:Nat}{a:Addr}{o:MO},Slots K os as->as[n]?=some a->os[n]?=some o->Slot K o a
 | [],[],_,_,_,_,e,_=>by cases e
 | _::_,_::_,0,_,_,h,e1,e2=>by cases e1;cases e2;exact h.1
 | _::_,_::_,_+1,_,_,h,e1,e2=>Slots.at h.2 e1 e2
theorem Slots.len {K:aj}:∀ {os:MH}{as:List Addr},Slots K os as->as.length=os.length
 | [],[],_=>rfl
 | _::_,_::_,h=>by rw [jk,jk,Slots.len h.2]
theorem Slots.cut {K:aj}{p:Addr}(hp:K.lookup p=some (jc #[])):∀ {os:MH}{as:List Addr},Slots K os as->Slots (DL.cut p K) os as
 | [],[],_=>trivial
 | _::_,_::_,h=>⟨h.1.cut hp,Slots.cut hp h.2⟩
theorem Slots.table {K:aj}{h:Heap}(KX:K.In h):∀ {os:MH}{as:List Addr},Slots K os as->∀ a∈as,isCodeTable h a
 | [],[],_,_,z=>by cases z
 | _::_,_::_,s,a,z=>by
  rcases dg.mp z with rfl|z
  ·exact s.1.table KX
  ·exact Slots.table KX s.2 a z
theorem Ads {l:PySem.W.OpenLaw}{q:Program}{loose:List Str}{XP:(Str->Option Value)->Heap->Prop}{YP:World->Heap->Prop}{d:DefRec}{K:Params->aj}{Tt:Tb}{I:FnI}{x:Str}(k:Nat) (sl:MH)
  (hn:l.most=some 63) (hdf:d.params.defaults=[]) (hY:∀ (w:World) (h:Heap),YP w h->(K w.params).In h) (hr:Room (k+3) callerA)
  (hI:Tt.tb d.name=some I) (hps:I.ps=[x])
  (T:∀ (w:World) (mg:Str->Option Value) (h:Heap),(K w.params).In h->h.Ns mainGlobals mg->∃ pls,Wo (K w.params) pls/\Slots (K w.params) sl pls/\TbOk w (Jq pls (K w.params)) mg Tt)
  (main:∀ ns:List Int,ns.length<=63->∃ mh',Af (GkN Tt k) fuel I [.rol (ns.map D.int)] sl=some (.bl true,mh')) :
  PySem.W.WalkO q loose XP YP l.row.toRowW d [] (λf vs=>PySem.call f vs):=by
 refine Att.attach_call hn hdf λw s₀ s₁ mg mb fa o pm cd doc a vs ns G Y ho hd hcd hmg hobj hints hlen hg=>?_
 have KX:=hY w _ Y;obtain ⟨pls,hp,pk,tb⟩:=T w mg _ KX G.T.g;have ck:(Jq pls (K w.params)).In s₁.heap:=Dc (Q:=λK=>K.In s₁.heap) (λ_ X=>iB X) hp KX;have pk2:=Dc (Q:=λK=>Slots K sl pls) (λe s=>s.cut e) hp pk;obtain ⟨qual,st,f,fd,h1,h2,h3,h4,h5,h6⟩:=tb.fn _ _ hI;rw [hmg] at h1;cases h1;refine L2.aJ (x:=x) (k:=k+3) (CX:=CX0) (fd:=fd) (pls:=pls) (sp:=spD (Jq pls (K w.params)) 1 (Af (GkN Tt k) fuel I)) ck (λp hq=>Lr (K:=K w.params) (.inl hq)) (λp hq=>KX _ _ (hp.2 p hq)) (pk.table KX) G.T.g G.T.b G.T.builtins G.T.nolimit hg hobj hints (ig hlen (by decide)) hr (λbase hKb hNb=>?_) (λs u=>.of_eq ?_) (λH hP hS=>?_) λ_ _ _ z=>z
 ·have:=gJ (P:=l.prog) (w:=w) (base:=base) (gok tb k) h2 h3 h4 h5 fuel;rw [hps] at this;exact this
 ·have:=h6 [u] (by rw [hps];rfl);rw [hps] at this;exact this
 ·obtain ⟨mh',e⟩:=main ns hlen;refine ⟨rfl,pls,sl,[.rol (ns.map D.int)],.bl true,mh',e,⟨pk.len,hp.1,λn a o e1 e2=>?_⟩,.cons (.rol hS (RDs.ints ns)) .nil,λH' ρ' v _ _ r=>by cases r;rfl⟩;have s:=pk2.at e1 e2;have ha:=hP a (di e1);cases o with
  | plc=>exact ⟨#[],ha,trivial,λpos v z=>(by cases z),s⟩
  | plq x=>exact ⟨#[],ha,trivial,λpos v z=>(by cases z),s⟩
  | plw x o=>obtain ⟨rfl,s⟩:=s;exact ⟨ha,s⟩
  | _=>exact s.elim
section
variable {loc:DL.Loc}{mh:MH}{ma mb:DM D}{mr:DM (List D)}{t u:DM Bool}{m1 m2:SM}
theorem Adt (i:Nat):vr i loc mh=(match loc[i]? with | some (some d)=>some (d,mh) | _=>none):=by kernel_rfl
theorem zN (f:D->D->MH->Option (D×MH)):dop f ma mb loc mh=(match ma loc mh with | none=>none | some (x,h)=>(match mb loc h with | none=>none | some (y,h2)=>f x y h2)):=by kernel_rfl
theorem rG:Dh ma loc mh=(match ma loc mh with | none=>none | some (x,h)=>(match cV x h with | some k=>some (k,h) | none=>none)):=by kernel_rfl
theorem iH (T:String) (f:D->List D->MH->Option (D×MH)):Bo T f ma mr loc mh=(match ma loc mh with | none=>none | some (x,h)=>if Qt T x h=true then (match mr loc h with | none=>none | some (ds,h2)=>f x ds h2) else none):=by kernel_rfl
theorem rH (g:GM):Ao ma g loc mh=(match ma loc mh with | some (d,h)=>(match g d loc h with | some (l,h')=>some (.nx,l,h') | none=>none) | none=>none):=by kernel_rfl
theorem iJ:ifS t m1 m2 loc mh=(match t loc mh with | some (k,h)=>if k=true then m1 loc h else m2 loc h | none=>none):=by kernel_rfl
theorem rJ:retS ma loc mh=(match ma loc mh with | some (d,h)=>some (.rt d,loc,h) | none=>none):=by kernel_rfl
theorem iK:Dp ma loc mh=(match ma loc mh with | some (_,h)=>some (.nx,loc,h) | none=>none):=by kernel_rfl
theorem Yk:Ab m1 m2 loc mh=(match m1 loc mh with | some (.nx,l,h)=>m2 l h | r=>r):=by kernel_rfl
theorem rK:Cq ma loc mh=(match ma loc mh with | none=>none | some (x,h)=>(match srcOf x h with | some s=>some (s,h) | none=>none)):=by kernel_rfl
theorem rM (f:List D->Option Src):Ib f mr loc mh=(match mr loc mh with | none=>none | some (ds,h)=>(match f ds with | some s=>some (s,h) | none=>none)):=by
 unfold Ib DM.bnd;cases mr loc mh with
 | none=>rfl
 | some p =>
  obtain ⟨ds,h⟩:=p;dsimp only;cases f ds <;> rfl
theorem iM:Jz (some ma) loc mh=(match ma loc mh with | some (.int i,h)=>some (some i,h) | _=>none):=by
 show (ma.bnd _) loc mh=_;unfold DM.bnd;cases ma loc mh with
 | none=>rfl
 | some p =>
  obtain ⟨x,h⟩:=p;cases x <;> rfl
end
theorem iQ (C:Int->Int->Bool) (g:Int->Int->Int) (i j:Int) (mh:MH):iop C g (.int i) (.int j) mh=if C i j=true then some (.int (g i j),mh) else none:=by kernel_rfl
theorem iR {j:Int}(h0:0<=j) (h:j<=1000000):Jm [.int j]=some (.seq (Bv 0 j.toNat)):=by
 have e2:-(2 ^ 62)<=j/\j < 2 ^ 62:=by omega
 unfold Jm;dsimp only;rw [if_pos e2]
theorem Ew {B:Nat}(h:B<=1000000):Jm [.int B]=some (.seq (Bv 0 B)):=by rw [iR (by omega) (by omega),uy]
theorem Az (lo:Int) (n:Nat):(Bv lo n).length=n:=by unfold Bv;rw [aq,List.length_range]
theorem le_size {n:Nat}(h:n<=1000000):n<=sizeLine:=by rw [yj];omega
theorem lt_size {n:Nat}(h:n<=1000000):n < sizeLine:=by rw [yj];omega
theorem iU {ds:List D}{mh:MH}(h:ds.length<=1000000):Oz ds mh=some (.tup ds,mh):=by unfold Oz;rw [if_pos (le_size h)]
theorem iV {ds:List D}{mh:MH}(h:ds.length<=1000000):O1 ds mh=some (.ref mh.length,mh++[.lst ds]):=by unfold O1;rw [if_pos (le_size h)]
theorem Wq {n:Nat}{ds:List D}{y:D}{mh:MH}(e:mh[n]?=some (.lst ds)) (h:ds.length<=1000000):Bs (.ref n) [y] mh=some (.non,mh.set n (.lst (ds++[y]))):=by
 simp only [Bs,e,if_pos (lt_size h)]
theorem iW {n m:Nat}{xs ys:List D}{mh:MH}(e1:mh[n]?=some (.lst xs)) (e2:mh[m]?=some (.lst ys)) (h:xs.length+ys.length<=1000000):Be (.ref n) (.ref m) mh=some (.ref mh.length,mh++[.lst (xs++ys)]):=by
 simp only [Be,e1,e2,if_pos (le_size h)]
end DL
namespace DL
open PySem L2 PyProof.Rows
noncomputable abbrev Cu (n:Nat):D:=.int (n:Int)
theorem K8 {n:Nat}{ds:List D}{g:GM}{tc:DM Bool}{me:DM D}{loc:DL.Loc}{mh:MH}{p:D->Bool}{f:D->D}(hn:mh[n]?=some (.lst ds)) (step:∀ d∈ds,∃ l1,g d loc mh=some (l1,mh)/\tc l1 mh=some (p d,mh)/\(p d=true->me l1 mh=some (f d,mh))) :
  ∀ (k i:Nat) (acc:List D),i+k=ds.length->acc.length+k<=sizeLine->Ge (.lref n) g tc me loc k i acc mh=some (acc++((ds.drop i).filter p).map f,mh)
 | 0,i,acc,e,_=>by
  have e:i=ds.length:=by omega
  subst e;have:Src.stop (.lref n) mh ds.length=true:=by simp [Src.stop,Src.ok,Src.items,hn]
  simp only [Ge,this,if_true];simp
 | k+1,i,acc,e,hz=>by
  have hi:i < ds.length:=by omega
  obtain ⟨l1,e1,e2,e3⟩:=step ds[i] (qp hi);have eg:Src.get (.lref n) mh i=some ds[i]:=by simp [Src.get,Src.items,hn,hi]
  have ed:ds.drop i=ds[i]::ds.drop (i+1):=List.drop_eq_getElem_cons hi;simp only [Ge,eg,e1,e2];cases hp:p ds[i] with
  | false =>
   simp only [zj,if_false];rw [K8 hn step k (i+1) acc (by omega) (by omega),ed,List.filter_cons_of_neg (by simp [hp])]
  | true =>
   simp only [if_true,e3 hp];rw [if_pos (by omega),K8 hn step k (i+1) (acc++[f ds[i]]) (by omega) (by rw [bh,um];omega),ed,List.filter_cons_of_pos hp,mq,qu];rfl
theorem aK {mi:DM Src}{cs:List (Option Nat)}{n:Nat}{ds:List D}{g:GM}{tc:DM Bool}{me:DM D}{loc:DL.Loc}{mh mh0:MH}{p:D->Bool}{f:D->D}(hm:mi loc mh=some (.lref n,mh0)) (hn:mh0[n]?=some (.lst ds)) (hz:ds.length<=sizeLine)
  (step:∀ d∈ds,∃ l1,g d (Hv cs loc) mh0=some (l1,mh0)/\tc l1 mh0=some (p d,mh0)/\(p d=true->me l1 mh0=some (f d,mh0))):Bj mi cs g tc me loc mh=some (.ref mh0.length,mh0++[.lst ((ds.filter p).map f)]):=by
 unfold Bj;rw [hm];have e0:(Src.items (.lref n) mh0).length=ds.length:=by simp [Src.items,hn]
 have:=K8 hn step ds.length 0 [] (by omega) (by simpa using hz);have e:Ge (.lref n) g tc me (Hv cs loc) (Src.items (.lref n) mh0).length 0 [] mh0=some (((ds.filter p).map f),mh0):=by
  rw [e0]
  simpa using this
 simp only [e]
end DL
namespace DL
open PySem L2
noncomputable def wD {α:Type}(m:DM α) (loc:DL.Loc) (mh:MH) (P:α->MH->Prop):Prop:=∃ a h,m loc mh=some (a,h)/\P a h
noncomputable def wV (r:Option (D×MH)) (P:D->MH->Prop):Prop:=∃ d h,r=some (d,h)/\P d h
noncomputable def wG (r:Option (DL.Loc×MH)) (P:DL.Loc->MH->Prop):Prop:=∃ l h,r=some (l,h)/\P l h
noncomputable def wS (m:SM) (loc:DL.Loc) (mh:MH) (P:Fl->DL.Loc->MH->Prop):Prop:=∃ f l h,m loc mh=some (f,l,h)/\P f l h
section
variable {loc:DL.Loc}{mh:MH}{ma mb mc:DM D}{mr:DM (List D)}{t u:DM Bool}{P:D->MH->Prop}{B:Bool->MH->Prop}
theorem Bc {α:Type}{m:DM α}{P Q:α->MH->Prop}(h:wD m loc mh P) (i:∀ a h,P a h->Q a h):wD m loc mh Q:=let ⟨a,h',e,p⟩:=h;⟨a,h',e,i a h' p⟩
theorem Dd {i:Nat}{d:D}(e:loc[i]?=some (some d)) (h:P d mh):wD (vr i) loc mh P:=⟨d,mh,by rw [Adt,e],h⟩
theorem Dy {α:Type}{a:α}{P:α->MH->Prop}(h:P a mh):wD (Zr a) loc mh P:=⟨a,mh,rfl,h⟩
theorem rN {f:MH->Option (D×MH)}(h:wV (f mh) P):wD (Zl f) loc mh P:=h
theorem Bw {α β:Type}{m:DM α}{f:α->DM β}{P:β->MH->Prop}(h:wD m loc mh λa h1=>wD (f a) loc h1 P):wD (m.bnd f) loc mh P:=by
 obtain ⟨a,h1,e1,b,h2,e2,p⟩:=h;exact ⟨b,h2,by unfold DM.bnd;rw [e1];exact e2,p⟩
theorem Uw {f:D->D->MH->Option (D×MH)}(h:wD ma loc mh λx h1=>wD mb loc h1 λy h2=>wV (f x y h2) P):wD (dop f ma mb) loc mh P:=Bw (Bc h λ_ _ q=>Bw (Bc q λ_ _ z=>z))
theorem rO {P:List D->MH->Prop}(h:wD ma loc mh λx h1=>wD mr loc h1 λxs h2=>P (x::xs) h2):wD (Aa ma mr) loc mh P:=Bw (Bc h λ_ _ q=>Bw (Bc q λ_ _ z=>Dy z))
theorem zO {f:Fn}(h:wD mr loc mh λds h1=>wV (f ds h1) P):wD (Ae f mr) loc mh P:=Bw (Bc h λ_ _ q=>q)
theorem zP (h:wD mr loc mh λds h1=>ds.length<=1000000/\P (.tup ds) h1):wD (Bg mr) loc mh P:=Bw (Bc h λ_ _ q=>⟨_,_,iU q.1,q.2⟩)
theorem zQ (h:wD mr loc mh λds h1=>ds.length<=1000000/\P (.ref h1.length) (h1++[.lst ds])):wD (lstM mr) loc mh P:=Bw (Bc h λ_ _ q=>⟨_,_,iV q.1,q.2⟩)
theorem zR (h:wD ma loc mh λx h1=>∃ i,x=.int i/\P (.int (-i)) h1):wD (Rn ma) loc mh P:=Bw (Bc h λ_ _ ⟨i,e,q⟩=>by subst e;exact ⟨_,_,rfl,q⟩)
theorem Fx {T:String}(h:wD ma loc mh λx h1=>wV (M8 T x h1) P):wD (Gd T ma) loc mh P:=Bw (Bc h λ_ _ q=>q)
theorem Ja (h:wD ma loc mh λx h1=>∃ k,x=.bl k/\B k h1):wD (Ar ma) loc mh B:=Bw (Bc h λ_ _ ⟨k,e,q⟩=>by subst e;exact Dy q)
theorem Ez (h:wD ma loc mh λx h1=>∃ k,cV x h1=some k/\B k h1):wD (Dh ma) loc mh B:=by
 obtain ⟨x,h1,e,k,ek,q⟩:=h;exact ⟨k,h1,by rw [rG,e];dsimp only;rw [ek],q⟩
theorem rP (h:wD ma loc mh λx h1=>∃ k,x=.bl k/\P (.bl (!k)) h1):wD (rB ma) loc mh P:=Bw (Ja (Bc h λ_ _ ⟨k,e,q⟩=>⟨k,e,Dy q⟩))
theorem Ep (h:wD t loc mh λk h1=>B (!k) h1):wD (Ce t) loc mh B:=Bw (Bc h λ_ _ q=>Dy q)
theorem Ro (h:wD t loc mh λk h1=>(k=true->wD u loc h1 B)/\(k=false->B false h1)):wD (Gv t u) loc mh B:=Bw (Bc h λk _ q=>by
 cases k with
 | true=>exact q.1 rfl
 | false=>exact Dy (q.2 rfl))
theorem Ho (h:wD t loc mh λk h1=>(k=true->B true h1)/\(k=false->wD u loc h1 B)):wD (Fz t u) loc mh B:=Bw (Bc h λk _ q=>by
 cases k with
 | true=>exact Dy (q.1 rfl)
 | false=>exact q.2 rfl)
theorem Yl (h:wD ma loc mh λx h1=>∃ k,x=.bl k/\(k=true->wD mb loc h1 P)/\(k=false->P (.bl false) h1)):wD (Ca ma mb) loc mh P:=Bw (Ja (Bc h λ_ _ ⟨k,e,q⟩=>⟨k,e,by
 cases k with
 | true=>exact q.1 rfl
 | false=>exact Dy (q.2 rfl)⟩))
theorem zT (h:wD ma loc mh λx h1=>∃ k,x=.bl k/\(k=true->P (.bl true) h1)/\(k=false->wD mb loc h1 P)):wD (S8 ma mb) loc mh P:=Bw (Ja (Bc h λ_ _ ⟨k,e,q⟩=>⟨k,e,by
 cases k with
 | true=>exact Dy (q.1 rfl)
 | false=>exact q.2 rfl⟩))
theorem iY {f f':D->D->MH->Option (D×MH)}(h:wD ma loc mh λx h1=>wD mb loc h1 λy h2=>wV (f x y h2) λz h3=>∃ k,z=.bl k/\(k=true->wD mc loc h3 λw h4=>wV (f' y w h4) P)/\(k=false->P (.bl false) h3)):wD (Ie f f' ma mb mc) loc mh P :=
 Bw (Bc h λ_ _ q=>Bw (Bc q λ_ _ z=>Bw (Ja (Bc (rN z) λ_ _ ⟨k,e,q⟩=>⟨k,e,by
  cases k with
  | true=>exact Bw (Bc (q.1 rfl) λ_ _ w=>w)
  | false=>exact Dy (q.2 rfl)⟩))))
theorem Rp {T:String}{f:D->List D->MH->Option (D×MH)}(h:wD ma loc mh λx h1=>Qt T x h1=true/\wD mr loc h1 λds h2=>wV (f x ds h2) P):wD (Bo T f ma mr) loc mh P:=by
 obtain ⟨x,h1,e1,ht,ds,h2,e2,d,h3,e3,p⟩:=h;exact ⟨d,h3,by rw [iH,e1];dsimp only;rw [if_pos ht,e2];exact e3,p⟩
theorem iZ {O:Option Int->MH->Prop}(h:O none mh):wD (Jz none) loc mh O:=⟨none,mh,rfl,h⟩
theorem jA {O:Option Int->MH->Prop}(h:wD ma loc mh λx h1=>∃ i,x=.int i/\O (some i) h1):wD (Jz (some ma)) loc mh O:=by
 obtain ⟨x,h1,e,i,rfl,q⟩:=h;exact ⟨some i,h1,by rw [iM,e],q⟩
theorem Adu {ml mu:Option (DM D)}(h:wD ma loc mh λx h1=>wD (Jz ml) loc h1 λl h2=>wD (Jz mu) loc h2 λr h3=>wV (slD x l r h3) P):wD (dSl ma ml mu) loc mh P :=
 Bw (Bc h λ_ _ q=>Bw (Bc q λ_ _ z=>Bw (Bc z λ_ _ w=>w)))
theorem Gr {R:Src->MH->Prop}(h:wD ma loc mh λx h1=>∃ s,srcOf x h1=some s/\R s h1):wD (Cq ma) loc mh R:=by
 obtain ⟨x,h1,e,s,es,q⟩:=h;exact ⟨s,h1,by rw [rK,e];dsimp only;rw [es],q⟩
theorem zU {R:Src->MH->Prop}{f:List D->Option Src}(h:wD mr loc mh λds h1=>∃ s,f ds=some s/\R s h1):wD (Ib f mr) loc mh R:=by
 obtain ⟨x,h1,e,s,es,q⟩:=h;exact ⟨s,h1,by rw [rM,e];dsimp only;rw [es],q⟩
end
noncomputable def seqK (m2:SM) (P:Fl->DL.Loc->MH->Prop) (f:Fl) (l:DL.Loc) (h:MH):Prop:=match f with
 | .nx=>wS m2 l h P
 | f=>P f l h
section
variable {loc l:DL.Loc}{mh h1:MH}{me:DM D}{m1 m2:SM}{g:GM}{t:DM Bool}{P:Fl->DL.Loc->MH->Prop}
theorem Mr {m:SM}{P Q:Fl->DL.Loc->MH->Prop}(h:wS m loc mh P) (i:∀ f l h,P f l h->Q f l h):wS m loc mh Q:=let ⟨f,l,h',e,p⟩:=h;⟨f,l,h',e,i f l h' p⟩
theorem Cj (h:wS m1 loc mh (seqK m2 P)):wS (Ab m1 m2) loc mh P:=by
 obtain ⟨f,l,h1,e,q⟩:=h;cases f with
 | nx =>
  obtain ⟨f',l',h',e',p⟩:=q;exact ⟨f',l',h',by rw [Yk,e];exact e',p⟩
 | _=>exact ⟨_,l,h1,by rw [Yk,e],q⟩
theorem Ax (h:wS m2 l h1 P):seqK m2 P .nx l h1:=h
theorem rQ {d:D}(h:P (.rt d) l h1):seqK m2 P (.rt d) l h1:=h
theorem Ck (h:P .nx loc mh):wS Zn loc mh P:=⟨_,_,_,rfl,h⟩
theorem Rq (h:wD me loc mh λd h1=>wG (g d loc h1) λl h2=>P .nx l h2):wS (Ao me g) loc mh P:=by
 obtain ⟨d,h1,e1,l,h2,e2,p⟩:=h;exact ⟨.nx,l,h2,by rw [rH,e1];dsimp only;rw [e2],p⟩
theorem jB (h:wD me loc mh λd h1=>P (.rt d) loc h1):wS (retS me) loc mh P:=by
 obtain ⟨d,h1,e1,p⟩:=h;exact ⟨.rt d,loc,h1,by rw [rJ,e1],p⟩
theorem rR (h:wD me loc mh λ_ h1=>P .nx loc h1):wS (Dp me) loc mh P:=by
 obtain ⟨d,h1,e1,p⟩:=h;exact ⟨.nx,loc,h1,by rw [iK,e1],p⟩
theorem Ij (h:wD t loc mh λk h1=>(k=true->wS m1 loc h1 P)/\(k=false->wS m2 loc h1 P)):wS (ifS t m1 m2) loc mh P:=by
 obtain ⟨k,h1,e1,a,b⟩:=h;cases k with
 | true =>
  obtain ⟨f,l,h',e,p⟩:=a rfl;exact ⟨f,l,h',by rw [iJ,e1];exact e,p⟩
 | false =>
  obtain ⟨f,l,h',e,p⟩:=b rfl;exact ⟨f,l,h',by rw [iJ,e1];exact e,p⟩
theorem Cw {i:Nat}{d:D}{R:DL.Loc->MH->Prop}(h:R (loc.set i (some d)) mh):wG (Aj i d loc mh) R:=⟨_,_,rfl,h⟩
theorem Gs {is:List Nat}{ds:List D}{R:DL.Loc->MH->Prop}(hl:ds.length=is.length) (h:R (M7 is ds loc) mh):wG (Fe is (.tup ds) loc mh) R:=⟨_,_,if_pos hl,h⟩
theorem zV {mo mi:DM D}{v:D}{R:DL.Loc->MH->Prop}(h:wD mo loc mh λo h1=>wD mi loc h1 λi h2=>∃ h3,Tg o i v h2=some h3/\R loc h3):wG (O6 mo mi v loc mh) R:=by
 obtain ⟨o,h1,e1,i,h2,e2,h3,e3,p⟩:=h;refine ⟨loc,h3,?_,p⟩;unfold O6;rw [e1];dsimp only;rw [e2];dsimp only;rw [e3]
theorem jC {n:Nat}{ds:List D}{k:Nat}{v:D}{h:MH}(e:h[n]?=some (.lst ds)) (hk:k < ds.length):Tg (.ref n) (.int k) v h=some (h.set n (.lst (ds.set k v))):=by
 have e2:ixN ds.length (k:Int)=some k:=by unfold ixN;rw [if_pos (by omega),if_pos (by omega)];simp
 simp only [Tg,e,e2]
noncomputable def zW (J:DL.Loc->MH->Prop) (P:Fl->DL.Loc->MH->Prop) (f:Fl) (l:DL.Loc) (h:MH):Prop:=match f with
 | .nx=>J l h
 | .ct=>J l h
 | .bk=>P .nx l h
 | .rt d=>P (.rt d) l h
theorem Wr {src:Src}{ds:List D}{body:SM}(J:Nat->DL.Loc->MH->Prop) (keep:∀ i l h,J i l h->src.ok h=true/\src.items h=ds)
  (step:∀ i d l h,ds[i]?=some d->J i l h->wG (g d l h) λl1 h1=>wS body l1 h1 (zW (J (i+1)) P)) (fin:∀ l h,J ds.length l h->P .nx l h) :
  ∀ (k i:Nat) (l:DL.Loc) (h:MH),i+k=ds.length->J i l h->wS (Ma src g body k i) l h P
 | 0,i,l,h,e,j=>by
  have e:i=ds.length:=by omega
  subst e;have s:src.stop h ds.length=true:=by
   unfold Src.stop;rw [(keep _ _ _ j).1,(keep _ _ _ j).2,gh];exact decide_eq_true (cg _)
  exact ⟨.nx,l,h,by simp only [Ma,s,if_true],fin _ _ j⟩
 | k+1,i,l,h,e,j=>by
  have hi:i < ds.length:=by omega
  have eg:src.get h i=some ds[i]:=by
   unfold Src.get;rw [(keep _ _ _ j).2,bw hi]
  obtain ⟨l1,h1,e1,f,l2,h2,e2,q⟩:=step i ds[i] l h (bw hi) j;cases f with
  | nx =>
   obtain ⟨f',l',h',e',p⟩:=Wr J keep step fin k (i+1) l2 h2 (by omega) q;exact ⟨f',l',h',by simp only [Ma,eg,e1,e2];exact e',p⟩
  | ct =>
   obtain ⟨f',l',h',e',p⟩:=Wr J keep step fin k (i+1) l2 h2 (by omega) q;exact ⟨f',l',h',by simp only [Ma,eg,e1,e2];exact e',p⟩
  | bk=>exact ⟨.nx,l2,h2,by simp only [Ma,eg,e1,e2],q⟩
  | rt d=>exact ⟨.rt d,l2,h2,by simp only [Ma,eg,e1,e2],q⟩
theorem Dz {mi:DM Src}{body:SM}(h:wD mi loc mh λsrc h0=>∃ ds,∃ J:Nat->DL.Loc->MH->Prop,J 0 loc h0/\(∀ i l h,J i l h->src.ok h=true/\src.items h=ds) /\
  (∀ i d l h,ds[i]?=some d->J i l h->wG (g d l h) λl1 h1=>wS body l1 h1 (zW (J (i+1)) P))/\∀ l h,J ds.length l h->P .nx l h):wS (Ga mi g body) loc mh P:=by
 obtain ⟨src,h0,e,ds,J,j0,keep,step,fin⟩:=h;have el:(src.items h0).length=ds.length:=by rw [(keep _ _ _ j0).2]
 obtain ⟨f,l,h',e',p⟩:=Wr J keep step fin ds.length 0 loc h0 (by omega) j0;refine ⟨f,l,h',?_,p⟩;unfold Ga;rw [e];dsimp only;rw [el];exact e'
theorem Rr {src:Src}{ds:List D}{tc:DM Bool}{e:DM D}{R:List D->MH->Prop}(J:Nat->List D->MH->Prop) (keep:∀ i acc h,J i acc h->src.ok h=true/\src.items h=ds) (hz:ds.length<=1000000) (small:∀ i acc h,J i acc h->acc.length<=i)
  (step:∀ i d acc h,ds[i]?=some d->J i acc h->wG (g d loc h) λl1 h1=>wD tc l1 h1 λc h2=>(c=true->wD e l1 h2 λy h3=>J (i+1) (acc++[y]) h3)/\(c=false->J (i+1) acc h2)) (fin:∀ acc h,J ds.length acc h->R acc h) :
  ∀ (k i:Nat) (acc:List D) (h:MH),i+k=ds.length->J i acc h->∃ acc' h',Ge src g tc e loc k i acc h=some (acc',h')/\R acc' h'
 | 0,i,acc,h,q,j=>by
  have q:i=ds.length:=by omega
  subst q;have s:src.stop h ds.length=true:=by
   unfold Src.stop;rw [(keep _ _ _ j).1,(keep _ _ _ j).2,gh];exact decide_eq_true (cg _)
  exact ⟨acc,h,by simp only [Ge,s,if_true],fin _ _ j⟩
 | k+1,i,acc,h,q,j=>by
  have hi:i < ds.length:=by omega
  have eg:src.get h i=some ds[i]:=by
   unfold Src.get;rw [(keep _ _ _ j).2,bw hi]
  obtain ⟨l1,h1,e1,c,h2,e2,a,b⟩:=step i ds[i] acc h (bw hi) j;cases c with
  | true =>
   obtain ⟨y,h3,e3,j3⟩:=a rfl;obtain ⟨acc',h',e',p⟩:=Rr J keep hz small step fin k (i+1) _ h3 (by omega) j3;have hl:acc.length < sizeLine:=lt_size (by have:=small _ _ _ j;omega);exact ⟨acc',h',by simp only [Ge,eg,e1,e2,if_true,e3,if_pos hl];exact e',p⟩
  | false =>
   obtain ⟨acc',h',e',p⟩:=Rr J keep hz small step fin k (i+1) _ h2 (by omega) (b rfl);exact ⟨acc',h',by simp only [Ge,eg,e1,e2,zj,if_false];exact e',p⟩
theorem Hq {mi:DM Src}{cs:List (Option Nat)}{tc:DM Bool}{e:DM D}{Q:D->MH->Prop}(h:wD mi loc mh λsrc h0=>∃ ds,∃ J:Nat->List D->MH->Prop,ds.length<=1000000/\J 0 [] h0/\(∀ i acc h,J i acc h->src.ok h=true/\src.items h=ds)/\(∀ i acc h,J i acc h->acc.length<=i) /\
  (∀ i d acc h,ds[i]?=some d->J i acc h->wG (g d (Hv cs loc) h) λl1 h1=>wD tc l1 h1 λc h2=>(c=true->wD e l1 h2 λy h3=>J (i+1) (acc++[y]) h3)/\(c=false->J (i+1) acc h2)) /\
  ∀ acc h,J ds.length acc h->Q (.ref h.length) (h++[.lst acc])):wD (Bj mi cs g tc e) loc mh Q:=by
 obtain ⟨src,h0,e0,ds,J,hz,j0,keep,small,step,fin⟩:=h;have el:(src.items h0).length=ds.length:=by rw [(keep _ _ _ j0).2]
 obtain ⟨acc,h',e',p⟩:=Rr J keep hz small step fin ds.length 0 [] h0 (by omega) j0;refine ⟨.ref h'.length,h'++[.lst acc],?_,p⟩;unfold Bj;rw [e0];dsimp only;rw [el,e']
end
noncomputable def Ux (P:D->MH->Prop) (f:Fl) (_:DL.Loc) (h:MH):Prop:=match f with
 | .rt d=>P d h
 | .nx=>P .non h
 | _=>False
theorem Aq {G:Gb}{n:Nat}{I:FnI}{b:SM}{ds:List D}{mh:MH}{np m:Nat}{P:D->MH->Prop}(hb:iSs G n { N:=I.N,scope:=I.scope,own:=λ_=>true } I.body=b) (hp:I.ps.length=np) (hN:I.N.length=m) (hl:ds.length=np)
  (h:wS b (ds.map some++iz (m - np) none) mh (Ux P)):wV (Af G n I ds mh) P:=by
 obtain ⟨f,l,h',e,p⟩:=h;cases f with
 | rt d=>exact ⟨d,h',by unfold Af;rw [if_pos (by rw [hp];exact hl),hb,hN,hl,e],p⟩
 | nx=>exact ⟨.non,h',by unfold Af;rw [if_pos (by rw [hp];exact hl),hb,hN,hl,e],p⟩
 | bk=>exact p.elim
 | ct=>exact p.elim
section
variable {mh:MH}{P:D->MH->Prop}
theorem Ls {r:Option (D×MH)}{d:D}{h:MH}(e:r=some (d,h)) (p:P d h):wV r P:=⟨d,h,e,p⟩
theorem Jr {C:Int->Int->Bool}{g:Int->Int->Int}{i j:Int}(hC:C i j=true) (h:P (.int (g i j)) mh):wV (iop C g (.int i) (.int j) mh) P:=⟨_,_,by rw [iQ,if_pos hC],h⟩
theorem zX {i j:Int}(h:P (.int (i - j)) mh):wV (Gq (.int i) (.int j) mh) P:=Jr rfl h
theorem Fb {i j:Int}(hj:j≠0) (h:P (.int (i.fmod j)) mh):wV (Bd (.int i) (.int j) mh) P:=Jr (decide_eq_true hj) h
theorem Ms {i j:Int}(hj:j≠0) (hb:j.natAbs < 10889035741470030830827987437816582766592) (h:P (.int (i.fdiv j)) mh):wV (Bb (.int i) (.int j) mh) P:=Jr (by rw [decide_eq_true hj,decide_eq_true hb];rfl) h
theorem Ea {i j:Int}(hb:(-(2 ^ 64) < i/\i < 2 ^ 64)\/(-(2 ^ 64) < j/\j < 2 ^ 64)) (h:P (.int (i * j)) mh):wV (Ii (.int i) (.int j) mh) P:=show wV (iop T6 (λi j=>i * j) (.int i) (.int j) mh) P from Jr (by unfold T6;rw [CQ,decide_eq_true_iff,decide_eq_true_iff];exact hb) h
theorem rT {g:Int->Int->Bool}{i j:Int}(h:P (.bl (g i j)) mh):wV (Qq g (.int i) (.int j) mh) P:=⟨_,_,rfl,h⟩
theorem zY {i j:Int}(h:P (.int (i+j)) mh):wV (Be (.int i) (.int j) mh) P:=⟨_,_,rfl,h⟩
theorem zZ {i j:Int}(h:P (.bl (i==j)) mh):wV (eqD (.int i) (.int j) mh) P:=⟨_,_,rfl,h⟩
theorem Aaa {i j:Int}(h:P (.bl (!(i==j))) mh):wV (neD (.int i) (.int j) mh) P:=⟨_,_,rfl,h⟩
theorem uI {x y:D}{k:Bool}(e:eqB mh x y=some k) (h:P (.bl k) mh):wV (eqD x y mh) P:=⟨_,_,by unfold eqD;rw [e],h⟩
theorem uJ {x y:D}{k:Bool}(e:eqB mh x y=some k) (h:P (.bl (!k)) mh):wV (neD x y mh) P:=⟨_,_,by unfold neD;rw [e],h⟩
theorem Kf {n m:Nat}{xs ys:List D}(e1:mh[n]?=some (.lst xs)) (e2:mh[m]?=some (.lst ys)) (hz:xs.length+ys.length<=1000000) (h:P (.ref mh.length) (mh++[.lst (xs++ys)])):wV (Be (.ref n) (.ref m) mh) P:=⟨_,_,iW e1 e2 hz,h⟩
theorem Kg {xs ys:List D}(hz:xs.length+ys.length<=1000000) (h:P (.tup (xs++ys)) mh):wV (Be (.tup xs) (.tup ys) mh) P:=⟨_,_,by simp only [Be,if_pos (le_size hz)],h⟩
theorem Bm {ds:List D}{j:Nat}{d:D}(e:ds[j]?=some d) (h:P d mh):wV (ixD (.tup ds) (.int j) mh) P:=⟨d,mh,by simp only [ixD,Ph,cY,Dn,Qf e],h⟩
theorem Aab {ds:List D}{j:Nat}{d:D}(e:ds[j]?=some d) (h:P d mh):wV (ixD (.rol ds) (.int j) mh) P:=⟨d,mh,by simp only [ixD,Ph,cY,Dn,Qf e],h⟩
theorem jD {n:Nat}{ds:List D}{j:Nat}{d:D}(e1:mh[n]?=some (.lst ds)) (e:ds[j]?=some d) (h:P d mh):wV (ixD (.ref n) (.int j) mh) P:=⟨d,mh,by simp only [ixD,Z6 e1,cY,Dn,e1,Qf e],h⟩
theorem Cr {n:Nat}{ds:List D}{y:D}(e:mh[n]?=some (.lst ds)) (hz:ds.length<=1000000) (h:P .non (mh.set n (.lst (ds++[y])))):wV (Bs (.ref n) [y] mh) P:=⟨_,_,Wq e hz,h⟩
theorem jE {n k:Nat}{ds:List D}{y:D}(e:mh[n]?=some (.lst ds)) (hy:ds[k]?=some y) (hz:ds.length<=1000000) (h:P y (mh.set n (.lst (ds.eraseIdx k)))):wV (Ei (.ref n) [.int k] mh) P:=by
 have hk:k < ds.length:=(bf.mp hy).1;have e2:ixN ds.length (k:Int)=some k:=by unfold ixN;rw [if_pos (by omega),if_pos (by omega)];simp
 have hb:-(2 ^ 63)<=(k:Int)/\(k:Int) < 2 ^ 63:=by omega
 exact ⟨_,_,by simp only [Ei,e,if_pos hb,e2,hy],h⟩
theorem Cd {x:D}{ds:List D}(hx:∀ z,x≠.str z) (e:Dn x mh=some ds) (h:P (.int ds.length) mh):wV (Cz [x] mh) P:=by
 refine ⟨_,_,?_,h⟩;cases x with
 | str z=>exact (hx z rfl).elim
 | _=>simp only [Cz,Xo,e]
theorem Pu {x:D}{ds:List D}(e:Dn x mh=some ds) (h:P (.ref mh.length) (mh++[.lst ds])):wV (O3 [x] mh) P:=⟨_,_,by simp only [O3,e],h⟩
theorem Bk {x:D}{ds:List D}(e:Dn x mh=some ds) (h:P (.tup ds) mh):wV (Bh [x] mh) P:=⟨_,_,by simp only [Bh,e],h⟩
theorem jF {f:List Bool->Bool}{x:D}{bs:List Bool}(e:Dn x mh=some (bs.map D.bl)) (h:P (.bl (f bs)) mh):wV (J5 f [x] mh) P:=⟨_,_,by simp only [J5,e,Lj],h⟩
end
structure Ext (W:List Nat) (a b:MH):Prop where
 len:a.length<=b.length
 old:∀ i o,i ∉ W->a[i]?=some o->b[i]?=some o
theorem Ext.refl {W:List Nat}{a:MH}:Ext W a a:=⟨cg _,λ_ _ _ e=>e⟩
theorem Ext.trans {W:List Nat}{a b c:MH}(x:Ext W a b) (y:Ext W b c):Ext W a c:=⟨ig x.len y.len,λi o h e=>y.old i o h (x.old i o h e)⟩
theorem Ext.weak {W:List Nat}{a b:MH}(x:Ext [] a b):Ext W a b:=⟨x.len,λi o _ e=>x.old i o (by simp) e⟩
theorem Ext.more {W:List Nat}{a g:MH}:Ext W a (a++g):=⟨by rw [bh];omega,λi o _ e=>by rw [dw (bf.mp e).1];exact e⟩
theorem Ext.set {n:Nat}{a:MH}{o:MO}:Ext [n] a (a.set n o):=⟨by rw [iw];exact cg _,λi o' h e=>by rw [gk (λz=>h (by simp [z]))];exact e⟩
theorem Ext.setNew {W:List Nat}{n:Nat}{a b:MH}{o:MO}(x:Ext W a b) (h:a.length<=n):Ext W a (b.set n o):=⟨by rw [iw];exact x.len,λi o' hi e=>by
 have:i < a.length:=(bf.mp e).1
 rw [gk (by omega)];exact x.old i o' hi e⟩
theorem Ah {a:MH}{o:MO}:(a++[o])[a.length]?=some o:=by rw [gb (cg _),CT];rfl
theorem Ek {a:MH}{n:Nat}{o o':MO}(h:a[n]?=some o'):(a.set n o)[n]?=some o:=by
 rw [xg];simp [(bf.mp h).1]
section
variable {loc:DL.Loc}{mh:MH}{ma:DM D}{mr:DM (List D)}{P:D->MH->Prop}
theorem Aac {T1 T2:String}{f1 f2:D->List D->MH->Option (D×MH)}(h:wD ma loc mh λx h1=>(Qt T1 x h1=true/\wD mr loc h1 λds h2=>wV (f1 x ds h2) P)\/(Qt T1 x h1=false/\Qt T2 x h1=true/\wD mr loc h1 λds h2=>wV (f2 x ds h2) P)):wD (Lk T1 f1 T2 f2 ma mr) loc mh P:=by
 obtain ⟨x,h1,e,q⟩:=h;rcases q with ⟨t,q⟩|⟨t,t2,q⟩
 ·obtain ⟨a,h',e',p⟩:=Rp (T:=T1) (f:=f1) (ma:=ma) (mr:=mr) (loc:=loc) (mh:=mh) (P:=P) ⟨x,h1,e,t,q⟩;exact ⟨a,h',by unfold Lk;rw [e];dsimp only;rw [if_pos t];exact e',p⟩
 ·obtain ⟨a,h',e',p⟩:=Rp (T:=T2) (f:=f2) (ma:=ma) (mr:=mr) (loc:=loc) (mh:=mh) (P:=P) ⟨x,h1,e,t2,q⟩;exact ⟨a,h',by unfold Lk;rw [e];dsimp only;rw [if_neg (by rw [t];simp)];exact e',p⟩
theorem K9 {R:Src->MH->Prop}(h:wD mr loc mh λds h1=>∃ x y s t,ds=[x,y]/\srcOf x h1=some s/\srcOf y h1=some t/\R (.zip s t) h1):wD (K1 mr) loc mh R:=Bw (Bc h λ_ h1 ⟨x,y,s,t,e,e1,e2,q⟩=>by
 subst e
 exact ⟨_,h1,by simp only [qJ,e1,e2],q⟩)
theorem Js {i j:Int}(h1:0<=j) (h2:j<=1000000) (h3:i.natAbs < 2 ^ 64) (h:P (.int (i ^ j.toNat)) mh):wV (Rm (.int i) (.int j) mh) P:=Jr (by rw [decide_eq_true h1,decide_eq_true h2,decide_eq_true h3];rfl) h
end
section
variable {loc:DL.Loc}{mh:MH}{ma:DM D}{mr:DM (List D)}{P:D->MH->Prop}
end
theorem Adv {k:Bool}{B:Bool->Prop}(h:B k):∃ j,D.bl k=.bl j/\B j:=⟨k,rfl,h⟩
theorem Aad {i:Int}{B:Int->Prop}(h:B i):∃ j,D.int i=.int j/\B j:=⟨i,rfl,h⟩
theorem Aae {p q:Prop}(h:p):((true=true)->p)/\((true=false)->q):=⟨λ_=>h,λz=>by cases z⟩
theorem Ws {p q:Prop}(h:q):((false=true)->p)/\((false=false)->q):=⟨λz=>(by cases z),λ_=>h⟩
theorem rW {k:Bool}{p q:Prop}(e:k=true) (h:p):(k=true->p)/\(k=false->q):=⟨λ_=>h,λz=>by rw [e] at z;cases z⟩
theorem rY {k:Bool}{p q:Prop}(e:k=false) (h:q):(k=true->p)/\(k=false->q):=⟨λz=>(by rw [e] at z;cases z),λ_=>h⟩
theorem Am {k:Bool}{p q:Prop}(h1:k=true->p) (h2:k=false->q):(k=true->p)/\(k=false->q):=⟨h1,h2⟩
theorem Aaf {k:Bool}{h:MH}{B:Bool->Prop}(q:B k):∃ j,cV (.bl k) h=some j/\B j:=⟨k,rfl,q⟩
theorem Rt {T t:String}{x:D}{b:Bool}{mh:MH}{P:D->MH->Prop}(e1:Vt x mh=some t) (e2:xZ t T=some b) (h:P (.bl b) mh):wV (M8 T x mh) P:=⟨_,_,by unfold M8;rw [e1];dsimp only;rw [e2],h⟩
theorem Uy {n:Nat}{ns:List Int}{mh:MH}{P:D->MH->Prop}(e:mh[n]?=some (.lst (ns.map D.int))) (hz:ns.length < 64) (h:P (.ref mh.length) (mh++[.lst ((sortI ns).map D.int)])):wV (Di [.ref n] mh) P :=
 ⟨_,_,by show Di [.ref n] mh=_;simp only [Di,e,Fv,if_pos hz],h⟩
theorem Wt (ns:List Nat):∃ hs:List Nat,(sortI (ns.map λn:Nat=>(n:Int))).map D.int=hs.map Cu/\hs.length=ns.length/\∀ x∈hs,x∈ns:=by
 refine ⟨(sortI (ns.map λn:Nat=>(n:Int))).map Int.toNat,?_,?_,?_⟩
 ·rw [kh];apply DP;intro x hx;have:=(sortI_perm _).mem_iff.mp hx;obtain ⟨n,_,rfl⟩:=gj.mp this;simp [Cu]
 ·rw [aq,(sortI_perm _).length_eq,aq]
 ·intro x hx;obtain ⟨y,hy,rfl⟩:=gj.mp hx;have:=(sortI_perm _).mem_iff.mp hy;obtain ⟨n,hn,rfl⟩:=gj.mp this
  simpa using hn
theorem ty_list {a:Nat}{ds:List D}{mh:MH}(e:mh[a]?=some (.lst ds)):Qt "list" (.ref a) mh=true:=by
 show (true&&(match mh[a]? with | some (.lst _)=>true | _=>false))=true;rw [e];rfl
theorem src_list {a:Nat}{ds:List D}{mh:MH}(e:mh[a]?=some (.lst ds)):srcOf (.ref a) mh=some (.lref a):=by
 show (match mh[a]? with | some (.lst _)=>some (Src.lref a) | _=>none)=_;rw [e]
theorem La {a:Nat}{ds:List D}{mh:MH}(e:mh[a]?=some (.lst ds)):(Src.lref a).ok mh=true/\(Src.lref a).items mh=ds:=by
 refine ⟨?_,?_⟩
 ·show (match mh[a]? with | some (.lst _)=>true | _=>false)=true;rw [e]
 ·show (match mh[a]? with | some (.lst o)=>o | _=>[])=_;rw [e]
end DL
namespace Lw
open PySem L2 DL
noncomputable def top (i:Nat):Stmt:=PySem.Challenge.pw_letterall_k49_patterns_told.main.body.getD i (.Pass ⟨0,0,0,0⟩)
noncomputable def f1:FnI:=Bl (top 1)
noncomputable def f2:FnI:=Bl (top 2)
noncomputable def f3:FnI:=Bl (top 3)
noncomputable def f4:FnI:=Bl (top 4)
noncomputable def f6:FnI:=Bl (top 6)
noncomputable def f7:FnI:=Bl (top 7)
noncomputable def f8:FnI:=Bl (top 8)
noncomputable def f17:FnI:=Bl (top 17)
noncomputable def f23:FnI:=Bl (top 23)
noncomputable def f28:FnI:=Bl (top 28)
noncomputable def f29:FnI:=Bl (top 29)
noncomputable def f30:FnI:=Bl (top 30)
noncomputable def f31:FnI:=Bl (top 31)
noncomputable def f32:FnI:=Bl (top 32)
noncomputable def f33:FnI:=Bl (top 33)
noncomputable def f34:FnI:=Bl (top 34)
noncomputable def f36:FnI:=Bl (top 36)
noncomputable def f38:FnI:=Bl (top 38)
noncomputable def f39:FnI:=Bl (top 39)
noncomputable def f40:FnI:=Bl (top 40)
noncomputable def f41:FnI:=Bl (top 41)
noncomputable def f43:FnI:=Bl (top 43)
noncomputable def f44:FnI:=Bl (top 44)
noncomputable def f45:FnI:=Bl (top 45)
noncomputable def f46:FnI:=Bl (top 46)
noncomputable def f47:FnI:=Bl (top 47)
noncomputable def f48:FnI:=Bl (top 48)
noncomputable def f49:FnI:=Bl (top 49)
noncomputable def f50:FnI:=Bl (top 50)
noncomputable def f51:FnI:=Bl (top 51)
noncomputable def f52:FnI:=Bl (top 52)
noncomputable def f53:FnI:=Bl (top 53)
noncomputable def f54:FnI:=Bl (top 54)
noncomputable def f55:FnI:=Bl (top 55)
noncomputable def f58:FnI:=Bl (top 58)
noncomputable def f59:FnI:=Bl (top 59)
noncomputable def f60:FnI:=Bl (top 60)
noncomputable def f61:FnI:=Bl (top 61)
noncomputable def f62:FnI:=Bl (top 62)
noncomputable def f63:FnI:=Bl (top 63)
noncomputable def f64:FnI:=Bl (top 64)
noncomputable def f65:FnI:=Bl (top 65)
noncomputable def f66:FnI:=Bl (top 66)
noncomputable def f67:FnI:=Bl (top 67)
noncomputable def Uz:List (Str×Stmt):=("is_whole",top 1)::("is_between",top 2)::("is_tuple_of",top 3)::("are_between",top 4)::("is_bound",top 6)::("is_void",top 7)::("is_pair",top 8)::("replaced",top 17)::("length_of",top 23)::("has_world_form",top 28)::("is_left",top 29)::("are_parts",top 30)::("is_part",top 31)::("are_rows",top 32)::("is_row",top 33)::("is_letter",top 34)::("is_pattern",top 36)::("pattern_of",top 37)::("zipped",top 38)::("zipped_part",top 39)::("zipped_rows",top 40)::("zipped_letters",top 41)::("_law_cell_at",top 43)::("_law_mixed",top 44)::("_law_draws",top 45)::("_law_number_step",top 46)::("_law_name_step",top 47)::("_law_step",top 48)::("_law_lead",top 49)::("_law_program",top 50)::("_law_number",top 51)::("_law_letters",top 52)::("_law_world",top 53)::("_law_pair",top 54)::("_law_pattern",top 55)::("_law_whole",top 58)::("_law_is_pair",top 59)::("_law_all",top 60)::("_law_is_part",top 61)::("_law_is_letter",top 62)::("_law_is_row",top 63)::("_law_is_pattern",top 64)::("_law_odd",top 65)::("_law_spoiled",top 66)::("law",top 67)::[]
noncomputable def tb (x:Str):Option FnI:=(Uz.lookup x).map Bl
theorem Ik:Ur Uz:=⟨Ay ⟨rfl,rfl,rfl,by decide +kernel,by decide +kernel,by decide +kernel,by decide +kernel⟩ λ_ _ _ _ _ _=>ln1 λ_=>rfl,Ay ⟨rfl,rfl,rfl,by decide +kernel,by decide +kernel,by decide +kernel,by decide +kernel⟩ λ_ _ _ _ _ _=>ln3 λ_ _ _=>rfl,Ay ⟨rfl,rfl,rfl,by decide +kernel,by decide +kernel,by decide +kernel,by decide +kernel⟩ λ_ _ _ _ _ _=>ln2 λ_ _=>rfl,Ay ⟨rfl,rfl,rfl,by decide +kernel,by decide +kernel,by decide +kernel,by decide +kernel⟩ λ_ _ _ _ _ _=>ln4 λ_ _ _ _=>rfl,Ay ⟨rfl,rfl,rfl,by decide +kernel,by decide +kernel,by decide +kernel,by decide +kernel⟩ λ_ _ _ _ _ _=>ln1 λ_=>rfl,Ay ⟨rfl,rfl,rfl,by decide +kernel,by decide +kernel,by decide +kernel,by decide +kernel⟩ λ_ _ _ _ _ _=>ln1 λ_=>rfl,Ay ⟨rfl,rfl,rfl,by decide +kernel,by decide +kernel,by decide +kernel,by decide +kernel⟩ λ_ _ _ _ _ _=>ln1 λ_=>rfl,Ay ⟨rfl,rfl,rfl,by decide +kernel,by decide +kernel,by decide +kernel,by decide +kernel⟩ λ_ _ _ _ _ _=>ln3 λ_ _ _=>rfl,Ay ⟨rfl,rfl,rfl,by decide +kernel,by decide +kernel,by decide +kernel,by decide +kernel⟩ λ_ _ _ _ _ _=>ln2 λ_ _=>rfl,Ay ⟨rfl,rfl,rfl,by decide +kernel,by decide +kernel,by decide +kernel,by decide +kernel⟩ λ_ _ _ _ _ _=>ln3 λ_ _ _=>rfl,Ay ⟨rfl,rfl,rfl,by decide +kernel,by decide +kernel,by decide +kernel,by decide +kernel⟩ λ_ _ _ _ _ _=>ln2 λ_ _=>rfl,Ay ⟨rfl,rfl,rfl,by decide +kernel,by decide +kernel,by decide +kernel,by decide +kernel⟩ λ_ _ _ _ _ _=>ln3 λ_ _ _=>rfl,Ay ⟨rfl,rfl,rfl,by decide +kernel,by decide +kernel,by decide +kernel,by decide +kernel⟩ λ_ _ _ _ _ _=>ln4 λ_ _ _ _=>rfl,Ay ⟨rfl,rfl,rfl,by decide +kernel,by decide +kernel,by decide +kernel,by decide +kernel⟩ λ_ _ _ _ _ _=>ln3 λ_ _ _=>rfl,Ay ⟨rfl,rfl,rfl,by decide +kernel,by decide +kernel,by decide +kernel,by decide +kernel⟩ λ_ _ _ _ _ _=>ln3 λ_ _ _=>rfl,Ay ⟨rfl,rfl,rfl,by decide +kernel,by decide +kernel,by decide +kernel,by decide +kernel⟩ λ_ _ _ _ _ _=>ln3 λ_ _ _=>rfl,Ay ⟨rfl,rfl,rfl,by decide +kernel,by decide +kernel,by decide +kernel,by decide +kernel⟩ λ_ _ _ _ _ _=>ln2 λ_ _=>rfl,Ay ⟨rfl,rfl,rfl,by decide +kernel,by decide +kernel,by decide +kernel,by decide +kernel⟩ λ_ _ _ _ _ _=>ln1 λ_=>rfl,Ay ⟨rfl,rfl,rfl,by decide +kernel,by decide +kernel,by decide +kernel,by decide +kernel⟩ λ_ _ _ _ _ _=>ln3 λ_ _ _=>rfl,Ay ⟨rfl,rfl,rfl,by decide +kernel,by decide +kernel,by decide +kernel,by decide +kernel⟩ λ_ _ _ _ _ _=>ln3 λ_ _ _=>rfl,Ay ⟨rfl,rfl,rfl,by decide +kernel,by decide +kernel,by decide +kernel,by decide +kernel⟩ λ_ _ _ _ _ _=>ln3 λ_ _ _=>rfl,Ay ⟨rfl,rfl,rfl,by decide +kernel,by decide +kernel,by decide +kernel,by decide +kernel⟩ λ_ _ _ _ _ _=>ln3 λ_ _ _=>rfl,Ay ⟨rfl,rfl,rfl,by decide +kernel,by decide +kernel,by decide +kernel,by decide +kernel⟩ λ_ _ _ _ _ _=>ln2 λ_ _=>rfl,Ay ⟨rfl,rfl,rfl,by decide +kernel,by decide +kernel,by decide +kernel,by decide +kernel⟩ λ_ _ _ _ _ _=>ln2 λ_ _=>rfl,Ay ⟨rfl,rfl,rfl,by decide +kernel,by decide +kernel,by decide +kernel,by decide +kernel⟩ λ_ _ _ _ _ _=>ln3 λ_ _ _=>rfl,Ay ⟨rfl,rfl,rfl,by decide +kernel,by decide +kernel,by decide +kernel,by decide +kernel⟩ λ_ _ _ _ _ _=>ln3 λ_ _ _=>rfl,Ay ⟨rfl,rfl,rfl,by decide +kernel,by decide +kernel,by decide +kernel,by decide +kernel⟩ λ_ _ _ _ _ _=>ln4 λ_ _ _ _=>rfl,Ay ⟨rfl,rfl,rfl,by decide +kernel,by decide +kernel,by decide +kernel,by decide +kernel⟩ λ_ _ _ _ _ _=>ln3 λ_ _ _=>rfl,Ay ⟨rfl,rfl,rfl,by decide +kernel,by decide +kernel,by decide +kernel,by decide +kernel⟩ λ_ _ _ _ _ _=>ln3 λ_ _ _=>rfl,Ay ⟨rfl,rfl,rfl,by decide +kernel,by decide +kernel,by decide +kernel,by decide +kernel⟩ λ_ _ _ _ _ _=>ln4 λ_ _ _ _=>rfl,Ay ⟨rfl,rfl,rfl,by decide +kernel,by decide +kernel,by decide +kernel,by decide +kernel⟩ λ_ _ _ _ _ _=>ln1 λ_=>rfl,Ay ⟨rfl,rfl,rfl,by decide +kernel,by decide +kernel,by decide +kernel,by decide +kernel⟩ λ_ _ _ _ _ _=>ln3 λ_ _ _=>rfl,Ay ⟨rfl,rfl,rfl,by decide +kernel,by decide +kernel,by decide +kernel,by decide +kernel⟩ λ_ _ _ _ _ _=>ln2 λ_ _=>rfl,Ay ⟨rfl,rfl,rfl,by decide +kernel,by decide +kernel,by decide +kernel,by decide +kernel⟩ λ_ _ _ _ _ _=>ln2 λ_ _=>rfl,Ay ⟨rfl,rfl,rfl,by decide +kernel,by decide +kernel,by decide +kernel,by decide +kernel⟩ λ_ _ _ _ _ _=>ln2 λ_ _=>rfl,Ay ⟨rfl,rfl,rfl,by decide +kernel,by decide +kernel,by decide +kernel,by decide +kernel⟩ λ_ _ _ _ _ _=>ln3 λ_ _ _=>rfl,Ay ⟨rfl,rfl,rfl,by decide +kernel,by decide +kernel,by decide +kernel,by decide +kernel⟩ λ_ _ _ _ _ _=>ln1 λ_=>rfl,Ay ⟨rfl,rfl,rfl,by decide +kernel,by decide +kernel,by decide +kernel,by decide +kernel⟩ λ_ _ _ _ _ _=>ln3 λ_ _ _=>rfl,Ay ⟨rfl,rfl,rfl,by decide +kernel,by decide +kernel,by decide +kernel,by decide +kernel⟩ λ_ _ _ _ _ _=>ln3 λ_ _ _=>rfl,Ay ⟨rfl,rfl,rfl,by decide +kernel,by decide +kernel,by decide +kernel,by decide +kernel⟩ λ_ _ _ _ _ _=>ln2 λ_ _=>rfl,Ay ⟨rfl,rfl,rfl,by decide +kernel,by decide +kernel,by decide +kernel,by decide +kernel⟩ λ_ _ _ _ _ _=>ln3 λ_ _ _=>rfl,Ay ⟨rfl,rfl,rfl,by decide +kernel,by decide +kernel,by decide +kernel,by decide +kernel⟩ λ_ _ _ _ _ _=>ln2 λ_ _=>rfl,Ay ⟨rfl,rfl,rfl,by decide +kernel,by decide +kernel,by decide +kernel,by decide +kernel⟩ λ_ _ _ _ _ _=>ln2 λ_ _=>rfl,Ay ⟨rfl,rfl,rfl,by decide +kernel,by decide +kernel,by decide +kernel,by decide +kernel⟩ λ_ _ _ _ _ _=>ln3 λ_ _ _=>rfl,Ay ⟨rfl,rfl,rfl,by decide +kernel,by decide +kernel,by decide +kernel,by decide +kernel⟩ λ_ _ _ _ _ _=>ln1 λ_=>rfl,trivial⟩
noncomputable def Ym:List (Str×D):=[("PLACE",(.int (0))),("NUMBERS",(.int (1))),("NAMES",(.int (2))),("SETS",(.int (3))),("BELL",(.int (4))),("NOBODY",(.int (-1))),("FALLEN",(.int (-1))),("ROOM",(.int (0))),("LEFT",(.int (1))),("ROLES",(.int (2))),("HANDS",(.int (3))),("PARTS",(.int (0))),("ROWS",(.int (1))),("LEFT_STILL",(.int (2)))]
noncomputable def con (x:Str):Option D:=if x=="_law_is_pair" then some (.fn "_law_is_pair") else if x=="is_pair" then some (.fn "is_pair") else Ym.lookup x
noncomputable def dic (_:Str):Option (List (Str×D)):=none
noncomputable def fld (_ _:Str):Bool:=false
noncomputable def tbm (_ _:Str):Option FnI:=none
noncomputable def mkr (_:Str):Option (List (Str×InF)):=none
noncomputable def lm0:LmI:={ pl:=1,fr:=["_law_hands"],pre:=(Av (top 61)).take 3,post:=(Av (top 61)).drop 3 }
noncomputable def lm1:LmI:={ pl:=2,fr:=["_law_hands"],pre:=(Av (top 63)).take 1,post:=(Av (top 63)).drop 1 }
noncomputable def lm2:LmI:={ pl:=3,fr:=["_law_hands", "_law_room"],pre:=(Av (top 64)).take 4,post:=(Av (top 64)).drop 4 }
noncomputable def sl0:MH:=[.plc,.plq "_law_is_part",.plq "_law_is_row",.plw "_law_is_pattern" none]
noncomputable def Tt:Tb:={ tb:=tb,con:=con,dic:=dic,fld:=fld,tbm:=tbm,mkr:=mkr,lam:=λx=>if x=="pattern_of" then some "zipped" else none,lmd:=λx=>if x=="_law_is_part" then some lm0 else if x=="_law_is_row" then some lm1 else if x=="_law_is_pattern" then some lm2 else none }
theorem uK:f1.ps.length=1/\f1.N.length=1:=by decide +kernel
theorem uL:f2.ps.length=3/\f2.N.length=3:=by decide +kernel
theorem uM:f3.ps.length=2/\f3.N.length=2:=by decide +kernel
theorem uN:f4.ps.length=4/\f4.N.length=4:=by decide +kernel
theorem uO:f6.ps.length=1/\f6.N.length=1:=by decide +kernel
theorem uP:f8.ps.length=1/\f8.N.length=1:=by decide +kernel
theorem jG:f23.ps.length=2/\f23.N.length=2:=by decide +kernel
theorem jH:f28.ps.length=3/\f28.N.length=3:=by decide +kernel
theorem jJ:f29.ps.length=2/\f29.N.length=2:=by decide +kernel
theorem jK:f30.ps.length=3/\f30.N.length=3:=by decide +kernel
theorem jL:f31.ps.length=4/\f31.N.length=5:=by decide +kernel
theorem jM:f32.ps.length=3/\f32.N.length=5:=by decide +kernel
theorem jN:f33.ps.length=3/\f33.N.length=3:=by decide +kernel
theorem jO:f34.ps.length=3/\f34.N.length=3:=by decide +kernel
theorem jP:f36.ps.length=2/\f36.N.length=2:=by decide +kernel
theorem jQ:f38.ps.length=3/\f38.N.length=5:=by decide +kernel
theorem jR:f39.ps.length=3/\f39.N.length=4:=by decide +kernel
theorem jT:f40.ps.length=3/\f40.N.length=3:=by decide +kernel
theorem jU:f41.ps.length=3/\f41.N.length=3:=by decide +kernel
theorem jV:f43.ps.length=2/\f43.N.length=2:=by decide +kernel
theorem jW:f44.ps.length=2/\f44.N.length=3:=by decide +kernel
theorem jX:f45.ps.length=3/\f45.N.length=7:=by decide +kernel
theorem jY:f46.ps.length=3/\f46.N.length=8:=by decide +kernel
theorem jZ:f47.ps.length=4/\f47.N.length=9:=by decide +kernel
theorem kE:f48.ps.length=3/\f48.N.length=8:=by decide +kernel
theorem kI:f49.ps.length=3/\f49.N.length=5:=by decide +kernel
theorem kJ:f50.ps.length=4/\f50.N.length=14:=by decide +kernel
theorem kO:f51.ps.length=1/\f51.N.length=1:=by decide +kernel
theorem kW:f52.ps.length=3/\f52.N.length=5:=by decide +kernel
theorem kY:f53.ps.length=2/\f53.N.length=18:=by decide +kernel
theorem kZ:f54.ps.length=2/\f54.N.length=4:=by decide +kernel
theorem lB:f55.ps.length=2/\f55.N.length=15:=by decide +kernel
theorem lC:f58.ps.length=3/\f58.N.length=3:=by decide +kernel
theorem lE:f59.ps.length=1/\f59.N.length=2:=by decide +kernel
theorem lF:f60.ps.length=3/\f60.N.length=3:=by decide +kernel
theorem lG:f61.ps.length=3/\f61.N.length=4:=by decide +kernel
theorem lH:f62.ps.length=2/\f62.N.length=2:=by decide +kernel
theorem lJ:f63.ps.length=3/\f63.N.length=3:=by decide +kernel
theorem lK:f64.ps.length=2/\f64.N.length=8:=by decide +kernel
theorem Ru:f65.ps.length=2/\f65.N.length=3:=by decide +kernel
theorem Rv:f66.ps.length=3/\f66.N.length=5:=by decide +kernel
theorem lM:f67.ps.length=1/\f67.N.length=9:=by decide +kernel
theorem lamT:Nu (top 37) "world" "zipped":=⟨_,_,_,_,_,_,_,_,_,rfl,⟨λ_=>rfl,λ_=>rfl,λ_ _ _ _ _=>⟨_,_,_, "low", "high",_,_,_,_,_,_,_,_,rfl,⟨rfl,rfl,rfl,by decide +kernel,by decide +kernel,by decide +kernel,by decide +kernel⟩,by decide,by decide,by decide,by decide,λ_ _=>rfl⟩⟩,by decide +kernel,by decide,by decide,by decide⟩
theorem Afj {w:World}{K:W.Frag}{h:Heap}{mg:Str->Option Value}(X:K.In h) (G:h.Ns mainGlobals mg)(rf:Ht K Uz)(rb:Ke K Gz)(rc:Kd K Ym):TbOk w K mg Tt:=by
 refine ⟨λx I hx=>?_,λx d hx=>?_,λb hb=>?_,λx kvs hx=>?_,λc f hx=>?_,λc m I hx=>?_,λc f hx=>?_,λx y hx=>?_,λc f hx=>?_,λx m hx=>?_⟩
 ·exact Yd X G rf Ik hx
 ·show Nv K mg x d;change con x=some d at hx;unfold con at hx;refine Yc (P:=Nv K mg) hx (Wn X G rf (st:=top 59) rfl) λhx=>?_
  refine Yc (P:=Nv K mg) hx (Wn X G rf (st:=top 8) rfl) λhx=>?_
  exact Us X G rc hx
 ·exact Ut X G rb b hb
 ·cases hx
 ·cases hx
 ·cases hx
 ·cases hx
 ·change (if x=="pattern_of" then some ("zipped":Str) else none)=some y at hx;split at hx
  ·rename_i e;rw [cj e];cases hx
   exact ⟨rfl,λI hI=>Yj X G (st:=top 37) (a := "world") rfl lamT rfl rf Ik rfl hI⟩
  ·cases hx
 ·cases hx
 ·change (if x=="_law_is_part" then some lm0 else if x=="_law_is_row" then some lm1 else if x=="_law_is_pattern" then some lm2 else none)=some m at hx;split at hx
  ·rename_i e;rw [cj e];cases hx;exact λI hI=>Mq X G (qt _ _).symm (by decide +kernel) rfl rf Ik rfl hI
  ·skip
   split at hx
   ·rename_i e;rw [cj e];cases hx;exact λI hI=>Mq X G (qt _ _).symm (by decide +kernel) rfl rf Ik rfl hI
   ·skip
    split at hx
    ·rename_i e;rw [cj e];cases hx;exact λI hI=>Mq X G (qt _ _).symm (by decide +kernel) rfl rf Ik rfl hI
    ·cases hx
theorem tbN {w:World}{K:W.Frag}{h:Heap}{mg:Str->Option Value}(X:K.In h) (G:h.Ns mainGlobals mg) {pl0 lf0 lk0:Addr}{lo0:Value}{ld0 le0':Option Addr}{fd0:FuncData}{ls0 lt0:Array (Option Value)}{lw0:Array Value}{pl1 lf1 lk1:Addr}{lo1:Value}{ld1 le1':Option Addr}{fd1:FuncData}{ls1 lt1:Array (Option Value)}{lw1:Array Value}{pl2 lf2 lk2:Addr}{lo2:Value}{ld2 le2':Option Addr}{fd2:FuncData}{ls2 lt2:Array (Option Value)}{lw2:Array Value}{pl3 lf3 lk3:Addr}{lo3:Value}{ld3 le3':Option Addr}{fd3:FuncData}{ls3 lt3:Array (Option Value)}{lw3:Array Value}{bm:Addr}{bsl:Array (Option Value)}
  (la0:W.nsIn K mainGlobals "pattern_of"=some (some (.ref lf0)))
  (ll0:K.lookup lf0=some ⟨lo0,ld0,.func fd0,ls0⟩)
  (lx0:fd0.code=.ref lk0)
  (lc0:K.lookup lk0=some ⟨.type "code",le0',.fields lw0,lt0⟩)
  (lv0:lw0.getD 11 .none=.ref pl0)
  (lp0:K.lookup pl0=some (W.tabObj #[]))
  (lh0:W.codeHdIn K lk0 pl0=true)
  (la1:W.nsIn K mainGlobals "_law_is_part"=some (some (.ref lf1)))
  (ll1:K.lookup lf1=some ⟨lo1,ld1,.func fd1,ls1⟩)
  (lx1:fd1.code=.ref lk1)
  (lc1:K.lookup lk1=some ⟨.type "code",le1',.fields lw1,lt1⟩)
  (lv1:lw1.getD 11 .none=.ref pl1)
  (lp1:K.lookup pl1=some (W.tabObj #[]))
  (lh1:W.codeHdIn K lk1 pl1=true)
  (la2:W.nsIn K mainGlobals "_law_is_row"=some (some (.ref lf2)))
  (ll2:K.lookup lf2=some ⟨lo2,ld2,.func fd2,ls2⟩)
  (lx2:fd2.code=.ref lk2)
  (lc2:K.lookup lk2=some ⟨.type "code",le2',.fields lw2,lt2⟩)
  (lv2:lw2.getD 11 .none=.ref pl2)
  (lp2:K.lookup pl2=some (W.tabObj #[]))
  (lh2:W.codeHdIn K lk2 pl2=true)
  (la3:W.nsIn K mainGlobals "_law_is_pattern"=some (some (.ref lf3)))
  (ll3:K.lookup lf3=some ⟨lo3,ld3,.func fd3,ls3⟩)
  (lx3:fd3.code=.ref lk3)
  (lc3:K.lookup lk3=some ⟨.type "code",le3',.fields lw3,lt3⟩)
  (lv3:lw3.getD 11 .none=.ref pl3)
  (lp3:K.lookup pl3=some (W.tabObj #[]))
  (lh3:W.codeHdIn K lk3 pl3=true)
  (lb:W.nsIn K mainGlobals "__builtins__"=some (some (.ref bm)))
  (lm:K.lookup bm=some ⟨.type "module",some builtinsNs,.plain,bsl⟩)
  (l6:bm≠builtinsNs)
  (l7:bm≠mainGlobals)
  (nd:[pl0,pl1,pl2,pl3].Nodup)
  (rf:Ht K Uz)
  (rb:Ke K Gz)
  (rc:Kd K Ym):∃ pls,Wo K pls/\Slots K sl0 pls/\TbOk w (Jq pls K) mg Tt:=by
 have t:Wo K [pl0,pl1,pl2,pl3]:=⟨nd,λp hp=>by
  simp only [dg,List.not_mem_nil,or_false] at hp;rcases hp with rfl|rfl|rfl|rfl
  ·exact lp0
  ·exact lp1
  ·exact lp2
  ·exact lp3⟩
 exact ⟨[pl0,pl1,pl2,pl3],t,⟨⟨lf0,_,fd0,lk0,bm,_,la0,ll0,rfl,lx0,lh0,lb,lm,rfl,rfl,rfl,l6,l7⟩,⟨lf1,_,fd1,lk1,bm,_,la1,ll1,rfl,lx1,lh1,lb,lm,rfl,rfl,rfl,l6,l7⟩,⟨lf2,_,fd2,lk2,bm,_,la2,ll2,rfl,lx2,lh2,lb,lm,rfl,rfl,rfl,l6,l7⟩,⟨rfl,lf3,_,fd3,lk3,bm,_,la3,ll3,rfl,lx3,lh3,lb,lm,rfl,rfl,rfl,l6,l7⟩,trivial⟩,Afj (Dc (Q:=λK=>K.In h) (λ_ X=>iB X) t X) G
  (Dc (Q:=λK=>Ht K Uz) (λe q=>Ye e q) t rf)
  (Dc (Q:=λK=>Ke K Gz) (λe q=>Yg e q) t rb)
  (Dc (Q:=λK=>Kd K Ym) (λe q=>Yi e q) t rc)⟩
noncomputable def Gk (k:Nat):Gb:=GkN Tt k
noncomputable abbrev Bq (I:FnI) (k:Nat):SM:=iSs (Gk (k+1)) fuel {N:=I.N,scope:=I.scope,own:=λ_=>true} I.body
noncomputable def b1 (k:Nat):SM :=
 (Ab (retS (Ca (Gd "int" (vr 0)) (rB (Gd "bool" (vr 0)))))
 Zn)
theorem Adw (k:Nat):Bq f1 k=b1 k:=by kernel_rfl
noncomputable def b2 (k:Nat):SM :=
 (Ab (retS (Ca (Ae (Af (Gk k) fuel f1) (Aa (vr 0) (Zr []))) (Ie leD leD (vr 1) (vr 0) (vr 2))))
 Zn)
theorem Adx (k:Nat):Bq f2 k=b2 k:=by kernel_rfl
noncomputable def b3 (k:Nat):SM :=
 (Ab (retS (Ca (Gd "tuple" (vr 0)) (dop eqD (Ae Cz (Aa (vr 0) (Zr []))) (vr 1))))
 Zn)
theorem Ady (k:Nat):Bq f3 k=b3 k:=by kernel_rfl
noncomputable def b4 (k:Nat):SM :=
 (Ab (retS (Ca (Ae (Af (Gk k) fuel f3) (Aa (vr 0) (Aa (vr 1) (Zr [])))) (Ae Tn (Aa (Bj (Cq (vr 0)) [none,none,some 3,some 2] (Aj 1) (Zr true) (Ae (Af (Gk k) fuel f2) (Aa (vr 1) (Aa (vr 3) (Aa (vr 2) (Zr [])))))) (Zr [])))))
 Zn)
theorem Adz (k:Nat):Bq f4 k=b4 k:=by kernel_rfl
noncomputable def b6 (k:Nat):SM :=
 (Ab (retS (S8 (dop (isD false) (vr 0) (Zr .non)) (Ae (Af (Gk k) fuel f1) (Aa (vr 0) (Zr [])))))
 Zn)
theorem Ad0 (k:Nat):Bq f6 k=b6 k:=by kernel_rfl
noncomputable def b8 (k:Nat):SM :=
 (Ab (retS (Ca (Ae (Af (Gk k) fuel f3) (Aa (vr 0) (Aa (Zr (.int 2)) (Zr [])))) (Ca (Ae (Af (Gk k) fuel f6) (Aa (dop ixD (vr 0) (Zr (.int 0))) (Zr []))) (Ca (Ae (Af (Gk k) fuel f6) (Aa (dop ixD (vr 0) (Zr (.int 1))) (Zr []))) (rB (Ae (Af (Gk k) fuel f7) (Aa (vr 0) (Zr []))))))))
 Zn)
theorem Ad1 (k:Nat):Bq f8 k=b8 k:=by kernel_rfl
noncomputable def b23 (k:Nat):SM :=
 (Ab (retS (Ae Cz (Aa (dop ixD (dop ixD (vr 0) (Zr (.int (2)))) (vr 1)) (Zr []))))
 Zn)
theorem Aag (k:Nat):Bq f23 k=b23 k:=by kernel_rfl
noncomputable def b28 (k:Nat):SM :=
 (Ab (ifS (Ce (Dh (Ae (Af (Gk k) fuel f3) (Aa (vr 1) (Aa (Zr (.int 3)) (Zr []))))))
 (Ab (retS (Zr (.bl false)))
  Zn)
 Zn)
 (Ab (ifS (Fz (Ce (Dh (Ae (Af (Gk k) fuel f30) (Aa (vr 0) (Aa (dop ixD (vr 1) (Zr (.int (0)))) (Aa (vr 2) (Zr []))))))) (Ce (Dh (Ae (Af (Gk k) fuel f32) (Aa (vr 0) (Aa (dop ixD (vr 1) (Zr (.int (1)))) (Aa (vr 2) (Zr []))))))))
 (Ab (retS (Zr (.bl false)))
  Zn)
 Zn)
 (Ab (retS (Ae (Af (Gk k) fuel f29) (Aa (dop ixD (vr 1) (Zr (.int (2)))) (Aa (dop ixD (vr 0) (Zr (.int (1)))) (Zr [])))))
 Zn)))
theorem Aah (k:Nat):Bq f28 k=b28 k:=by kernel_rfl
noncomputable def b29 (k:Nat):SM :=
 (Ab (retS (Ca (Ae (Af (Gk k) fuel f3) (Aa (vr 0) (Aa (Zr (.int 2)) (Zr [])))) (Ca (Ae (Af (Gk k) fuel f2) (Aa (dop ixD (vr 0) (Zr (.int 0))) (Aa (Zr (.int 0)) (Aa (dop ixD (vr 1) (Zr (.int 0))) (Zr []))))) (Ae (Af (Gk k) fuel f2) (Aa (dop ixD (vr 0) (Zr (.int 1))) (Aa (Zr (.int 0)) (Aa (dop ixD (vr 1) (Zr (.int 1))) (Zr []))))))))
 Zn)
theorem Aai (k:Nat):Bq f29 k=b29 k:=by kernel_rfl
noncomputable def b30 (k:Nat):SM :=
 (Ab (ifS (Ce (Dh (Ae (Af (Gk k) fuel f3) (Aa (vr 1) (Aa (Ae Cz (Aa (dop ixD (vr 0) (Zr (.int (3)))) (Zr []))) (Zr []))))))
 (Ab (retS (Zr (.bl false)))
  Zn)
 Zn)
 (Ab (retS (Ae Tn (Aa (Bj (K1 (Aa (dop ixD (vr 0) (Zr (.int (3)))) (Aa (vr 1) (Zr [])))) [none,none,none,some 2,some 0] (Fe [1,2]) (Zr true) (Ae (Af (Gk k) fuel f31) (Aa (vr 4) (Aa (vr 1) (Aa (vr 2) (Aa (vr 3) (Zr []))))))) (Zr []))))
 Zn))
theorem Aaj (k:Nat):Bq f30 k=b30 k:=by kernel_rfl
noncomputable def b31 (k:Nat):SM :=
 (Ab (Ao (Ae Cz (Aa (dop ixD (vr 0) (Zr (.int (3)))) (Zr []))) (Aj 4))
 (Ab (ifS (Fz (Ce (Dh (Ae (Af (Gk k) fuel f3) (Aa (vr 2) (Aa (Zr (.int 5)) (Zr [])))))) (Ce (Dh (Ae (Af (Gk k) fuel f2) (Aa (dop ixD (vr 2) (Zr (.int (0)))) (Aa (Zr (.int (-1))) (Aa (Ae (Af (Gk k) fuel f23) (Aa (vr 0) (Aa (vr 1) (Zr [])))) (Zr []))))))))
 (Ab (retS (Zr (.bl false)))
  Zn)
 Zn)
 (Ab (ifS (Fz (Ce (Dh (Ae (Af (Gk k) fuel f3) (Aa (dop ixD (vr 2) (Zr (.int (1)))) (Aa (Zr (.int 3)) (Zr [])))))) (Ce (Dh (Ae Tn (Aa (Bj (Cq (dop ixD (vr 2) (Zr (.int (1))))) [none,none,some 3] (Aj 1) (Zr true) (Ff (Gk (k+1)).cal (Gk (k+1)).clo 2 (Aa (vr 1) (Zr [])))) (Zr []))))))
 (Ab (retS (Zr (.bl false)))
  Zn)
 Zn)
 (Ab (ifS (Ce (Dh (Ae (Af (Gk k) fuel f4) (Aa (dop ixD (vr 2) (Zr (.int (2)))) (Aa (Zr (.int 3)) (Aa (Zr (.int (-1))) (Aa (dop Gq (vr 4) (Zr (.int 1))) (Zr []))))))))
 (Ab (retS (Zr (.bl false)))
  Zn)
 Zn)
 (Ab (retS (Ca (Ae (Af (Gk k) fuel f4) (Aa (dop ixD (vr 2) (Zr (.int (3)))) (Aa (Zr (.int 2)) (Aa (Zr (.int 0)) (Aa (dop Gq (dop Wm (Zr (.int 1)) (vr 4)) (Zr (.int 1))) (Zr [])))))) (Gd "bool" (dop ixD (vr 2) (Zr (.int (4)))))))
 Zn)))))
theorem Aak (k:Nat):Bq f31 k=b31 k:=by kernel_rfl
noncomputable def b32 (k:Nat):SM :=
 (Ab (Ao (Ae Cz (Aa (dop ixD (vr 0) (Zr (.int (3)))) (Zr []))) (Aj 3))
 (Ab (ifS (Ce (Dh (Ae (Af (Gk k) fuel f3) (Aa (vr 1) (Aa (vr 3) (Zr []))))))
 (Ab (retS (Zr (.bl false)))
  Zn)
 Zn)
 (Ab (Ga (Cq (vr 1)) (Aj 4)
 (Ab (ifS (Fz (Ce (Dh (Ae (Af (Gk k) fuel f3) (Aa (vr 4) (Aa (vr 3) (Zr [])))))) (Ce (Dh (Ae Tn (Aa (Bj (Cq (vr 4)) [none,none,some 2,some 0] (Aj 1) (Zr true) (Ae (Af (Gk k) fuel f33) (Aa (vr 3) (Aa (vr 1) (Aa (vr 2) (Zr [])))))) (Zr []))))))
  (Ab (retS (Zr (.bl false)))
   Zn)
  Zn)
  Zn))
 (Ab (retS (Zr (.bl true)))
 Zn))))
theorem Aal (k:Nat):Bq f32 k=b32 k:=by kernel_rfl
noncomputable def b33 (k:Nat):SM :=
 (Ab (ifS (Fz (Ce (Dh (Gd "tuple" (vr 1)))) (Ar (dop gtD (Ae Cz (Aa (vr 1) (Zr []))) (dop ixD (vr 0) (Zr (.int (0)))))))
 (Ab (retS (Zr (.bl false)))
  Zn)
 Zn)
 (Ab (retS (Ae Tn (Aa (Bj (Cq (vr 1)) [none,none,some 2,some 0] (Aj 1) (Zr true) (Ae (Af (Gk k) fuel f34) (Aa (vr 1) (Aa (Ae Cz (Aa (dop ixD (vr 3) (Zr (.int (3)))) (Zr []))) (Aa (vr 2) (Zr [])))))) (Zr []))))
 Zn))
theorem Aam (k:Nat):Bq f33 k=b33 k:=by kernel_rfl
noncomputable def b34 (k:Nat):SM :=
 (Ab (ifS (Ce (Dh (Ae (Af (Gk k) fuel f3) (Aa (vr 0) (Aa (Zr (.int 3)) (Zr []))))))
 (Ab (retS (Zr (.bl false)))
  Zn)
 Zn)
 (Ab (retS (Ca (Ae (Af (Gk k) fuel f2) (Aa (dop ixD (vr 0) (Zr (.int 0))) (Aa (Zr (.int 1)) (Aa (Zr (.int 12)) (Zr []))))) (Ca (Ff (Gk (k+1)).cal (Gk (k+1)).clo 2 (Aa (dop ixD (vr 0) (Zr (.int 1))) (Zr []))) (Ae (Af (Gk k) fuel f2) (Aa (dop ixD (vr 0) (Zr (.int 2))) (Aa (Zr (.int (-1))) (Aa (dop Gq (vr 1) (Zr (.int 1))) (Zr []))))))))
 Zn))
theorem Aan (k:Nat):Bq f34 k=b34 k:=by kernel_rfl
noncomputable def b36 (k:Nat):SM :=
 (Ab (retS (Ae (Af (Gk k) fuel f28) (Aa (vr 0) (Aa (vr 1) (Aa (Zr (.fn "is_pair")) (Zr []))))))
 Zn)
theorem Aao (k:Nat):Bq f36 k=b36 k:=by kernel_rfl
noncomputable def b38 (k:Nat):SM :=
 (Ab (Ao (Bj (K1 (Aa (dop ixD (vr 0) (Zr (.int (0)))) (Aa (dop ixD (vr 1) (Zr (.int (0)))) (Zr [])))) [none,none,none,some 2] (Fe [1,2]) (Zr true) (Ae (Af (Gk k) fuel f39) (Aa (vr 1) (Aa (vr 2) (Aa (vr 3) (Zr [])))))) (Aj 3))
 (Ab (Ao (Bj (K1 (Aa (dop ixD (vr 0) (Zr (.int (1)))) (Aa (dop ixD (vr 1) (Zr (.int (1)))) (Zr [])))) [none,none,none,some 2] (Fe [1,2]) (Zr true) (Ae (Af (Gk k) fuel f40) (Aa (vr 1) (Aa (vr 2) (Aa (vr 3) (Zr [])))))) (Aj 4))
 (Ab (retS (Bg (Aa (Ae Bh (Aa (vr 3) (Zr []))) (Aa (Ae Bh (Aa (vr 4) (Zr []))) (Aa (dop ixD (vr 0) (Zr (.int (2)))) (Zr []))))))
 Zn)))
theorem Aap (k:Nat):Bq f38 k=b38 k:=by kernel_rfl
noncomputable def b39 (k:Nat):SM :=
 (Ab (Ao (Bj (K1 (Aa (dop ixD (vr 0) (Zr (.int (1)))) (Aa (dop ixD (vr 1) (Zr (.int (1)))) (Zr [])))) [none,none,none,some 2] (Fe [1,2]) (Zr true) (Ff (Gk (k+1)).cal (Gk (k+1)).clo 3 (Aa (vr 1) (Aa (vr 2) (Zr []))))) (Aj 3))
 (Ab (retS (Ae (Af (Gk k) fuel f17) (Aa (vr 0) (Aa (Zr (.int (1))) (Aa (Ae Bh (Aa (vr 3) (Zr []))) (Zr []))))))
 Zn))
theorem Aaq (k:Nat):Bq f39 k=b39 k:=by kernel_rfl
noncomputable def b40 (k:Nat):SM :=
 (Ab (retS (Ae Bh (Aa (Bj (K1 (Aa (vr 0) (Aa (vr 1) (Zr [])))) [none,none,none,some 2] (Fe [1,2]) (Zr true) (Ae (Af (Gk k) fuel f41) (Aa (vr 1) (Aa (vr 2) (Aa (vr 3) (Zr [])))))) (Zr []))))
 Zn)
theorem Aar (k:Nat):Bq f40 k=b40 k:=by kernel_rfl
noncomputable def b41 (k:Nat):SM :=
 (Ab (retS (Ae Bh (Aa (Bj (K1 (Aa (vr 0) (Aa (vr 1) (Zr [])))) [none,none,none,some 2] (Fe [1,2]) (Zr true) (Ae (Af (Gk k) fuel f17) (Aa (vr 1) (Aa (Zr (.int 1)) (Aa (Ff (Gk (k+1)).cal (Gk (k+1)).clo 3 (Aa (dop ixD (vr 1) (Zr (.int 1))) (Aa (dop ixD (vr 2) (Zr (.int 1))) (Zr [])))) (Zr [])))))) (Zr []))))
 Zn)
theorem Aas (k:Nat):Bq f41 k=b41 k:=by kernel_rfl
noncomputable def b43 (k:Nat):SM :=
 (Ab (ifS (Ar (dop ltD (vr 1) (Ae Cz (Aa (vr 0) (Zr [])))))
 (Ab (retS (dop ixD (vr 0) (vr 1)))
  Zn)
 Zn)
 (Ab (retS (Zr (.int 0)))
 Zn))
theorem Aat (k:Nat):Bq f43 k=b43 k:=by kernel_rfl
noncomputable def b44 (k:Nat):SM :=
 (Ab (Ao (dop Bd (dop Ii (dop Be (dop Be (dop Bd (vr 0) (Zr (.int 2147483647))) (dop Ii (Zr (.int 7919)) (vr 1))) (Zr (.int 1))) (Zr (.int 48271))) (Zr (.int 2147483647))) (Aj 2))
 (Ab (retS (dop Bd (dop Ii (vr 2) (dop Be (dop Bb (vr 2) (Zr (.int 1009))) (Zr (.int 69621)))) (Zr (.int 2147483647))))
 Zn))
theorem Aau (k:Nat):Bq f44 k=b44 k:=by kernel_rfl
noncomputable def b45 (k:Nat):SM :=
 (Ab (Ao (lstM (Zr [])) (Aj 3))
 (Ab (Ao (dop Bb (vr 0) (Zr (.int 2))) (Aj 4))
 (Ab (Ga (Ib Jm (Aa (vr 1) (Zr []))) (Aj 5)
 (Ab (ifS (Gv (Ar (dop eqD (dop Bd (vr 0) (Zr (.int 2))) (Zr (.int 0)))) (Ar (dop gtD (vr 4) (Zr (.int 0)))))
  (Ab (Dp (Bo "list" Bs (vr 3) (Aa (dop Bd (vr 4) (vr 2)) (Zr []))))
   (Ab (Ao (dop Bb (vr 4) (vr 2)) (Aj 4))
   Zn))
  (Ab (Ao (Ae (Af (Gk k) fuel f44) (Aa (vr 0) (Aa (vr 5) (Zr [])))) (Aj 6))
   (Ab (Dp (Bo "list" Bs (vr 3) (Aa (dop Bd (dop Ii (vr 6) (dop Be (dop Bb (vr 6) (Zr (.int 613))) (Zr (.int 40692)))) (Zr (.int 2147483399))) (Zr []))))
   Zn)))
  Zn))
 (Ab (retS (vr 3))
 Zn))))
theorem Aav (k:Nat):Bq f45 k=b45 k:=by kernel_rfl
noncomputable def b46 (k:Nat):SM :=
 (Ab (Ao (dop Bd (dop Bb (vr 1) (Zr (.int 22))) (Zr (.int 3))) (Aj 3))
 (Ab (Ao (dop Bd (dop Bb (vr 1) (Zr (.int 66))) (Zr (.int 3))) (Aj 4))
 (Ab (Ao (dop Bd (dop Bb (vr 1) (Zr (.int 198))) (dop Be (vr 2) (Zr (.int 1)))) (Aj 5))
 (Ab (Ao (dop Gq (dop Bd (dop Bb (vr 1) (Zr (.int 198))) (Zr (.int 9))) (Zr (.int 4))) (Aj 6))
 (Ab (Ao (lstM (Aa (Bg (Aa (Zr (.str "put")) (Aa (vr 3) (Aa (vr 6) (Zr []))))) (Aa (Bg (Aa (Zr (.str "copy")) (Aa (vr 3) (Aa (vr 4) (Zr []))))) (Aa (Bg (Aa (Zr (.str "raise")) (Aa (vr 3) (Aa (vr 6) (Zr []))))) (Aa (Bg (Aa (Zr (.str "sum")) (Aa (vr 3) (Aa (vr 4) (Zr []))))) (Zr [])))))) (Aj 7))
 (Ab (Ao (dop Be (vr 7) (lstM (Aa (Bg (Aa (Zr (.str "choose")) (Aa (vr 3) (Aa (dop Be (Zr (.int 1)) (dop Bd (dop Bb (vr 1) (Zr (.int 198))) (Zr (.int 3)))) (Zr []))))) (Aa (Bg (Aa (Zr (.str "less")) (Aa (vr 3) (Aa (vr 6) (Aa (dop Bd (dop Bb (vr 1) (Zr (.int 1782))) (dop Be (vr 2) (Zr (.int 1)))) (Zr [])))))) (Zr []))))) (Aj 7))
 (Ab (retS (dop ixD (dop Be (vr 7) (lstM (Aa (Bg (Aa (Zr (.str "before")) (Aa (vr 3) (Aa (vr 4) (Aa (vr 5) (Zr [])))))) (Aa (Bg (Aa (Zr (.str "go")) (Aa (vr 5) (Zr [])))) (Zr []))))) (vr 0)))
 Zn)))))))
theorem Aaw (k:Nat):Bq f46 k=b46 k:=by kernel_rfl
noncomputable def b47 (k:Nat):SM :=
 (Ab (Ao (dop Bd (dop Bb (vr 1) (Zr (.int 22))) (Zr (.int 3))) (Aj 4))
 (Ab (Ao (dop Bd (dop Bb (vr 1) (Zr (.int 66))) (Zr (.int 2))) (Aj 5))
 (Ab (Ao (dop Bd (dop Bb (vr 1) (Zr (.int 198))) (dop Be (vr 2) (Zr (.int 1)))) (Aj 6))
 (Ab (Ao (dop Bd (dop Bb (vr 1) (Zr (.int 12078))) (Ae Cz (Aa (vr 3) (Zr [])))) (Aj 7))
 (Ab (Ao (lstM (Aa (Bg (Aa (Zr (.str "me")) (Aa (vr 4) (Zr [])))) (Aa (Bg (Aa (Zr (.str "pick")) (Aa (vr 4) (Aa (vr 7) (Zr []))))) (Aa (Bg (Aa (Zr (.str "alike")) (Aa (vr 4) (Aa (dop Bd (dop Bb (vr 1) (Zr (.int 66))) (Zr (.int 3))) (Aa (vr 6) (Zr [])))))) (Aa (Bg (Aa (Zr (.str "all")) (Aa (vr 5) (Aa (vr 7) (Zr []))))) (Zr [])))))) (Aj 8))
 (Ab (Ao (dop Be (vr 8) (lstM (Aa (Bg (Aa (Zr (.str "empty")) (Aa (vr 5) (Zr [])))) (Aa (Bg (Aa (Zr (.str "join")) (Aa (vr 5) (Aa (vr 4) (Zr []))))) (Aa (Bg (Aa (Zr (.str "out")) (Aa (vr 4) (Aa (vr 5) (Aa (vr 6) (Zr [])))))) (Aa (Bg (Aa (Zr (.str "many")) (Aa (vr 5) (Aa (dop Be (Zr (.int 1)) (vr 4)) (Aa (vr 6) (Zr [])))))) (Zr []))))))) (Aj 8))
 (Ab (ifS (Gv (Ar (dop eqD (vr 0) (Zr (.int 0)))) (Ar (dop eqD (dop ixD (vr 3) (vr 7)) (Zr (.int 1)))))
 (Ab (retS (Bg (Aa (Zr (.str "only")) (Aa (vr 4) (Aa (vr 7) (Zr []))))))
  Zn)
 Zn)
 (Ab (retS (dop ixD (vr 8) (vr 0)))
 Zn))))))))
theorem Aax (k:Nat):Bq f47 k=b47 k:=by kernel_rfl
noncomputable def b48 (k:Nat):SM :=
 (Ab (Ao (dop Bd (vr 0) (Zr (.int 22))) (Aj 3))
 (Ab (ifS (Ar (dop ltD (vr 3) (Zr (.int 8))))
 (Ab (retS (Ae (Af (Gk k) fuel f46) (Aa (vr 3) (Aa (vr 0) (Aa (vr 1) (Zr []))))))
  Zn)
 Zn)
 (Ab (ifS (Ar (dop ltD (vr 3) (Zr (.int 16))))
 (Ab (retS (Ae (Af (Gk k) fuel f47) (Aa (dop Gq (vr 3) (Zr (.int 8))) (Aa (vr 0) (Aa (vr 1) (Aa (vr 2) (Zr [])))))))
  Zn)
 Zn)
 (Ab (Ao (dop Bd (dop Bb (vr 0) (Zr (.int 66))) (Zr (.int 3))) (Aj 4))
 (Ab (ifS (Ar (dop ltD (vr 3) (Zr (.int 19))))
 (Ab (retS (Bg (Aa (Zr (.str "send")) (Aa (Zr (.int 0)) (Aa (dop Be (Zr (.int 1)) (dop Bd (dop Bb (vr 0) (Zr (.int 198))) (Zr (.int 3)))) (Aa (vr 4) (Aa (dop Bd (dop Bb (vr 0) (Zr (.int 594))) (Zr (.int 3))) (Zr []))))))))
  Zn)
 Zn)
 (Ab (ifS (Ar (dop eqD (vr 3) (Zr (.int 19))))
 (Ab (retS (Bg (Aa (Zr (.str "bell")) (Zr []))))
  Zn)
 Zn)
 (Ab (Ao (dop Bd (dop Bb (vr 0) (Zr (.int 22))) (Zr (.int 3))) (Aj 5))
 (Ab (Ao (dop Bd (dop Bb (vr 0) (Zr (.int 396))) (dop Be (vr 1) (Zr (.int 1)))) (Aj 6))
 (Ab (Ao (Bg (Aa (Bg (Aa (dop Be (Zr (.int 1)) (dop Bd (dop Bb (vr 0) (Zr (.int 198))) (Zr (.int 2)))) (Aa (vr 5) (Aa (vr 4) (Aa (dop Bd (dop Be (vr 4) (Zr (.int 1))) (Zr (.int 3))) (Aa (vr 6) (Zr []))))))) (Zr []))) (Aj 7))
 (Ab (ifS (Ar (dop eqD (dop Bd (dop Bb (vr 0) (Zr (.int 12078))) (Zr (.int 2))) (Zr (.int 0))))
 (Ab (Ao (dop Bd (dop Bb (vr 0) (Zr (.int 24156))) (dop Be (vr 1) (Zr (.int 1)))) (Aj 6))
  (Ab (Ao (dop Be (vr 7) (Bg (Aa (Bg (Aa (Zr (.int 3)) (Aa (vr 4) (Aa (vr 5) (Aa (dop Bd (dop Be (vr 5) (Zr (.int 2))) (Zr (.int 3))) (Aa (vr 6) (Zr []))))))) (Aa (Bg (Aa (Zr (.int 0)) (Aa (Zr (.int 0)) (Aa (Zr (.int 0)) (Aa (Zr (.int 1)) (Aa (vr 1) (Zr []))))))) (Zr []))))) (Aj 7))
  Zn))
 Zn)
 (Ab (retS (Bg (Aa (Zr (.str "take")) (Aa (dop ixD (lstM (Aa (Rn (Zr (.int 1))) (Aa (Rn (Zr (.int 1))) (Aa (vr 5) (Zr []))))) (dop Bd (dop Bb (vr 0) (Zr (.int 198))) (Zr (.int 3)))) (Aa (vr 7) (Zr []))))))
 Zn)))))))))))
theorem Aay (k:Nat):Bq f48 k=b48 k:=by kernel_rfl
noncomputable def b49 (k:Nat):SM :=
 (Ab (Ao (lstM (Zr [])) (Aj 3))
 (Ab (Ga (Ib Jm (Aa (Ae Cz (Aa (vr 2) (Zr []))) (Zr []))) (Aj 4)
 (Ab (ifS (Ar (dop gtD (dop ixD (vr 2) (vr 4)) (Ae intD (Aa (dop eqD (vr 4) (vr 1)) (Zr [])))))
  (Ab (Dp (Bo "list" Bs (vr 3) (Aa (vr 4) (Zr []))))
   Zn)
  Zn)
  Zn))
 (Ab (ifS (Ar (dop eqD (vr 3) (lstM (Zr []))))
 (Ab (retS (Bg (Aa (Zr (.str "me")) (Aa (Zr (.int 0)) (Zr [])))))
  Zn)
 Zn)
 (Ab (retS (Bg (Aa (Zr (.str "pick")) (Aa (Zr (.int 0)) (Aa (dop ixD (vr 3) (dop Bd (vr 0) (Ae Cz (Aa (vr 3) (Zr []))))) (Zr []))))))
 Zn))))
theorem Aaz (k:Nat):Bq f49 k=b49 k:=by kernel_rfl
noncomputable def b50 (k:Nat):SM :=
 (Ab (Ao (Ae (Af (Gk k) fuel f45) (Aa (vr 0) (Aa (dop Be (dop Be (Zr (.int 3)) (vr 1)) (dop Ii (vr 2) (dop Be (vr 3) (Zr (.int 1))))) (Aa (dop Rm (Zr (.int 10)) (Zr (.int 6))) (Zr []))))) (Aj 4))
 (Ab (Ao (Ae Di (Aa (Bj (Cq (dSl (vr 4) (some (Zr (.int 3))) (some (dop Be (Zr (.int 3)) (vr 1))))) [none,none,some 2] (Aj 1) (Zr true) (dop Bd (vr 1) (vr 2))) (Zr []))) (Aj 5))
 (Ab (Ao (Bj (Ib Jm (Aa (vr 2) (Zr []))) [none,none,some 5] (Aj 1) (Zr true) (Lk "tuple" Q9 "list" X3 (vr 2) (Aa (vr 1) (Zr [])))) (Aj 7))
 (Ab (Ao (lstM (Zr [])) (Aj 8))
 (Ab (Ga (Ib Jm (Aa (vr 2) (Zr []))) (Aj 6)
 (Ab (Ao (dop Be (dop Be (Zr (.int 3)) (vr 1)) (dop Ii (vr 6) (dop Be (vr 3) (Zr (.int 1))))) (Aj 9))
  (Ab (Ao (dSl (vr 4) (some (vr 9)) (some (dop Be (dop Be (vr 9) (vr 3)) (Zr (.int 1))))) (Aj 10))
  (Ab (Ao (dop Bd (dop ixD (vr 10) (vr 3)) (dop Be (vr 3) (Zr (.int 1)))) (Aj 11))
  (Ab (Ao (Bj (Cq (dSl (vr 10) none (some (vr 11)))) [none,none,some 7,some 11] (Aj 1) (Zr true) (Ae (Af (Gk k) fuel f48) (Aa (vr 1) (Aa (vr 3) (Aa (vr 2) (Zr [])))))) (Aj 12))
  (Ab (ifS (Gv (Ar (dop gtD (vr 11) (Zr (.int 0)))) (Ar (dop eqD (dop Bd (dop Bb (dop ixD (vr 10) (vr 3)) (Zr (.int 60))) (Zr (.int 2))) (Zr (.int 0)))))
  (Ab (Ao (Ae (Af (Gk k) fuel f49) (Aa (dop ixD (vr 10) (Zr (.int 0))) (Aa (vr 6) (Aa (vr 7) (Zr []))))) (O6 (vr 12) (Zr (.int 0))))
   Zn)
  Zn)
  (Ab (Dp (Bo "list" Bs (vr 8) (Aa (Ae Bh (Aa (vr 12) (Zr []))) (Zr []))))
  Zn)))))))
 (Ab (Ao (Bg (Aa (dop Bb (dop Bd (dop ixD (vr 4) (Zr (.int 1))) (Zr (.int 3))) (Zr (.int 2))) (Aa (dop Bb (dop Bd (dop ixD (vr 4) (Zr (.int 2))) (Zr (.int 4))) (Zr (.int 3))) (Zr [])))) (Aj 13))
 (Ab (retS (Bg (Aa (dop Be (Zr (.int 1)) (dop Bd (dop ixD (vr 4) (Zr (.int 0))) (Zr (.int 2)))) (Aa (vr 13) (Aa (Ae Bh (Aa (vr 8) (Zr []))) (Aa (Ae Bh (Aa (vr 5) (Zr []))) (Zr [])))))))
 Zn)))))))
theorem Aa0 (k:Nat):Bq f50 k=b50 k:=by kernel_rfl
noncomputable def b51 (k:Nat):SM :=
 (Ab (retS (dop ixD (lstM (Aa (dop Gq (dop Bd (vr 0) (Zr (.int 7))) (Zr (.int 3))) (Aa (dop Gq (dop Bd (vr 0) (Zr (.int 7))) (Zr (.int 3))) (Aa (dop Gq (vr 0) (dop Ii (Zr (.int 5)) (dop Rm (Zr (.int 10)) (Zr (.int 5))))) (Aa (dop Gq (dop Rm (vr 0) (Zr (.int 3))) (dop Rm (Zr (.int 10)) (Zr (.int 17)))) (Zr [])))))) (dop Bd (dop Bb (vr 0) (Zr (.int 7))) (Zr (.int 4)))))
 Zn)
theorem Aa1 (k:Nat):Bq f51 k=b51 k:=by kernel_rfl
noncomputable def b52 (k:Nat):SM :=
 (Ab (Ao (lstM (Zr [])) (Aj 3))
 (Ab (Ga (Cq (dSl (vr 0) none (some (dop Bd (dop Bb (dop ixD (vr 0) (Zr (.int 0))) (Zr (.int 4096))) (dop Be (vr 1) (Zr (.int 1))))))) (Aj 4)
 (Ab (Dp (Bo "list" Bs (vr 3) (Aa (Bg (Aa (dop Be (Zr (.int 1)) (dop Bd (vr 4) (Zr (.int 3)))) (Aa (Ae (Af (Gk k) fuel f51) (Aa (dop Bb (vr 4) (Zr (.int 3))) (Zr []))) (Aa (dop Gq (dop Bd (dop Bb (vr 4) (Zr (.int 90))) (dop Be (vr 2) (Zr (.int 1)))) (Zr (.int 1))) (Zr []))))) (Zr []))))
  Zn))
 (Ab (retS (Ae Bh (Aa (vr 3) (Zr []))))
 Zn)))
theorem Aa2 (k:Nat):Bq f52 k=b52 k:=by kernel_rfl
noncomputable def b53 (k:Nat):SM :=
 (Ab (Ao (vr 0) (Fe [2,3,4,5]))
 (Ab (Ao (Ae Cz (Aa (vr 5) (Zr []))) (Aj 6))
 (Ab (Ao (Ae (Af (Gk k) fuel f45) (Aa (vr 1) (Aa (dop Be (dop Ii (Zr (.int 11)) (vr 6)) (dop Ii (dop Ii (vr 6) (vr 6)) (vr 2))) (Aa (dop Rm (Zr (.int 10)) (Zr (.int 6))) (Zr []))))) (Aj 7))
 (Ab (Ao (lstM (Zr [])) (Aj 8))
 (Ab (Ga (Ib Jm (Aa (vr 6) (Zr []))) (Aj 9)
 (Ab (Ao (dSl (vr 7) (some (dop Ii (Zr (.int 11)) (vr 9))) (some (dop Be (dop Ii (Zr (.int 11)) (vr 9)) (Zr (.int 11))))) (Aj 10))
  (Ab (Ao (dop Gq (dop Bd (dop ixD (vr 10) (Zr (.int 0))) (dop Be (Ae Cz (Aa (dop ixD (vr 4) (dop ixD (vr 5) (vr 9))) (Zr []))) (Zr (.int 2)))) (Zr (.int 1))) (Aj 11))
  (Ab (Ao (Ae Bh (Aa (Bj (Cq (dSl (vr 10) (some (Zr (.int 1))) (some (Zr (.int 4))))) [none,none] (Aj 1) (Zr true) (Ae (Af (Gk k) fuel f51) (Aa (vr 1) (Zr [])))) (Zr []))) (Aj 12))
  (Ab (Ao (Ae Bh (Aa (Bj (Cq (dSl (vr 10) (some (Zr (.int 4))) (some (Zr (.int 7))))) [none,none,some 6] (Aj 1) (Zr true) (dop Gq (dop Bd (vr 1) (dop Be (vr 2) (Zr (.int 1)))) (Zr (.int 1)))) (Zr []))) (Aj 13))
  (Ab (Dp (Bo "list" Bs (vr 8) (Aa (Bg (Aa (vr 11) (Aa (vr 12) (Aa (vr 13) (Aa (Bg (Aa (dop Bd (dop ixD (vr 10) (Zr (.int 7))) (dop Wm (Zr (.int 1)) (vr 6))) (Aa (dop Bd (dop ixD (vr 10) (Zr (.int 8))) (dop Wm (Zr (.int 1)) (vr 6))) (Zr [])))) (Aa (dop eqD (dop Bd (dop ixD (vr 10) (Zr (.int 9))) (Zr (.int 2))) (Zr (.int 1))) (Zr []))))))) (Zr []))))
  Zn))))))
 (Ab (Ao (lstM (Zr [])) (Aj 14))
 (Ab (Ao (dop Ii (Zr (.int 11)) (vr 6)) (Aj 15))
 (Ab (Ga (Ib Jm (Aa (vr 6) (Zr []))) (Aj 9)
 (Ab (Ao (lstM (Zr [])) (Aj 16))
  (Ab (Ga (Ib Jm (Aa (vr 6) (Zr []))) (Aj 17)
  (Ab (Dp (Bo "list" Bs (vr 16) (Aa (Ae (Af (Gk k) fuel f52) (Aa (dSl (vr 7) (some (vr 15)) (some (dop Be (vr 15) (vr 2)))) (Aa (vr 2) (Aa (vr 6) (Zr []))))) (Zr []))))
   (Ab (Ao (dop Be (vr 15) (vr 2)) (Aj 15))
   Zn)))
  (Ab (Dp (Bo "list" Bs (vr 14) (Aa (Ae Bh (Aa (vr 16) (Zr []))) (Zr []))))
  Zn))))
 (Ab (retS (Bg (Aa (Ae Bh (Aa (vr 8) (Zr []))) (Aa (Ae Bh (Aa (vr 14) (Zr []))) (Aa (Bg (Aa (dop Bd (dop ixD (vr 7) (Zr (.int 10))) (dop Be (dop ixD (vr 3) (Zr (.int 0))) (Zr (.int 1)))) (Aa (dop Bd (dop Bb (dop ixD (vr 7) (Zr (.int 10))) (Zr (.int 7))) (dop Be (dop ixD (vr 3) (Zr (.int 1))) (Zr (.int 1)))) (Zr [])))) (Zr []))))))
 Zn)))))))))
theorem Aa3 (k:Nat):Bq f53 k=b53 k:=by kernel_rfl
noncomputable def b54 (k:Nat):SM :=
 (Ab (Ao (dop Gq (vr 0) (dop ixD (lstM (Aa (Zr (.int 0)) (Aa (Zr (.int 1)) (Aa (dop Bd (dop Bb (vr 1) (Zr (.int 16))) (Zr (.int 10))) (Aa (vr 1) (Zr [])))))) (dop Bd (vr 1) (Zr (.int 4))))) (Aj 2))
 (Ab (Ao (dop Be (vr 0) (dop ixD (lstM (Aa (Zr (.int 0)) (Aa (Zr (.int 1)) (Aa (dop Bd (dop Bb (vr 1) (Zr (.int 64))) (Zr (.int 10))) (Aa (vr 1) (Zr [])))))) (dop Bd (dop Bb (vr 1) (Zr (.int 4))) (Zr (.int 4))))) (Aj 3))
 (Ab (retS (dop ixD (lstM (Aa (Bg (Aa (vr 2) (Aa (vr 3) (Zr [])))) (Aa (Bg (Aa (vr 2) (Aa (vr 3) (Zr [])))) (Aa (Bg (Aa (Zr .non) (Aa (vr 3) (Zr [])))) (Aa (Bg (Aa (vr 2) (Aa (Zr .non) (Zr [])))) (Aa (Bg (Aa (Zr .non) (Aa (Zr .non) (Zr [])))) (Aa (Bg (Aa (vr 0) (Aa (vr 0) (Zr [])))) (Zr [])))))))) (dop Bd (dop Bb (vr 1) (Zr (.int 7))) (Zr (.int 6)))))
 Zn)))
theorem Aa4 (k:Nat):Bq f54 k=b54 k:=by kernel_rfl
noncomputable def b55 (k:Nat):SM :=
 (Ab (Ao (dop Be (dop Ii (Zr (.int 3)) (Ae Cz (Aa (dop ixD (vr 0) (Zr (.int 0))) (Zr [])))) (Ae Q6 (Aa (Bj (Cq (dop ixD (vr 0) (Zr (.int 1)))) [none,none] (Aj 1) (Zr true) (Ae Q6 (Aa (Bj (Cq (vr 1)) [none,none] (Aj 1) (Zr true) (Ae Cz (Aa (vr 1) (Zr [])))) (Zr [])))) (Zr [])))) (Aj 4))
 (Ab (Ao (Ae (Af (Gk k) fuel f45) (Aa (vr 1) (Aa (vr 4) (Aa (dop Rm (Zr (.int 10)) (Zr (.int 4))) (Zr []))))) (Aj 5))
 (Ab (Ao (lstM (Zr [])) (Aj 6))
 (Ab (Ga (Cq (dop ixD (vr 0) (Zr (.int 0)))) (Fe [7,8,9,10,11])
 (Ab (Ao (Ae Bh (Aa (Bj (Cq (vr 8)) [none,none,some 5] (Aj 1) (Zr true) (Ae (Af (Gk k) fuel f54) (Aa (vr 1) (Aa (Bo "list" Ei (vr 2) (Aa (Zr (.int 0)) (Zr []))) (Zr []))))) (Zr []))) (Aj 12))
  (Ab (Dp (Bo "list" Bs (vr 6) (Aa (Bg (Aa (vr 7) (Aa (vr 12) (Aa (vr 9) (Aa (vr 10) (Aa (vr 11) (Zr []))))))) (Zr []))))
  Zn)))
 (Ab (Ao (lstM (Zr [])) (Aj 13))
 (Ab (Ga (Cq (dop ixD (vr 0) (Zr (.int 1)))) (Aj 2)
 (Ab (Ao (lstM (Zr [])) (Aj 14))
  (Ab (Ga (Cq (vr 2)) (Aj 3)
  (Ab (Dp (Bo "list" Bs (vr 14) (Aa (Ae Bh (Aa (Bj (Cq (vr 3)) [none,none,none,none,some 5] (Fe [1,2,3]) (Zr true) (Bg (Aa (vr 1) (Aa (Ae (Af (Gk k) fuel f54) (Aa (vr 2) (Aa (Bo "list" Ei (vr 4) (Aa (Zr (.int 0)) (Zr []))) (Zr [])))) (Aa (vr 3) (Zr [])))))) (Zr []))) (Zr []))))
   Zn))
  (Ab (Dp (Bo "list" Bs (vr 13) (Aa (Ae Bh (Aa (vr 14) (Zr []))) (Zr []))))
  Zn))))
 (Ab (retS (Bg (Aa (Ae Bh (Aa (vr 6) (Zr []))) (Aa (Ae Bh (Aa (vr 13) (Zr []))) (Aa (dop ixD (vr 0) (Zr (.int 2))) (Zr []))))))
 Zn)))))))
theorem Aa5 (k:Nat):Bq f55 k=b55 k:=by kernel_rfl
noncomputable def b58 (k:Nat):SM :=
 (Ab (retS (Ca (Gd "int" (vr 0)) (Ca (rB (Gd "bool" (vr 0))) (Ie leD leD (vr 1) (vr 0) (vr 2)))))
 Zn)
theorem Aa6 (k:Nat):Bq f58 k=b58 k:=by kernel_rfl
noncomputable def b59 (k:Nat):SM :=
 (Ab (ifS (Fz (Ce (Dh (Gd "tuple" (vr 0)))) (Ar (dop neD (Ae Cz (Aa (vr 0) (Zr []))) (Zr (.int 2)))))
 (Ab (retS (Zr (.bl false)))
  Zn)
 Zn)
 (Ab (Ga (Cq (vr 0)) (Aj 1)
 (Ab (ifS (Gv (Ar (dop (isD true) (vr 1) (Zr .non))) (Fz (Ce (Dh (Gd "int" (vr 1)))) (Dh (Gd "bool" (vr 1)))))
  (Ab (retS (Zr (.bl false)))
   Zn)
  Zn)
  Zn))
 (Ab (retS (S8 (dop (inD false) (Zr .non) (vr 0)) (dop leD (dop ixD (vr 0) (Zr (.int 0))) (dop ixD (vr 0) (Zr (.int 1))))))
 Zn)))
theorem Aa7 (k:Nat):Bq f59 k=b59 k:=by kernel_rfl
noncomputable def b60 (k:Nat):SM :=
 (Ab (ifS (Fz (Ce (Dh (Gd "tuple" (vr 0)))) (Ar (dop neD (Ae Cz (Aa (vr 0) (Zr []))) (vr 1))))
 (Ab (retS (Zr (.bl false)))
  Zn)
 Zn)
 (Ab (retS (dop eqD (Bj (Cq (vr 0)) [none,none,some 2] (Aj 1) (Ce (Dh (Ff (Gk (k+1)).cal (Gk (k+1)).clo 2 (Aa (vr 1) (Zr []))))) (vr 1)) (lstM (Zr []))))
 Zn))
theorem Aa8 (k:Nat):Bq f60 k=b60 k:=by kernel_rfl
noncomputable def Px:SC:={ N:=f61.N,scope:=f61.scope,own:=λy=>!(lm0.fr.contains y),lt:=some ("_law_is_part",lm0.pl) }
noncomputable def Rw:Expr:=(exE (exE (stE ((Av (top 61)).getD 3 (.Pass ⟨0,0,0,0⟩))) 1) 2)
noncomputable def Rx:CloI:=iD Rw none
noncomputable def Wu (k:Nat):SM :=
 (Ab (retS (Ae (Af (Gk k) fuel f58) (Aa (vr 0) (Aa (Rn (Zr (.int 1))) (Aa (dop Gq (vr 1) (Zr (.int 1))) (Zr [])))))) Zn)
theorem aL (k:Nat):iSs (Gk (k+1)) fuel (Jo Rx) Rx.body=Wu k:=by kernel_rfl
noncomputable def Ry:Expr:=(exE (exE (stE ((Av (top 61)).getD 4 (.Pass ⟨0,0,0,0⟩))) 1) 2)
noncomputable def Rz:CloI:=iD Ry none
noncomputable def Wv (k:Nat):SM :=
 (Ab (retS (Ae (Af (Gk k) fuel f58) (Aa (vr 0) (Aa (Zr (.int 0)) (Aa (dop Gq (dop Wm (Zr (.int 1)) (vr 1)) (Zr (.int 1))) (Zr [])))))) Zn)
theorem aM (k:Nat):iSs (Gk (k+1)) fuel (Jo Rz) Rz.body=Wv k:=by kernel_rfl
noncomputable def Aa9 (k:Nat):SM :=
 (Ab (Ab (ifS (Fz (Ce (Dh (Gd "tuple" (vr 0)))) (Ar (dop neD (Ae Cz (Aa (vr 0) (Zr []))) (Zr (.int 5)))))
 (Ab (retS (Zr (.bl false)))
  Zn)
 Zn)
 (Ab (Ao (Ca (Ae (Af (Gk k) fuel f58) (Aa (dop ixD (vr 0) (Zr (.int 0))) (Aa (Rn (Zr (.int 1))) (Aa (vr 1) (Zr []))))) (Gd "bool" (dop ixD (vr 0) (Zr (.int 4))))) (Aj 3))
 (Ab (Ao (Ca (vr 3) (Ae (Af (Gk k) fuel f60) (Aa (dop ixD (vr 0) (Zr (.int 1))) (Aa (Zr (.int 3)) (Aa (Zr (.fn "_law_is_pair")) (Zr [])))))) (Aj 3))
 Zn)))
 (Ab (Ao (Ca (vr 3) (Ae (Af (Gk k) fuel f60) (Aa (dop ixD (vr 0) (Zr (.int 2))) (Aa (Zr (.int 3)) (Aa (K7 Px "_law_is_part" lm0.pl Rw) (Zr [])))))) (Aj 3))
 (Ab (retS (Ca (vr 3) (Ae (Af (Gk k) fuel f60) (Aa (dop ixD (vr 0) (Zr (.int 3))) (Aa (Zr (.int 2)) (Aa (K7 Px "_law_is_part" lm0.pl Ry) (Zr [])))))))
 Zn)))
theorem rZ (k:Nat):Pj (Gk (k+1)) fuel "_law_is_part" f61 lm0=Aa9 k:=by kernel_rfl
noncomputable def b62 (k:Nat):SM :=
 (Ab (ifS (Fz (Ce (Dh (Gd "tuple" (vr 0)))) (Ar (dop neD (Ae Cz (Aa (vr 0) (Zr []))) (Zr (.int 3)))))
 (Ab (retS (Zr (.bl false)))
  Zn)
 Zn)
 (Ab (retS (Ca (Ae (Af (Gk k) fuel f58) (Aa (dop ixD (vr 0) (Zr (.int 0))) (Aa (Zr (.int 1)) (Aa (Zr (.int 12)) (Zr []))))) (Ca (Ae (Af (Gk k) fuel f59) (Aa (dop ixD (vr 0) (Zr (.int 1))) (Zr []))) (Ae (Af (Gk k) fuel f58) (Aa (dop ixD (vr 0) (Zr (.int 2))) (Aa (Rn (Zr (.int 1))) (Aa (dop Gq (vr 1) (Zr (.int 1))) (Zr []))))))))
 Zn))
theorem Aba (k:Nat):Bq f62 k=b62 k:=by kernel_rfl
noncomputable def uQ:SC:={ N:=f63.N,scope:=f63.scope,own:=λy=>!(lm1.fr.contains y),lt:=some ("_law_is_row",lm1.pl) }
noncomputable def Ww:Expr:=(exE (stE ((Av (top 63)).getD 1 (.Pass ⟨0,0,0,0⟩))) 2)
noncomputable def R3:CloI:=iD Ww none
noncomputable def Wx (k:Nat):SM :=
 (Ab (retS (Ae (Af (Gk k) fuel f62) (Aa (vr 0) (Aa (vr 1) (Zr []))))) Zn)
theorem aN (k:Nat):iSs (Gk (k+1)) fuel (Jo R3) R3.body=Wx k:=by kernel_rfl
noncomputable def Abb (k:Nat):SM :=
 (Ab (Ab (ifS (Fz (Ce (Dh (Gd "tuple" (vr 0)))) (Ar (dop gtD (Ae Cz (Aa (vr 0) (Zr []))) (vr 1))))
 (Ab (retS (Zr (.bl false)))
  Zn)
 Zn)
 Zn)
 (Ab (retS (Ae (Af (Gk k) fuel f60) (Aa (vr 0) (Aa (Ae Cz (Aa (vr 0) (Zr []))) (Aa (K7 uQ "_law_is_row" lm1.pl Ww) (Zr []))))))
 Zn))
theorem sE (k:Nat):Pj (Gk (k+1)) fuel "_law_is_row" f63 lm1=Abb k:=by kernel_rfl
noncomputable def lO:SC:={ N:=f64.N,scope:=f64.scope,own:=λy=>!(lm2.fr.contains y),lt:=some ("_law_is_pattern",lm2.pl) }
noncomputable def Cy:Expr:=(exE (exE (stE ((Av (top 64)).getD 4 (.Pass ⟨0,0,0,0⟩))) 0) 2)
noncomputable def Il:CloI:=iD Cy (some (Ka "_law_is_pattern"))
noncomputable def Ny:Expr:=exE (exE Cy 0) 2
noncomputable def Nz:CloI:=iD Ny none
noncomputable def Wy (k:Nat):SM :=
 (Ab (retS (Ae (Jh (Gk k) fuel "_law_is_row" f63 lm1) (Aa (vr 0) (Aa (vr 1) (Aa (vr 2) (Zr [])))))) Zn)
theorem aO (k:Nat):iSs (Gk (k+1)) fuel (Jo Nz) Nz.body=Wy k:=by kernel_rfl
noncomputable def Abd (k:Nat):SM :=
 (Ab (Ab (Ao (vr 0) (Fe [7,2,3,4]))
 (Ab (Ao (Ae Cz (Aa (vr 4) (Zr []))) (Aj 6))
 (Ab (ifS (Fz (Ce (Dh (Gd "tuple" (vr 1)))) (Fz (Ar (dop neD (Ae Cz (Aa (vr 1) (Zr []))) (Zr (.int 3)))) (Fz (Ce (Dh (Gd "tuple" (dop ixD (vr 1) (Zr (.int 0)))))) (Ar (dop neD (Ae Cz (Aa (dop ixD (vr 1) (Zr (.int 0))) (Zr []))) (vr 6))))))
 (Ab (retS (Zr (.bl false)))
  Zn)
 Zn)
 (Ab (Ga (Ib Jm (Aa (vr 6) (Zr []))) (Aj 5)
 (Ab (ifS (Ce (Dh (Ae (Jh (Gk k) fuel "_law_is_part" f61 lm0) (Aa (dop ixD (dop ixD (vr 1) (Zr (.int 0))) (vr 5)) (Aa (Ae Cz (Aa (dop ixD (vr 3) (dop ixD (vr 4) (vr 5))) (Zr []))) (Aa (vr 6) (Zr [])))))))
  (Ab (retS (Zr (.bl false)))
   Zn)
  Zn)
  Zn))
 Zn))))
 (Ab (ifS (Ce (Dh (Ae (Af (Gk k) fuel f60) (Aa (dop ixD (vr 1) (Zr (.int 1))) (Aa (vr 6) (Aa (K7 lO "_law_is_pattern" lm2.pl Cy) (Zr [])))))))
 (Ab (retS (Zr (.bl false)))
  Zn)
 Zn)
 (Ab (ifS (Fz (Ce (Dh (Gd "tuple" (dop ixD (vr 1) (Zr (.int 2)))))) (Ar (dop neD (Ae Cz (Aa (dop ixD (vr 1) (Zr (.int 2))) (Zr []))) (Zr (.int 2)))))
 (Ab (retS (Zr (.bl false)))
  Zn)
 Zn)
 (Ab (retS (Ca (Ae (Af (Gk k) fuel f58) (Aa (dop ixD (dop ixD (vr 1) (Zr (.int 2))) (Zr (.int 0))) (Aa (Zr (.int 0)) (Aa (dop ixD (vr 2) (Zr (.int 0))) (Zr []))))) (Ae (Af (Gk k) fuel f58) (Aa (dop ixD (dop ixD (vr 1) (Zr (.int 2))) (Zr (.int 1))) (Aa (Zr (.int 0)) (Aa (dop ixD (vr 2) (Zr (.int 1))) (Zr [])))))))
 Zn))))
theorem sG (k:Nat):Pj (Gk (k+1)) fuel "_law_is_pattern" f64 lm2=Abd k:=by kernel_rfl
noncomputable def b65 (k:Nat):SM :=
 (Ab (ifS (Dh (Gd "tuple" (vr 0)))
 (Ab (Ao (lstM (Aa (Ae O3 (Aa (vr 0) (Zr []))) (Aa (dop Be (vr 0) (Bg (Aa (Zr (.int 0)) (Zr [])))) (Aa (dSl (vr 0) none (some (Rn (Zr (.int 1))))) (Aa (Bg (Zr [])) (Aa (Zr .non) (Aa (Afi (vr 0)) (Aa (dop Be (vr 0) (dSl (vr 0) none (some (Zr (.int 1))))) (Zr []))))))))) (Aj 2))
  (Ab (Ao (dop Be (vr 2) (lstM (Aa (Bg (Aa (Zr (.int 5)) (Aa (Zr (.int 3)) (Zr [])))) (Aa (Bg (Aa (Zr (.int 3)) (Aa (Zr (.int 5)) (Aa (Zr (.int 7)) (Zr []))))) (Aa (Bg (Aa (Zr (.int 4)) (Zr []))) (Zr [])))))) (Aj 2))
  (Ab (retS (dop ixD (dop Be (vr 2) (lstM (Aa (Bg (Aa (Zr (.bl true)) (Aa (Zr (.int 7)) (Zr [])))) (Aa (Bg (Aa (Zr (.str "1")) (Aa (Zr (.int 2)) (Zr [])))) (Aa (Bg (Aa (Zr .non) (Aa (Zr .non) (Zr [])))) (Aa (Zr (.int 4)) (Aa (Bg (Aa (Zr (.int 2)) (Aa (Zr (.int 2)) (Zr [])))) (Zr [])))))))) (dop Bd (vr 1) (Zr (.int 15)))))
  Zn)))
 Zn)
 (Ab (retS (dop ixD (lstM (Aa (Rn (Zr (.int 1))) (Aa (Rn (Zr (.int 2))) (Aa (Zr (.int 13)) (Aa (Zr (.int 64)) (Aa (Zr (.bl true)) (Aa (Zr .non) (Aa (Zr (.str "1")) (Aa (Bg (Aa (Zr (.int 0)) (Zr []))) (Aa (Zr (.int 7)) (Aa (Zr (.int 0)) (Aa (Zr (.bl false)) (Zr []))))))))))))) (dop Bd (vr 1) (Zr (.int 11)))))
 Zn))
theorem lQ (k:Nat):Bq f65 k=b65 k:=by kernel_rfl
noncomputable def b66 (k:Nat):SM :=
 (Ab (Ao (Bo "list" Ei (vr 1) (Aa (Zr (.int 0)) (Zr []))) (Aj 3))
 (Ab (ifS (Gv (Ar (dop gtD (vr 2) (Zr (.int 0)))) (Gv (Dh (Gd "tuple" (vr 0))) (Gv (Ar (dop neD (vr 0) (Bg (Zr [])))) (Ar (dop gtD (dop Bd (vr 3) (Zr (.int 5))) (Zr (.int 0)))))))
 (Ab (Ao (dop Bd (dop Bb (vr 3) (Zr (.int 5))) (Ae Cz (Aa (vr 0) (Zr [])))) (Aj 4))
  (Ab (retS (dop Be (dop Be (dSl (vr 0) none (some (vr 4))) (Bg (Aa (Ae (Af (Gk k) fuel f66) (Aa (dop ixD (vr 0) (vr 4)) (Aa (vr 1) (Aa (dop Gq (vr 2) (Zr (.int 1))) (Zr []))))) (Zr [])))) (dSl (vr 0) (some (dop Be (vr 4) (Zr (.int 1)))) none)))
  Zn))
 Zn)
 (Ab (retS (Ae (Af (Gk k) fuel f65) (Aa (vr 0) (Aa (dop Bb (vr 3) (Zr (.int 5))) (Zr [])))))
 Zn)))
theorem lR (k:Nat):Bq f66 k=b66 k:=by kernel_rfl
noncomputable def b67 (k:Nat):SM :=
 (Ab (Ao (dop Be (Zr (.int 1)) (dop Bd (Ae (Af (Gk k) fuel f43) (Aa (vr 0) (Aa (Zr (.int 0)) (Zr [])))) (Zr (.int 4)))) (Aj 1))
 (Ab (Ao (dop Be (Zr (.int 1)) (dop Bd (dop Bb (Ae (Af (Gk k) fuel f43) (Aa (vr 0) (Aa (Zr (.int 0)) (Zr [])))) (Zr (.int 4))) (Zr (.int 3)))) (Aj 2))
 (Ab (Ao (Ae (Af (Gk k) fuel f50) (Aa (Ae (Af (Gk k) fuel f43) (Aa (vr 0) (Aa (Zr (.int 1)) (Zr [])))) (Aa (vr 1) (Aa (vr 2) (Aa (Zr (.int 6)) (Zr [])))))) (Aj 3))
 (Ab (Ga (Ib Zz (Aa (Zr (.int 2)) (Aa (Ae fH (Aa (Zr (.int 5)) (Aa (Ae fJ (Aa (Zr (.int 62)) (Aa (Ae Cz (Aa (vr 0) (Zr []))) (Zr [])))) (Zr [])))) (Aa (Zr (.int 3)) (Zr []))))) (Aj 4)
 (Ab (Ao (Ae (Af (Gk k) fuel f53) (Aa (vr 3) (Aa (Ae (Af (Gk k) fuel f43) (Aa (vr 0) (Aa (vr 4) (Zr [])))) (Zr [])))) (Aj 5))
  (Ab (Ao (Ae (Af (Gk k) fuel f55) (Aa (vr 5) (Aa (Ae (Af (Gk k) fuel f43) (Aa (vr 0) (Aa (dop Be (vr 4) (Zr (.int 1))) (Zr [])))) (Zr [])))) (Aj 6))
  (Ab (ifS (Fz (Ar (dop (isD true) (Ae (Af (Gk k) fuel f36) (Aa (vr 3) (Aa (vr 6) (Zr [])))) (Zr (.bl true)))) (Ar (dop (isD true) (Ae (Af (Gk k) fuel f36) (Aa (vr 3) (Aa (Ae (lamF (Gk k) "zipped") (Aa (vr 5) (Zr []))) (Zr [])))) (Zr (.bl true)))))
  (Ab (retS (Zr (.bl false)))
   Zn)
  Zn)
  (Ab (Ao (Ae (Af (Gk k) fuel f43) (Aa (vr 0) (Aa (dop Be (vr 4) (Zr (.int 2))) (Zr [])))) (Aj 7))
  (Ab (Ao (dop ixD (lstM (Aa (Zr .non) (Aa (Zr (.int 7)) (Aa (vr 5) (Aa (lstM (Zr [])) (Aa (Bg (Zr [])) (Aa (Ae O3 (Aa (vr 6) (Zr []))) (Aa (dSl (vr 6) none (some (Zr (.int 2)))) (Aa (Zr (.str "world")) (Zr [])))))))))) (dop Bd (dop Bb (vr 7) (Zr (.int 2))) (Zr (.int 8)))) (Aj 8))
  (Ab (ifS (Ar (dop eqD (dop Bd (vr 7) (Zr (.int 2))) (Zr (.int 1))))
  (Ab (Ao (Ae (Af (Gk k) fuel f66) (Aa (vr 6) (Aa (Ae (Af (Gk k) fuel f45) (Aa (dop Bb (vr 7) (Zr (.int 2))) (Aa (Zr (.int 7)) (Aa (dop Rm (Zr (.int 10)) (Zr (.int 6))) (Zr []))))) (Aa (Zr (.int 5)) (Zr []))))) (Aj 8))
   Zn)
  Zn)
  (Ab (ifS (Ar (dop neD (Ae (Af (Gk k) fuel f36) (Aa (vr 3) (Aa (vr 8) (Zr [])))) (Ae (Jh (Gk k) fuel "_law_is_pattern" f64 lm2) (Aa (vr 3) (Aa (vr 8) (Zr []))))))
  (Ab (retS (Zr (.bl false)))
   Zn)
  Zn)
  Zn))))))))
 (Ab (retS (Zr (.bl true)))
 Zn)))))
theorem Abe (k:Nat):Bq f67 k=b67 k:=by kernel_rfl
local macro_rules | `(tactic| walk_at "s") => `(tactic| with_reducible first | refine Cj ?_ | refine Rq ?_ | refine jB ?_ | refine rR ?_ | refine Ij ?_ | refine Ck ?_ | refine Ax ?_ | refine rQ ?_ | refine Dd (by with_unfolding_all rfl) ?_ | refine Dy ?_ | refine Uw ?_ | refine rO ?_ | refine zO ?_ | refine zP ?_ | refine zQ ?_ | refine zR ?_ | refine Fx ?_ | refine K9 ?_ | refine Ja ?_ | refine Ez ?_ | refine rP ?_ | refine Ep ?_ | refine Ro ?_ | refine Ho ?_ | refine Yl ?_ | refine zT ?_ | refine iY ?_ | refine Rp ?_ | refine Adu ?_ | refine iZ ?_ | refine jA ?_ | refine Gr ?_ | refine zU ?_ | refine Cw ?_ | refine zV ?_ | refine Adv ?_ | refine Aad ?_ | refine Aae ?_ | refine Ws ?_ | refine rW (by with_unfolding_all rfl) ?_ | refine rY (by with_unfolding_all rfl) ?_ | refine Aaf ?_ | refine zY ?_ | refine zX ?_ | refine rT ?_ | refine zZ ?_ | refine Aaa ?_ | refine Rt (by with_unfolding_all rfl) (by with_unfolding_all rfl) ?_)
local macro_rules | `(tactic| walk_at "r") => `(tactic| repeat walk_at "s")
theorem R4 {ds:List D}{q:Prop}(h:ds.length<=1000000) (hq:q):ds.length<=1000000/\q:=⟨h,hq⟩
theorem El {h:MH}{j:Nat}{o:MO}(e:h[j]?=some o):j < h.length:=(bf.mp e).1
theorem Ed (i:Int) {j:Int}(h:0 < j):0<=i.fmod j:=Int.fmod_nonneg_of_pos i h
theorem G3 (i:Int) {j:Int}(h:0 < j):i.fmod j < j:=Int.fmod_lt_of_pos i h
theorem Dk (i:Int) (n:Nat) (h:0 < n):∃ r:Nat,r < n/\i.fmod (n:Int)=(r:Int):=by
 have l1:=Ed i (j:=(n:Int)) (by omega);have l2:=G3 i (j:=(n:Int)) (by omega);exact ⟨(i.fmod n).toNat,by omega,by omega⟩
theorem Gf (h:MH) (ds:List D):Dn (.ref h.length) (h++[.lst ds])=some ds:=by
 show (match (h++[MO.lst ds])[h.length]? with | some (.lst o)=>some o | _=>none)=_;rw [Ah]
theorem Eb {h:MH}{j:Nat}{ds:List D}(e:h[j]?=some (.lst ds)):Dn (.ref j) h=some ds:=by
 show (match h[j]? with | some (.lst o)=>some o | _=>none)=_;rw [e]
theorem Df (n:Nat):Bv 0 n=(vg n).map Cu:=DP λx _=>by show D.int (0+(x:Int))=D.int (x:Int);rw [Int.zero_add]
theorem Dg {n:Nat}{ds:List D}{j:Nat}{mh:MH}{P:D->MH->Prop}(e1:mh[n]?=some (.lst ds)) (hj:j < ds.length) (h:∀ d∈ds,P d mh):wV (ixD (.ref n) (.int j) mh) P:=jD e1 (bw hj) (h _ (qp hj))
theorem G4 (k:Nat) (ns:List Int) (i:Nat) (mh:MH) {P:D->MH->Prop}(h:∀ v:Int,P (.int v) mh):wV (Af (Gk (k+1)) fuel f43 [.rol (ns.map D.int),.int i] mh) P:=by
 refine Aq (Aat k) jV.1 jV.2 rfl ?_;show wS (b43 k) [some (.rol (ns.map D.int)),some (.int i)] mh _;unfold b43;walk_at "r"
 refine Cd (by intro z;simp) rfl ?_;walk_at "r"
 refine Am (λhk=>?_) λhk=>?_
 ·walk_at "r"
  rw [decide_eq_true_iff,aq] at hk;have hi:i < ns.length:=by omega
  refine Aab (d:=.int ns[i]) (by rw [dj,bw hi];rfl) ?_;exact h _
 ·walk_at "r"
  exact h _
local macro_rules | `(tactic| walk_at "x0") => `(tactic| repeat (first | walk_at "s" | with_reducible refine R4 (by simp) ?_ | with_reducible refine Ms (by decide) (by decide) ?_ | with_reducible refine Fb (by first | decide | omega) ?_))
theorem aP (k j:Nat) (hj:j < 8) (v:Int) (l:Nat) (mh:MH) {P:D->MH->Prop}(h:∀ d h',Ext [] mh h'->P d h'):wV (Af (Gk (k+1)) fuel f46 [.int j,.int v,.int l] mh) P:=by
 refine Aq (Aaw k) jY.1 jY.2 rfl ?_;show wS (b46 k) [some (.int j),some (.int v),some (.int l),none,none,none,none,none] mh _;unfold b46
 walk_at "x0"
 refine Kf ((Ext.more (W:=[])).old _ _ (by simp) Ah) Ah (by simp) ?_
 walk_at "x0"
 refine Kf ((Ext.more (W:=[])).old _ _ (by simp) Ah) Ah (by simp) ?_
 walk_at "x0"
 exact Dg Ah (by simpa using hj) λd _=>h d _ ((((Ext.more.trans Ext.more).trans Ext.more).trans Ext.more).trans Ext.more)
noncomputable def IsI (h:MH) (j:Nat) (ns:List Int):Prop:=h[j]?=some (.lst (ns.map D.int))
theorem IsI.ext {h h':MH}{j:Nat}{ns:List Int}(g:IsI h j ns) (x:Ext [] h h'):IsI h' j ns:=x.old _ _ (by simp) g
theorem Dl {n:Nat}{ns:List Int}{j:Nat}{mh:MH}{P:D->MH->Prop}(g:IsI mh n ns) (hj:j < ns.length) (h:P (.int ns[j]) mh):wV (ixD (.ref n) (.int j) mh) P:=jD g (by rw [dj,bw hj];rfl) h
theorem R5 {n:Nat}{ns:List Int}{mh:MH}{P:D->MH->Prop}(g:IsI mh n ns) (h:P (.int ns.length) mh):wV (Cz [.ref n] mh) P:=Cd (by intro z z';cases z') (Eb g) (by rw [aq];exact h)
theorem aQ (k j:Nat) (hj:j < 8) (v:Int) (l c:Nat) (cs:List Int) (mh:MH) (gc:IsI mh c cs) (hc:0 < cs.length) {P:D->MH->Prop}(h:∀ d h',Ext [] mh h'->P d h'):wV (Af (Gk (k+1)) fuel f47 [.int j,.int v,.int l,.ref c] mh) P:=by
 refine Aq (Aax k) jZ.1 jZ.2 rfl ?_;show wS (b47 k) [some (.int j),some (.int v),some (.int l),some (.ref c),none,none,none,none,none] mh _;unfold b47
 walk_at "x0"
 refine R5 gc ?_;obtain ⟨r,hr,er⟩:=Dk (v.fdiv 12078) cs.length hc;refine Fb (by omega) ?_;rw [er]
 walk_at "x0"
 refine Kf ((Ext.more (W:=[])).old _ _ (by simp) Ah) Ah (by simp) ?_
 walk_at "x0"
 have fin:∀ {a b c:MO},Ext [] mh (mh++[a]++[b]++[c]):=λ{a b c}=>(Ext.more.trans Ext.more).trans Ext.more
 refine Am (λe=>?_) λe=>?_
 ·walk_at "x0"
  refine Dl (gc.ext fin) hr ?_
  walk_at "x0"
  refine Am (λe=>?_) λe=>?_
  ·walk_at "x0"
   exact h _ _ fin
  ·walk_at "x0"
   exact Dg Ah (by simpa using hj) λd _=>h d _ fin
 ·walk_at "x0"
  exact Dg Ah (by simpa using hj) λd _=>h d _ fin
theorem lU (k:Nat) (v:Int) (l c:Nat) (cs:List Int) (mh:MH) (gc:IsI mh c cs) (hc:0 < cs.length) {P:D->MH->Prop}(h:∀ d h',Ext [] mh h'->P d h'):wV (Af (Gk (k+2)) fuel f48 [.int v,.int l,.ref c] mh) P:=by
 obtain ⟨r,hr,er⟩:=Dk v 22 (by decide);have er:v.fmod 22=(r:Int):=er;refine Aq (Aay (k+1)) kE.1 kE.2 rfl ?_;show wS (b48 (k+1)) [some (.int v),some (.int l),some (.ref c),none,none,none,none,none] mh _;unfold b48
 walk_at "x0"
 rw [er]
 walk_at "x0"
 refine Am (λe=>?_) λe=>?_
 ·walk_at "x0"
  rw [decide_eq_true_iff] at e;exact aP k r (by omega) v l mh h
 ·walk_at "x0"
  rw [decide_eq_false_iff_not] at e;refine Am (λe2=>?_) λe2=>?_
  ·walk_at "x0"
   rw [decide_eq_true_iff] at e2;have e8:(r:Int) - 8=((r - 8:Nat):Int):=by omega
   rw [e8];exact aQ k (r - 8) (by omega) v l c cs mh gc hc h
  ·walk_at "x0"
   refine Am (λe3=>?_) λe3=>?_
   ·walk_at "x0"
    exact h _ _ Ext.refl
   ·walk_at "x0"
    refine Am (λe4=>?_) λe4=>?_
    ·walk_at "x0"
     exact h _ _ Ext.refl
    ·walk_at "x0"
     obtain ⟨q,hq,eq⟩:=Dk (v.fdiv 198) 3 (by decide);have eq:(v.fdiv 198).fmod 3=(q:Int):=eq;refine Am (λe5=>?_) λe5=>?_
     ·walk_at "x0"
      refine Kg (by simp) ?_
      walk_at "x0"
      rw [eq];refine Dg Ah (by simpa using hq) λd _=>?_
      walk_at "x0"
      exact h _ _ Ext.more
     ·walk_at "x0"
      rw [eq];refine Dg Ah (by simpa using hq) λd _=>?_
      walk_at "x0"
      exact h _ _ Ext.more
theorem eq_nil {a b:Nat}{ds:List D}{mh:MH}{P:D->MH->Prop}(e1:mh[a]?=some (.lst (ds))) (e2:mh[b]?=some (.lst [])) (hd:∃ ns:List Int,ds=ns.map D.int) (h:P (.bl ds.isEmpty) mh):wV (eqD (.ref a) (.ref b) mh) P:=by
 obtain ⟨ns,rfl⟩:=hd;have hp:∀ ns:List Int,Gx (py mh 59) (ns.map D.int)=some (ns.map PyData.int):=λns=>by
  induction ns with
  | nil=>rfl
  | cons n r ih=>simp only [mq,Gx,ih];rfl
 have p1:py mh 60 (.ref a)=some (.list (ns.map PyData.int)):=by
  show (match mh[a]? with | some (.lst o)=>(match Gx (py mh 59) o with | some xs=>some (PyData.list xs) | none=>none) | _=>none)=_;rw [e1];dsimp only;rw [hp]
 have p2:py mh 60 (.ref b)=some (.list []):=by
  show (match mh[b]? with | some (.lst o)=>(match Gx (py mh 59) o with | some xs=>some (PyData.list xs) | none=>none) | _=>none)=_;rw [e2];rfl
 refine uI (k:=(ns.map D.int).isEmpty) ?_ h;unfold eqB;rw [p1,p2];cases ns <;> rfl
theorem lV (k:Nat) (v:Int) (r c:Nat) (cs:List Int) (mh:MH) (gc:IsI mh c cs) (hl:cs.length<=1000) {P:D->MH->Prop}(h:∀ d h',Ext [] mh h'->P d h'):wV (Af (Gk (k+1)) fuel f49 [.int v,.int r,.ref c] mh) P:=by
 refine Aq (Aaz k) kI.1 kI.2 rfl ?_;show wS (b49 k) [some (.int v),some (.int r),some (.ref c),none,none] mh _;unfold b49
 walk_at "x0"
 refine Dz ?_
 walk_at "x0"
 refine R5 (gc.ext Ext.more) ?_
 walk_at "x0"
 refine ⟨_,Ew (by omega),Bv 0 cs.length,λi l h=>∃ (x:Option D) (ns:List Int),l=[some (.int v),some (.int r),some (.ref c),some (.ref mh.length),x]/\ns.length<=i/\h[mh.length]?=some (.lst (ns.map D.int))/\Ext [] mh h,⟨none,[],rfl,cg _,Ah,Ext.more⟩,λ_ _ _ _=>⟨rfl,rfl⟩,?_,?_⟩
 ·rintro i d l h' ed ⟨x,ns,rfl,hn,g,y⟩;have li:=(bf.mp ed).1;rw [Az] at li;rw [Df] at ed;obtain ⟨i',hi',rfl⟩:=gj.mp (di ed)
  walk_at "x0"
  refine Dl (gc.ext y) (DQ.mp hi') ?_
  walk_at "x0"
  refine Ls (d:=.int (if (((i':Int))==(r:Int)) then 1 else 0)) (h:=h') rfl ?_
  walk_at "x0"
  refine Am (λe=>?_) λe=>?_
  ·walk_at "x0"
   refine ⟨ty_list g,?_⟩
   walk_at "x0"
   refine Cr g (by rw [aq];omega) ?_
   walk_at "x0"
   exact ⟨_,ns++[(i':Int)],rfl,by rw [bh,um];omega,by rw [Ek g,jb];rfl,y.setNew (cg _)⟩
  ·walk_at "x0"
   exact ⟨_,ns,rfl,by omega,g,y⟩
 ·rintro l h' ⟨x,ns,rfl,hn,g,y⟩
  walk_at "x0"
  refine eq_nil ((Ext.more (W:=[])).old _ _ (by simp) g) Ah ⟨ns,rfl⟩ ?_
  walk_at "x0"
  refine Am (λe=>?_) λe=>?_
  ·walk_at "x0"
   exact h _ _ (y.trans Ext.more)
  ·walk_at "x0"
   have hp:0 < ns.length:=by
    cases ns with
    | nil=>cases e
    | cons a r=>simp
   have g2:IsI (h'++[.lst []]) mh.length ns:=(Ext.more (W:=[])).old _ _ (by simp) g;refine R5 g2 ?_;obtain ⟨q,hq,eq⟩:=Dk v ns.length hp;refine Fb (by omega) ?_;rw [eq];refine Dl g2 hq ?_
   walk_at "x0"
   exact h _ _ (y.trans Ext.more)
theorem aR (k:Nat) (c i:Int) (mh:MH) {P:D->MH->Prop}(h:∀ v:Int,0<=v->v < 2147483647->P (.int v) mh):wV (Af (Gk (k+1)) fuel f44 [.int c,.int i] mh) P:=by
 refine Aq (Aau k) jW.1 jW.2 rfl ?_;show wS (b44 k) [some (.int c),some (.int i),none] mh _;unfold b44;walk_at "r"
 refine Fb (by decide) ?_;walk_at "r"
 refine Ea (.inl ⟨by decide,by decide⟩) ?_;walk_at "r"
 refine Ea (.inr ⟨by decide,by decide⟩) ?_;walk_at "r"
 refine Fb (by decide) ?_;generalize ((c.fmod 2147483647+7919 * i+1) * 48271)=y;have l1:=Ed y (j:=2147483647) (by decide);have l2:=G3 y (j:=2147483647) (by decide);generalize y.fmod 2147483647=z at l1 l2;walk_at "r"
 refine Ms (by decide) (by decide) ?_;walk_at "r"
 refine Ea (.inl ⟨by omega,by omega⟩) ?_;walk_at "r"
 refine Fb (by decide) ?_;exact h _ (Ed _ (by decide)) (G3 _ (by decide))
theorem Jb (k:Nat) (c:Int) (n:Nat) (hn:n<=1000) (B:Int) (hB:0 < B) (hB2:B<=1000000) (mh:MH) {P:D->MH->Prop}(h:∀ (vs:List Int) (j:Nat) (h':MH),vs.length=n->(∀ v∈vs,0<=v/\v < 2147483647)->Ext [] mh h'->h'[j]?=some (.lst (vs.map D.int))->mh.length<=j->P (.ref j) h') :
  wV (Af (Gk (k+2)) fuel f45 [.int c,.int n,.int B] mh) P:=by
 refine Aq (Aav (k+1)) jX.1 jX.2 rfl ?_;show wS (b45 (k+1)) [some (.int c),some (.int n),some (.int B),none,none,none,none] mh _;unfold b45
 walk_at "x0"
 refine Dz ?_;walk_at "r"
 refine ⟨_,Ew (by omega),Bv 0 n,λi l h=>∃ (r:Int) (x5 x6:Option D) (vs:List Int),l=[some (.int c),some (.int n),some (.int B),some (.ref mh.length),some (.int r),x5,x6]/\vs.length=i/\(∀ v∈vs,0<=v/\v < 2147483647)/\h[mh.length]?=some (.lst (vs.map D.int))/\Ext [] mh h,
  ⟨_,none,none,[],rfl,rfl,λ_ z=>absurd z (by simp),Ah,Ext.more⟩,λ_ _ _ _=>⟨rfl,rfl⟩,?_,?_⟩
 ·rintro i d l h ed ⟨r,x5,x6,vs,rfl,hl,hv,g,x⟩;have li:=(bf.mp ed).1;rw [Az] at li;rw [Df] at ed;obtain ⟨i',_,rfl⟩:=gj.mp (di ed);have add:∀ (v r:Int) (x5 x6:Option D),0<=v/\v < 2147483647->∃ (r':Int) (x5' x6':Option D) (vs':List Int),[some (D.int c),some (D.int n),some (D.int B),some (D.ref mh.length),some (D.int r),x5,x6]=[some (D.int c),some (D.int n),some (D.int B),some (D.ref mh.length),some (D.int r'),x5',x6']/\vs'.length=i+1/\(∀ v∈vs',0<=v/\v < 2147483647)/\(h.set mh.length (.lst (vs.map D.int++[.int v])))[mh.length]?=some (.lst (vs'.map D.int))/\Ext [] mh (h.set mh.length (.lst (vs.map D.int++[.int v]))):=λv r x5 x6 h0=>by
   refine ⟨r,x5,x6,vs++[v],rfl,by rw [bh,hl];rfl,λw hw=>?_,?_,x.setNew (cg _)⟩
   ·rcases jl.mp hw with z|z
    ·exact hv w z
    ·rw [jg.mp z];exact h0
   ·rw [Ek g,jb];rfl
  have mixed:wS (Ab (Ao (Ae (Af (Gk (k+1)) fuel f44) (Aa (vr 0) (Aa (vr 5) (Zr [])))) (Aj 6))
   (Ab (Dp (Bo "list" Bs (vr 3) (Aa (dop Bd (dop Ii (vr 6) (dop Be (dop Bb (vr 6) (Zr (.int 613))) (Zr (.int 40692)))) (Zr (.int 2147483399))) (Zr []))))
   Zn)) [some (.int c),some (.int n),some (.int B),some (.ref mh.length),some (.int r),some (Cu i'),x6] h λf l h'=>f=.nx/\∃ (r:Int) (x5 x6:Option D) (vs:List Int),l=[some (.int c),some (.int n),some (.int B),some (.ref mh.length),some (.int r),x5,x6]/\vs.length=i+1/\(∀ v∈vs,0<=v/\v < 2147483647)/\h'[mh.length]?=some (.lst (vs.map D.int))/\Ext [] mh h':=by
   walk_at "r"
   refine aR k _ _ _ λw w1 w2=>?_
   walk_at "r"
   refine ⟨ty_list g,?_⟩;walk_at "r"
   refine Ms (by decide) (by decide) ?_;walk_at "r"
   refine Ea (.inl ⟨by omega,by omega⟩) ?_;walk_at "r"
   refine Fb (by decide) ?_;walk_at "r"
   refine Cr g (by rw [aq];omega) ?_;walk_at "r"
   exact ⟨rfl,add _ _ _ _ ⟨Ed _ (by decide),Int.lt_trans (G3 _ (by decide)) (by decide)⟩⟩
  have mixed':=Mr mixed (Q:=seqK Zn (zW (λl h=>∃ (r:Int) (x5 x6:Option D) (vs:List Int),l=[some (D.int c),some (D.int n),some (D.int B),some (D.ref mh.length),some (D.int r),x5,x6]/\vs.length=i+1/\(∀ v∈vs,0<=v/\v < 2147483647)/\h[mh.length]?=some (.lst (vs.map D.int))/\Ext [] mh h) (seqK (Ab (retS (vr 3)) Zn) (Ux P)))) (by
   rintro f l h' ⟨rfl,q⟩
   exact Ax (Ck q))
  walk_at "r"
  refine Fb (by decide) ?_;walk_at "r"
  refine Am (λe1=>?_) λe1=>?_
  ·walk_at "r"
   refine Am (λe2=>?_) λe2=>?_
   ·walk_at "r"
    refine ⟨ty_list g,?_⟩;walk_at "r"
    refine Fb (by omega) ?_;walk_at "r"
    refine Cr g (by rw [aq];omega) ?_;walk_at "r"
    refine Ms (by omega) (by omega) ?_;walk_at "r"
    exact add _ _ _ _ ⟨Ed _ hB,by have:=G3 r hB;omega⟩
   ·exact mixed'
  ·exact Ws mixed'
 ·rintro l h2 ⟨r,x5,x6,vs,rfl,hl,hv,g,x⟩;rw [Az] at hl;walk_at "r"
  exact h vs _ _ hl hv x g (cg _)
theorem sH {lo hi:Option Int}(ns:List Int):DL.cutD (ns.map D.int) lo hi=(DL.cutD ns lo hi).map D.int:=by
 unfold DL.cutD;rw [aq,← List.map_drop,← List.map_take]
theorem Mt {lo hi:Option Int}{ns:List Int}{v:Int}(h:v∈DL.cutD ns lo hi):v∈ns:=MK (CV h)
theorem Jd {a b:Nat}{ns:List Int}(h1:a<=b) (h2:b<=ns.length):(DL.cutD ns (some (a:Int)) (some (b:Int))).length=b - a:=by
 unfold DL.cutD;rw [HT.sIx_nat,HT.sIx_nat,jj,vy];omega
theorem lW {b:Nat}{ns:List Int}(h2:b<=ns.length):(DL.cutD ns none (some (b:Int))).length=b:=by
 unfold DL.cutD;rw [HT.sIx_nat,HT.sIx_none,jj,vy];omega
theorem Im {n:Nat}{ns:List Int}{lo hi:Option Int}{mh:MH}{P:D->MH->Prop}(g:IsI mh n ns) (h:P (.ref mh.length) (mh++[.lst ((DL.cutD ns lo hi).map D.int)])):wV (slD (.ref n) lo hi mh) P:=by
 refine ⟨_,_,?_,h⟩;show (match mh[n]? with | some (.lst o)=>some (D.ref mh.length,mh++[MO.lst (DL.cutD o lo hi)]) | _=>none)=_;rw [g];dsimp only;rw [sH]
theorem Wz:(10:Int) ^ (6:Int).toNat=1000000:=by decide +kernel
theorem U0 {mi:DM Src}{cs:List (Option Nat)}{g:GM}{tc:DM Bool}{me:DM D}{loc:DL.Loc}{mh:MH}{Q:D->MH->Prop}(h:wD mi loc mh λsrc h0=>∃ n ds,∃ (p:D->Bool) (f:D->D),src=.lref n/\h0[n]?=some (.lst ds)/\ds.length<=1000000 /\
  (∀ d∈ds,∃ l1,g d (Hv cs loc) h0=some (l1,h0)/\tc l1 h0=some (p d,h0)/\(p d=true->me l1 h0=some (f d,h0)))/\Q (.ref h0.length) (h0++[.lst ((ds.filter p).map f)])):wD (Bj mi cs g tc me) loc mh Q:=by
 obtain ⟨src,h0,e,n,ds,p,f,rfl,hn,hz,step,q⟩:=h;exact ⟨_,_,aK e hn (le_size hz) step,q⟩
theorem filter_all {l:List D}:l.filter (λ_=>true)=l:=NZ.mpr λ_ _=>rfl
theorem lX {n:Nat}{ns:List Int}{mh:MH}{P:D->MH->Prop}(e:mh[n]?=some (.lst (ns.map D.int))) (hz:ns.length < 64) (h:P (.ref mh.length) (mh++[.lst ((sortI ns).map D.int)])):wV (Di [.ref n] mh) P:=by
 first | exact Uy e hz h | (have e1:Di [.ref n] mh=Di [.ref n] mh:=(by unfold Di;simp only [e,Fv];rw [if_neg (by omega)];unfold Di;simp only [e];unfold sortedC;simp only [e]);rw [e1];exact Uy e hz h)
noncomputable def Lx (room c0 c1:Int) (parts:List (List D)) (plays:List Nat):D:=.tup [.int room,.tup [.int c0,.int c1],.tup (parts.map D.tup),.tup (plays.map Cu)]
noncomputable def nats (ns:List Nat):List Int:=ns.map λn:Nat=>(n:Int)
theorem lY (ns:List Nat):(nats ns).map D.int=ns.map Cu:=by unfold nats;rw [kh];rfl
theorem U3 (k:Nat) (cell:Int) {H R L:Nat}(h1:1<=H) (h6:H<=6) (r1:1<=R) (r3:R<=3) (l60:L<=60) (mh:MH) {P:D->MH->Prop}
  (h:∀ (room c0 c1:Int) (parts:List (List D)) (plays:List Nat) (h':MH),1<=room->room<=2->0<=c0->0<=c1->parts.length=R->plays.length=H->(∀ p∈plays,p < R)->Ext [] mh h'->P (Lx room c0 c1 parts plays) h') :
  wV (Af (Gk (k+3)) fuel f50 [.int cell,.int H,.int R,.int L] mh) P:=by
 refine Aq (Aa0 (k+2)) kJ.1 kJ.2 rfl ?_;show wS (b50 (k+2)) [some (.int cell),some (.int H),some (.int R),some (.int L),none,none,none,none,none,none,none,none,none,none] mh _;unfold b50
 walk_at "x0"
 refine Ea (.inl ⟨by omega,by omega⟩) ?_
 walk_at "x0"
 refine Js (by decide) (by decide) (by decide) ?_;rw [Wz]
 walk_at "x0"
 have eN:(3:Int)+(H:Int)+(R:Int) * ((L:Int)+1)=((3+H+R * (L+1):Nat):Int):=by push_cast;rfl
 rw [eN];have bN:R * (L+1)<=3 * 61:=EY r3 (by omega);refine Jb (k) cell (3+H+R * (L+1)) (by omega) 1000000 (by decide) (by decide) mh λvs jd m1 lv pv x1 g1 _=>?_
 have g1:IsI m1 jd vs:=g1
 walk_at "x0"
 refine U0 ?_
 walk_at "x0"
 refine Im g1 ?_;have eH:(3:Int)+(H:Int)=((3+H:Nat):Int):=by push_cast;rfl
 rw [eH];have lc:(DL.cutD vs (some ((3:Nat):Int)) (some ((3+H:Nat):Int))).length=H:=by rw [Jd (by omega) (by omega)];omega
 generalize hq:(DL.cutD vs (some (3:Int)) (some ((3+H:Nat):Int)))=cv;have lc:cv.length=H:=by rw [← hq];exact lc
 refine ⟨_,src_list Ah,_,_,λ_=>true,λd=>match d with | .int v=>.int (v.fmod R) | _=>.non,rfl,Ah,by rw [aq];omega,λd hd=>?_,?_⟩
 ·obtain ⟨v,_,rfl⟩:=gj.mp hd;refine ⟨_,rfl,rfl,λ_=>?_⟩;show dop Bd (vr 1) (vr 2) _ _=_;rw [zN];show iop _ _ (.int v) (.int R) _=_;rw [iQ,if_pos (decide_eq_true (by omega))]
 rw [filter_all,kh];have eq1:cv.map ((λd=>match d with | .int v=>D.int (v.fmod R) | _=>.non) ∘ D.int)=(nats (cv.map λv=>(v.fmod R).toNat)).map D.int:=by
  unfold nats;rw [kh,kh];refine DP λv _=>?_
  show D.int (v.fmod R)=D.int (((v.fmod R).toNat:Nat):Int);have:=Ed v (j:=(R:Int)) (by omega);rw [Int.toNat_of_nonneg this]
 rw [eq1]
 walk_at "x0"
 refine lX (ns:=nats (cv.map λv=>(v.fmod R).toNat)) Ah (by unfold nats;rw [aq,aq];omega) ?_;obtain ⟨pl,e1,e2,e3⟩:=Wt (cv.map λv=>(v.fmod R).toNat);have e1:(sortI (nats (cv.map λv=>(v.fmod R).toNat))).map D.int=(nats pl).map D.int:=by rw [lY];exact e1
 rw [e1];have lp:pl.length=H:=by rw [e2,aq];exact lc
 have hp:∀ p∈pl,p < R:=λp hpm=>by
  obtain ⟨v,_,rfl⟩:=gj.mp (e3 p hpm);have a:=Ed v (j:=(R:Int)) (by omega);have b:=G3 v (j:=(R:Int)) (by omega);omega
 generalize hm2:m1++[MO.lst (cv.map D.int)]++[MO.lst ((nats (cv.map λv=>(v.fmod R).toNat)).map D.int)]++[MO.lst ((nats pl).map D.int)]=m2;have x2:Ext [] m1 m2:=by rw [← hm2];exact (Ext.more.trans Ext.more).trans Ext.more
 have gp:IsI m2 (m1++[MO.lst (cv.map D.int)]++[MO.lst ((nats (cv.map λv=>(v.fmod R).toNat)).map D.int)]).length (nats pl):=by rw [← hm2];exact Ah
 generalize hjp:(m1++[MO.lst (cv.map D.int)]++[MO.lst ((nats (cv.map λv=>(v.fmod R).toNat)).map D.int)]).length=jp at gp
 walk_at "x0"
 refine Hq ?_
 walk_at "x0"
 refine ⟨_,Ew (by omega),Bv 0 R,λi acc h=>∃ cs:List Int,acc=cs.map D.int/\cs.length=i/\h=m2,by rw [Az];omega,⟨[],rfl,rfl,rfl⟩,λ_ _ _ _=>⟨rfl,rfl⟩,?_,?_,?_⟩
 ·rintro i acc h ⟨cs,rfl,hl,_⟩;rw [aq,hl];exact cg _
 ·rintro i d acc h ed ⟨cs,rfl,hl,rfl⟩;rw [Df] at ed;obtain ⟨i',hi',rfl⟩:=gj.mp (di ed)
  walk_at "x0"
  refine Aac ?_
  walk_at "x0"
  refine .inr ⟨rfl,ty_list gp,?_⟩
  walk_at "x0"
  refine Ls (d:=.int ((nats pl).countP (·==(i':Int)):Nat)) (h:=h) ?_ ?_
  ·have gp':h[jp]?=some (.lst ((nats pl).map D.int)):=gp;show Zv (.ref jp) [.int i'] h=_;simp only [Zv,gp',Fv]
  ·exact ⟨cs++[_],by rw [jb];rfl,by rw [bh,hl];rfl,rfl⟩
 rintro acc h0 ⟨cs,rfl,lcs,rfl⟩;rw [Az] at lcs
 walk_at "x0"
 generalize hm3:h0++[MO.lst (cs.map D.int)]=m3;have x3:Ext [] h0 m3:=by rw [← hm3];exact Ext.more
 have gc:IsI m3 h0.length cs:=by rw [← hm3];exact Ah
 refine Dz ?_
 walk_at "x0"
 refine ⟨_,Ew (by omega),Bv 0 R,λi l h=>∃ (x6 x9 x10 x11 x12 x13:Option D) (ps:List (List D)),l=[some (.int cell),some (.int H),some (.int R),some (.int L),some (.ref jd),some (.ref jp),x6,some (.ref h0.length),some (.ref m3.length),x9,x10,x11,x12,x13]/\ps.length=i/\h[m3.length]?=some (.lst (ps.map D.tup))/\Ext [] m3 h,
  ⟨none,none,none,none,none,none,[],rfl,rfl,Ah,Ext.more⟩,λ_ _ _ _=>⟨rfl,rfl⟩,?_,?_⟩
 ·rintro i d l h4 ed ⟨x6,x9,x10,x11,x12,x13,ps,rfl,lps,g4,x4⟩;have li:=(bf.mp ed).1;rw [Az] at li;rw [Df] at ed;obtain ⟨i',hi',rfl⟩:=gj.mp (di ed);have hi':=DQ.mp hi';have gd4:IsI h4 jd vs:=((g1.ext x2).ext x3).ext x4;have gc4:IsI h4 h0.length cs:=gc.ext x4
  walk_at "x0"
  refine Ea (.inl ⟨by omega,by omega⟩) ?_
  walk_at "x0"
  have eA:(3:Int)+(H:Int)+(i':Int) * ((L:Int)+1)=((3+H+i' * (L+1):Nat):Int):=by push_cast;rfl
  rw [eA];have bA:i' * (L+1)+(L+1)<=R * (L+1):=by
   have:(i'+1) * (L+1)<=R * (L+1):=CW _ hi';rw [yp] at this;omega
  generalize hA:3+H+i' * (L+1)=A at *;have eA2:(A:Int)+(L:Int)+1=((A+L+1:Nat):Int):=by push_cast;rfl
  rw [eA2];refine Im gd4 ?_;have lo:(DL.cutD vs (some (A:Int)) (some ((A+L+1:Nat):Int))).length=L+1:=by rw [Jd (by omega) (by omega)];omega
  generalize hov:DL.cutD vs (some (A:Int)) (some ((A+L+1:Nat):Int))=ov at lo
  walk_at "x0"
  refine Dl (ns:=ov) (j:=L) Ah (by omega) ?_;obtain ⟨n,hn,en⟩:=Dk (ov[L]'(by omega)) (L+1) (by omega);have en:(ov[L]'(by omega)).fmod ((L:Int)+1)=(n:Int):=by rw [← en];push_cast;rfl
  walk_at "x0"
  rw [en]
  walk_at "x0"
  generalize hm5:h4++[MO.lst (ov.map D.int)]=m5;have x5:Ext [] h4 m5:=by rw [← hm5];exact Ext.more
  have go:IsI m5 h4.length ov:=by rw [← hm5];exact Ah
  refine Hq ?_
  walk_at "x0"
  refine Im go ?_;have ls:(DL.cutD ov none (some (n:Int))).length=n:=lW (by omega);generalize hsv:DL.cutD ov none (some (n:Int))=sv at ls;refine ⟨_,src_list Ah,sv.map D.int,λi acc h=>acc.length=i/\Ext [] (m5++[MO.lst (sv.map D.int)]) h,by rw [aq];omega,⟨rfl,Ext.refl⟩,?_,?_,?_,?_⟩
  ·rintro j acc h ⟨_,y⟩;exact La (y.old _ _ (by simp) Ah)
  ·rintro j acc h ⟨hl,_⟩;omega
  ·rintro j d acc h ed ⟨hl,y⟩;obtain ⟨v,_,rfl⟩:=gj.mp (di ed)
   walk_at "x0"
   refine lU k v n h0.length cs h (((gc4.ext x5).ext Ext.more).ext y) (by omega) λd h' y'=>?_
   exact ⟨by rw [bh,hl];rfl,y.trans y'⟩
  rintro acc h6 ⟨lacc,x6'⟩;rw [aq,ls] at lacc
  walk_at "x0"
  have xx:Ext [] h4 h6:=(x5.trans Ext.more).trans x6';have fin:∀ (st:List D) (h7:MH) (y7:Ext [h6.length] (h6++[MO.lst acc]) h7) (g7:h7[h6.length]?=some (.lst st)) (x6 x9 x10 x11 x13:Option D),st.length<=1000000 ->
   wS (Ab (Dp (Bo "list" Bs (vr 8) (Aa (Ae Bh (Aa (vr 12) (Zr []))) (Zr [])))) Zn) [some (.int cell),some (.int H),some (.int R),some (.int L),some (.ref jd),some (.ref jp),x6,some (.ref h0.length),some (.ref m3.length),x9,x10,x11,some (.ref h6.length),x13] h7
    λf l h=>f=.nx/\∃ (x6 x9 x10 x11 x12 x13:Option D) (ps:List (List D)),l=[some (.int cell),some (.int H),some (.int R),some (.int L),some (.ref jd),some (.ref jp),x6,some (.ref h0.length),some (.ref m3.length),x9,x10,x11,x12,x13]/\ps.length=i+1/\h[m3.length]?=some (.lst (ps.map D.tup))/\Ext [] m3 h:=λst h7 y7 g7 x6 x9 x10 x11 x13 hst=>by
   have nm:m3.length ∉ [h6.length]:=by
    have:=El g4;have:=xx.len;simp;omega
   have g8:h7[m3.length]?=some (.lst (ps.map D.tup)):=y7.old _ _ nm ((xx.trans Ext.more).old _ _ (by simp) g4)
   have x8:Ext [] m3 h7:=⟨ig ((x4.trans xx).trans Ext.more).len y7.len,λi o _ e=>y7.old i o (by
    have a:=El e;have b:=(x4.trans xx).len
    simp;omega) (((x4.trans xx).trans Ext.more).old i o (by simp) e)⟩
   walk_at "x0"
   refine ⟨ty_list g8,?_⟩
   walk_at "x0"
   refine Bk (Eb g7) ?_
   walk_at "x0"
   refine Cr g8 (by rw [aq];omega) ?_
   walk_at "x0"
   exact ⟨rfl,_,_,_,_,_,_,ps++[st],rfl,by rw [bh,lps];rfl,by rw [Ek g8,jb];rfl,x8.setNew (cg _)⟩
  have fin':∀ (st:List D) (h7:MH) (y7:Ext [h6.length] (h6++[MO.lst acc]) h7) (g7:h7[h6.length]?=some (.lst st)) (x6 x9 x10 x11 x13:Option D) (hst:st.length<=1000000) {Q:Fl->DL.Loc->MH->Prop},_->_:=λst h7 y7 g7 x6 x9 x10 x11 x13 hst {Q} (q:∀ l h,(∃ (x6 x9 x10 x11 x12 x13:Option D) (ps:List (List D)),l=[some (D.int cell),some (.int H),some (.int R),some (.int L),some (.ref jd),some (.ref jp),x6,some (.ref h0.length),some (.ref m3.length),x9,x10,x11,x12,x13]/\ps.length=i+1/\h[m3.length]?=some (MO.lst (ps.map D.tup))/\Ext [] m3 h)->Q .nx l h)=>Mr (Q:=Q) (fin st h7 y7 g7 x6 x9 x10 x11 x13 hst) (by
   rintro f l h ⟨rfl,z⟩
   exact q l h z)
  refine Am (λe=>?_) λe=>?_
  ·walk_at "x0"
   refine Dl (ns:=ov) (j:=L) ((go.ext (Ext.more.trans x6')).ext Ext.more) (by omega) ?_
   walk_at "x0"
   refine Am (λe2=>?_) λe2=>?_
   ·walk_at "x0"
    have hpos:0 < n:=by rw [decide_eq_true_iff] at e;omega
    refine Dl (ns:=ov) (j:=0) ((go.ext (Ext.more.trans x6')).ext Ext.more) (by omega) ?_
    walk_at "x0"
    refine lV (k+1) _ i' h0.length cs _ ((gc4.ext xx).ext Ext.more) (by omega) λd h7 y7=>?_
    walk_at "x0"
    have g7:=y7.old _ _ (by simp) (Ah (a:=h6) (o:=.lst acc));refine ⟨_,jC (k:=0) g7 (by omega),?_⟩;refine Ax (Ck (Ax (fin' (acc.set 0 d) _ ⟨by rw [iw];exact y7.len,λi o hi e=>?_⟩ (Ek g7) _ _ _ _ _ (by rw [iw];omega) λl h z=>z)));rw [gk (λz=>hi (by simp [z]))];exact y7.old i o (by simp) e
   ·exact Ck (Ax (fin' acc _ Ext.refl Ah _ _ _ _ _ (by omega) λl h z=>z))
  ·exact Ws (Ck (Ax (fin' acc _ Ext.refl Ah _ _ _ _ _ (by omega) λl h z=>z)))
 ·rintro l h4 ⟨x6,x9,x10,x11,x12,x13,ps,rfl,lps,g4,x4⟩;rw [Az] at lps;have gd4:IsI h4 jd vs:=((g1.ext x2).ext x3).ext x4;have gp4:IsI h4 jp (nats pl):=(gp.ext x3).ext x4
  walk_at "x0"
  refine Dl gd4 (j:=1) (by omega) ?_
  walk_at "x0"
  refine Dl gd4 (j:=2) (by omega) ?_
  walk_at "x0"
  refine Dl gd4 (j:=0) (by omega) ?_
  walk_at "x0"
  refine Bk (Eb g4) ?_
  walk_at "x0"
  refine Bk (Eb gp4) ?_
  walk_at "x0"
  rw [lY];refine h _ _ _ ps pl h4 ?_ ?_ ?_ ?_ lps lp hp (((x1.trans x2).trans x3).trans x4)
  ·have:=Ed (vs[0]'(by omega)) (j:=2) (by decide);omega
  ·have:=G3 (vs[0]'(by omega)) (j:=2) (by decide);omega
  ·exact JL (Ed _ (by decide)) (by decide)
  ·exact JL (Ed _ (by decide)) (by decide)
theorem N5 (k:Nat) (v:Int) (h0:0<=v) (h1:v < 2147483647) (mh:MH) {P:D->MH->Prop}(h:∀ w h',Ext [] mh h'->P (.int w) h'):wV (Af (Gk (k+1)) fuel f51 [.int v] mh) P:=by
 refine Aq (Aa1 k) kO.1 kO.2 rfl ?_;show wS (b51 k) [some (.int v)] mh _;unfold b51
 walk_at "x0"
 refine Js (by decide) (by decide) (by decide) ?_;refine Ea (.inl ⟨by decide,by decide⟩) ?_
 walk_at "x0"
 refine Js (by decide) (by decide) (by omega) ?_
 walk_at "x0"
 refine Js (by decide) (by decide) (by decide) ?_
 walk_at "x0"
 obtain ⟨r,hr,er⟩:=Dk (v.fdiv 7) 4 (by decide);have er:(v.fdiv 7).fmod 4=(r:Int):=er;rw [er];refine Dg Ah (by simpa using hr) λd hd=>?_
 simp only [dg,jh,or_false] at hd;rcases hd with rfl | rfl | rfl | rfl <;> exact h _ _ Ext.more
noncomputable def lZ (H:Int) (z:Int×Int×Int):Prop:=(1<=z.1/\z.1<=12)/\-1<=z.2.2/\z.2.2<=H - 1
noncomputable def sI (z:Int×Int×Int):D:=.tup [.int z.1,.int z.2.1,.int z.2.2]
theorem U4 (k jd:Nat) (vs:List Int) (room H:Int) (hr:1<=room) (hH:1<=H) (mh:MH) (g:IsI mh jd vs) (l0:0 < vs.length) (l1:vs.length<=1000) (pv:∀ v∈vs,0<=v/\v < 2147483647) {P:D->MH->Prop}(h:∀ (ls:List (Int×Int×Int)) h',ls.length<=vs.length->(∀ z∈ls,lZ H z)->Ext [] mh h'->P (.tup (ls.map sI)) h') :
  wV (Af (Gk (k+2)) fuel f52 [.ref jd,.int room,.int H] mh) P:=by
 refine Aq (Aa2 (k+1)) kW.1 kW.2 rfl ?_;show wS (b52 (k+1)) [some (.ref jd),some (.int room),some (.int H),none,none] mh _;unfold b52
 walk_at "x0"
 refine Dz ?_
 walk_at "x0"
 refine Dl (g.ext Ext.more) (j:=0) l0 ?_
 walk_at "x0"
 refine Im (g.ext Ext.more) ?_;generalize hc:DL.cutD vs none (some (((vs[0]'l0).fdiv 4096).fmod (room+1)))=cv;have pc:∀ v∈cv,0<=v/\v < 2147483647:=λv hv=>pv v (Mt (by rw [hc];exact hv))
 have lc:cv.length<=vs.length:=by
  rw [← hc];unfold DL.cutD;rw [jj,vy];omega
 have ne:mh.length≠(mh++[MO.lst []]).length:=by rw [bh];simp
 refine ⟨_,src_list Ah,cv.map D.int,λi l h=>∃ (x:Option D) (ls:List (Int×Int×Int)),l=[some (.ref jd),some (.int room),some (.int H),some (.ref mh.length),x]/\(ls.length=i/\∀ z∈ls,lZ H z)/\h[mh.length]?=some (.lst (ls.map sI))/\h[(mh++[MO.lst []]).length]?=some (.lst (cv.map D.int))/\Ext [] mh h,
  ⟨none,[],rfl,⟨rfl,λ_ z=>absurd z (by simp)⟩,(Ext.more (W:=[])).old _ _ (by simp) Ah,Ah,Ext.more.trans Ext.more⟩,?_,?_,?_⟩
 ·rintro i l h ⟨x,ls,rfl,_,_,g,_⟩;exact La g
 ·rintro i d l h4 ed ⟨x,ls,rfl,⟨hl,ok⟩,g1,g2,y⟩;have li:=(bf.mp ed).1;rw [aq] at li;obtain ⟨v,hv,rfl⟩:=gj.mp (di ed);have bv:=pc v hv
  walk_at "x0"
  refine ⟨ty_list g1,?_⟩
  walk_at "x0"
  have q0:0<=v.fdiv 3:=JL bv.1 (by decide);have q1:v.fdiv 3 < 2147483647:=by rw [Int.fdiv_eq_ediv_of_nonneg _ (by decide)];omega
  refine N5 k _ q0 q1 h4 λw h5 y5=>?_
  walk_at "x0"
  refine Cr (y5.old _ _ (by simp) g1) (by rw [aq];omega) ?_
  walk_at "x0"
  refine ⟨_,ls++[(_,_,_)],rfl,⟨by rw [bh,hl];rfl,?_⟩,by rw [Ek (y5.old _ _ (by simp) g1),jb];rfl,?_,(y.trans y5).setNew (cg _)⟩
  rotate_left
  ·rw [gk ne];exact y5.old _ _ (by simp) g2
  ·intro z hz;rcases jl.mp hz with hz|hz
   ·exact ok z hz
   ·rw [jg.mp hz];have a1:=Ed v (j:=3) (by decide);have a2:=G3 v (j:=3) (by decide);have b1:=Ed (v.fdiv 90) (j:=H+1) (by omega);have b2:=G3 (v.fdiv 90) (j:=H+1) (by omega);exact ⟨⟨by show 1<=1+_;omega,by show 1+_<=12;omega⟩,by show -1<=_ - 1;omega,by show _ - 1<=_;omega⟩
 ·rintro l h4 ⟨x,ls,rfl,⟨hl,ok⟩,g1,g2,y⟩
  walk_at "x0"
  rw [aq] at hl;exact Bk (Eb g1) (h ls _ (by omega) ok y)
structure Pt where
 pl:Int
 ns:List Int
 ms:List Int
 s0:Nat
 s1:Nat
 bell:Bool
noncomputable def ptD (p:Pt):D:=.tup [.int p.pl,.tup (p.ns.map D.int),.tup (p.ms.map D.int),.tup [Cu p.s0,Cu p.s1],.bl p.bell]
noncomputable def Afk (H L:Nat) (p:Pt):Prop:=p.ns.length=3/\p.ms.length=3/\(∀ m∈p.ms,-1<=m/\m<=(H:Int) - 1)/\(p.s0 < 2 ^ H/\p.s1 < 2 ^ H)/\-1<=p.pl/\p.pl<=L
noncomputable def Abf (parts:List (List D)) (r:Nat):Nat:=((parts[r]?).getD []).length
noncomputable def mC (H:Nat) (parts:List (List D)) (plays:List Nat) (ps:List Pt):Prop:=∀ (j:Nat) (p:Pt) (r:Nat),ps[j]?=some p->plays[j]?=some r->Afk H (Abf parts r) p
noncomputable abbrev Rows:=List (List (List (Int×Int×Int)))
noncomputable def uR (H room:Nat) (w:List (List (Int×Int×Int))):Prop:=∀ ls∈w,ls.length<=room/\∀ z∈ls,lZ H z
noncomputable def W0 (H room:Nat) (rs:Rows):Prop:=∀ w∈rs,w.length=H/\uR H room w
noncomputable def sJ (w:List (List (Int×Int×Int))):D:=.tup (w.map λls=>.tup (ls.map sI))
noncomputable def Abg (ps:List Pt) (rs:Rows) (x y:Int):D:=.tup [.tup (ps.map ptD),.tup (rs.map sJ),.tup [.int x,.int y]]
theorem W2 {H:Nat}{mh:MH}{P:D->MH->Prop}(hH:H<=6) (h:P (.int ((2 ^ H:Nat):Int)) mh):wV (Wm (.int 1) (.int H) mh) P:=Jr (by
 rw [au,au,decide_eq_true_iff,decide_eq_true_iff,decide_eq_true_iff]
 exact ⟨by omega,by omega,by decide⟩) (by
  show P (.int (1 * 2 ^ (H:Int).toNat)) mh;rw [Int.one_mul,uy];have e:((2 ^ H:Nat):Int)=2 ^ H:=by push_cast;rfl
  rw [← e];exact h)
theorem p2 {H:Nat}(h:H<=6):0 < 2 ^ H/\2 ^ H<=64:=⟨Nat.pow_pos (by decide),ig (Nat.pow_le_pow_right (by decide) h) (by decide)⟩
theorem W3 {a b H r:Nat}(ha:a < H) (hb:b < H):(a * H+b) * r+r<=H * H * r:=by
 have h1:a * H+b+1<=H * H:=by
  have:(a+1) * H<=H * H:=CW _ ha;rw [yp] at this;omega
 have h2:(a * H+b+1) * r<=H * H * r:=CW _ h1;rw [yp (a * H+b) 1 r] at h2;omega
theorem aU (k:Nat) (cell:Int) {H R:Nat}(h1:1<=H) (hh6:H<=6) (room:Nat) (r1:1<=room) (r2:room<=2) (c0 c1:Int) (hc0:0<=c0) (hc1:0<=c1) (parts:List (List D)) (plays:List Nat) (lp:parts.length=R) (ll:plays.length=H) (hp:∀ p∈plays,p < R) (mh:MH) {P:D->MH->Prop}
  (h:∀ (ps:List Pt) (rs:Rows) (x y:Int) (h':MH),ps.length=H->mC H parts plays ps->rs.length=H->W0 H room rs->(0<=x/\x<=c0)->(0<=y/\y<=c1)->Ext [] mh h'->P (Abg ps rs x y) h'):wV (Af (Gk (k+3)) fuel f53 [Lx room c0 c1 parts plays,.int cell] mh) P:=by
 refine Aq (Aa3 (k+2)) kY.1 kY.2 rfl ?_;show wS (b53 (k+2)) [some (Lx room c0 c1 parts plays),some (.int cell),none,none,none,none,none,none,none,none,none,none,none,none,none,none,none,none] mh _;unfold b53;walk_at "r"
 refine Gs rfl ?_;show wS _ [some (Lx room c0 c1 parts plays),some (.int cell),some (.int room),some (.tup [.int c0,.int c1]),some (.tup (parts.map D.tup)),some (.tup (plays.map Cu)),none,none,none,none,none,none,none,none,none,none,none,none] mh _
 walk_at "x0"
 refine Cd (by intro z z';cases z') rfl ?_;rw [aq,ll]
 walk_at "x0"
 refine Ea (.inl ⟨by decide,by decide⟩) ?_
 walk_at "x0"
 refine Ea (.inl ⟨by omega,by omega⟩) ?_
 walk_at "x0"
 refine Ea (.inr ⟨by omega,by omega⟩) ?_
 walk_at "x0"
 refine Js (by decide) (by decide) (by decide) ?_;rw [Wz]
 walk_at "x0"
 have eN:(11:Int) * (H:Int)+(H:Int) * (H:Int) * (room:Int)=((11 * H+H * H * room:Nat):Int):=by push_cast;rfl
 rw [eN];have bN:H * H * room<=6 * 6 * 2:=EY (EY hh6 hh6) r2;refine Jb k cell (11 * H+H * H * room) (by omega) 1000000 (by decide) (by decide) mh λvs jd m1 lv pv x1 g1 _=>?_
 have g1:IsI m1 jd vs:=g1
 walk_at "x0"
 refine Dz ?_
 walk_at "x0"
 refine ⟨_,Ew (by omega),Bv 0 H,λi l h=>∃ (x9 x10 x11 x12 x13:Option D) (ps:List Pt),l=[some (Lx room c0 c1 parts plays),some (.int cell),some (.int room),some (.tup [.int c0,.int c1]),some (.tup (parts.map D.tup)),some (.tup (plays.map Cu)),some (.int H),some (.ref jd),some (.ref m1.length),x9,x10,x11,x12,x13,none,none,none,none]/\ps.length=i/\mC H parts plays ps/\h[m1.length]?=some (.lst (ps.map ptD))/\Ext [] m1 h,
  ⟨none,none,none,none,none,[],rfl,rfl,λ_ _ _ z=>absurd z (by simp),Ah,Ext.more⟩,λ_ _ _ _=>⟨rfl,rfl⟩,?_,?_⟩
 ·rintro i d l h4 ed ⟨x9,x10,x11,x12,x13,ps,rfl,lps,ops,g4,x4⟩;have li:=(bf.mp ed).1;rw [Az] at li;rw [Df] at ed;obtain ⟨i',hi',rfl⟩:=gj.mp (di ed);have hi':=DQ.mp hi'
  walk_at "x0"
  refine Ea (.inl ⟨by decide,by decide⟩) ?_
  walk_at "x0"
  refine Ea (.inl ⟨by decide,by decide⟩) ?_
  walk_at "x0"
  have e11:(11:Int) * (i':Int)=((11 * i':Nat):Int):=by push_cast;rfl
  have e22:((11 * i':Nat):Int)+11=((11 * i'+11:Nat):Int):=by push_cast;rfl
  rw [e11,e22];refine Im (g1.ext x4) ?_;have lo:(DL.cutD vs (some ((11 * i':Nat):Int)) (some ((11 * i'+11:Nat):Int))).length=11:=by rw [Jd (by omega) (by omega)];omega
  generalize hov:DL.cutD vs (some ((11 * i':Nat):Int)) (some ((11 * i'+11:Nat):Int))=ov at lo;have po:∀ v∈ov,0<=v/\v < 2147483647:=λv hv=>pv v (Mt (by rw [hov];exact hv))
  generalize hm5:h4++[MO.lst (ov.map D.int)]=m5;have x5:Ext [] h4 m5:=by rw [← hm5];exact Ext.more
  have go:IsI m5 h4.length ov:=by rw [← hm5];exact Ah
  walk_at "x0"
  refine Dl go (j:=0) (by omega) ?_
  walk_at "x0"
  refine Bm (j := i') (d := Cu (plays[i']'(by omega))) (by rw [dj, bw (by omega)];rfl) ?_;have hpl : plays[i']'(by omega) < parts.length := by rw [lp];exact hp _ (qp _)
  refine Bm (j := plays[i']'(by omega)) (d := .tup (parts[plays[i']'(by omega)]'hpl)) (by rw [dj, bw hpl];rfl) ?_
  walk_at "x0"
  refine Cd (by intro z z';cases z') rfl ?_
  walk_at "x0"
  refine Hq ?_
  walk_at "x0"
  refine Im go ?_;have l3:(DL.cutD ov (some ((1:Nat):Int)) (some ((4:Nat):Int))).length=3:=by rw [Jd (by omega) (by omega)]
  have p3:∀ v∈DL.cutD ov (some ((1:Nat):Int)) (some ((4:Nat):Int)),0<=v/\v < 2147483647:=λv hv=>po v (Mt hv)
  generalize hc3:DL.cutD ov (some ((1:Nat):Int)) (some ((4:Nat):Int))=cv at l3 p3;refine ⟨_,src_list Ah,cv.map D.int,λi acc h=>∃ ws:List Int,acc=ws.map D.int/\ws.length=i/\Ext [] (m5++[MO.lst (cv.map D.int)]) h,by rw [aq];omega,⟨[],rfl,rfl,Ext.refl⟩,?_,?_,?_,?_⟩
  ·rintro j acc h ⟨_,_,_,y⟩;exact La (y.old _ _ (by simp) Ah)
  ·rintro j acc h ⟨ws,rfl,hl,_⟩;rw [aq];omega
  ·rintro j d acc h ed ⟨ws,rfl,hl,y⟩;obtain ⟨v,hv,rfl⟩:=gj.mp (di ed)
   walk_at "x0"
   refine N5 (k+1) v (p3 v hv).1 (p3 v hv).2 h λw h' y'=>?_
   exact ⟨ws++[w],by rw [jb];rfl,by rw [bh,hl];rfl,y.trans y'⟩
  rintro acc h6 ⟨ws,rfl,lw,x6⟩;rw [aq,l3] at lw
  walk_at "x0"
  refine Bk (Gf _ _) ?_;generalize hm7:h6++[MO.lst (ws.map D.int)]=m7;have x7:Ext [] m5 m7:=by rw [← hm7];exact (Ext.more.trans x6).trans Ext.more
  walk_at "x0"
  refine U0 ?_
  walk_at "x0"
  refine Im (go.ext x7) ?_;have l4:(DL.cutD ov (some ((4:Nat):Int)) (some ((7:Nat):Int))).length=3:=by rw [Jd (by omega) (by omega)]
  generalize hc4:DL.cutD ov (some ((4:Nat):Int)) (some ((7:Nat):Int))=cn at l4;refine ⟨_,src_list Ah,_,_,λ_=>true,λd=>match d with | .int v=>.int (v.fmod (H+1) - 1) | _=>.non,rfl,Ah,by rw [aq];omega,λd hd=>?_,?_⟩
  ·obtain ⟨v, _, rfl⟩ := gj.mp hd;refine ⟨_, rfl, rfl, λ_ => ?_⟩;obtain ⟨d, h', e, rfl, rfl⟩ : wD (dop Gq (dop Bd (vr 1) (dop Be (vr 2) (Zr (.int 1)))) (Zr (.int 1))) ((Hv [none, none, some 6] [some (Lx room c0 c1 parts plays), some (.int cell), some (.int room), some (.tup [.int c0, .int c1]), some (.tup (parts.map D.tup)), some (.tup (plays.map Cu)), some (.int H), some (.ref jd), some (.ref m1.length), some (Cu i'), some (.ref h4.length), some (.int ((ov[0]'(by omega)).fmod (((parts[plays[i']'(by omega)]'hpl).length : Int) + 2) - 1)), some (.tup (ws.map D.int)), x13, none, none, none, none]).set 1 (some (.int v))) (m7 ++ [MO.lst (cn.map D.int)]) (λd h' => d = .int (v.fmod (H + 1) - 1) /\ h' = m7 ++ [MO.lst (cn.map D.int)]) := by
    walk_at "x0"
    exact ⟨rfl,rfl⟩
   exact e
  rw [filter_all,kh];have em:cn.map ((λd=>match d with | .int v=>D.int (v.fmod (H+1) - 1) | _=>.non) ∘ D.int)=(cn.map λv=>v.fmod (H+1) - 1).map D.int:=by rw [kh];rfl
  rw [em]
  walk_at "x0"
  refine Bk (Gf _ _) ?_;generalize hm8:m7++[MO.lst (cn.map D.int)]++[MO.lst ((cn.map λv=>v.fmod (H+1) - 1).map D.int)]=m8;have x8:Ext [] m5 m8:=by rw [← hm8];exact (x7.trans Ext.more).trans Ext.more
  have g8:m8[m1.length]?=some (.lst (ps.map ptD)):=(x5.trans x8).old _ _ (by simp) g4;have go8:IsI m8 h4.length ov:=go.ext x8
  walk_at "x0"
  refine ⟨ty_list g8,?_⟩
  walk_at "x0"
  refine Dl go8 (j:=7) (by omega) ?_
  walk_at "x0"
  refine W2 hh6 ?_;obtain ⟨s0,hs0,es0⟩:=Dk (ov[7]'(by omega)) (2 ^ H) (p2 hh6).1;obtain ⟨s1,hs1,es1⟩:=Dk (ov[8]'(by omega)) (2 ^ H) (p2 hh6).1;refine Fb (by have:=(p2 hh6).1;omega) ?_;rw [es0]
  walk_at "x0"
  refine Dl go8 (j:=8) (by omega) ?_
  walk_at "x0"
  refine W2 hh6 ?_;refine Fb (by have:=(p2 hh6).1;omega) ?_;rw [es1]
  walk_at "x0"
  refine Dl go8 (j:=9) (by omega) ?_
  walk_at "x0"
  refine Cr g8 (by rw [aq];omega) ?_
  walk_at "x0"
  refine ⟨_,_,_,_,_,ps++[⟨_,ws,cn.map λv=>v.fmod (H+1) - 1,s0,s1,_⟩],rfl,by rw [bh,lps];rfl,λj p r hj hr=>?_,by rw [Ek g8,jb];rfl,((x4.trans x5).trans x8).setNew (cg _)⟩
  by_cases hjl:j < ps.length
  ·rw [dw hjl] at hj;exact ops j p r hj hr
  ·have hl:=(bf.mp hj).1;rw [bh,um] at hl;have ej:j=ps.length:=by omega
   subst ej;rw [gb (cg _),CT] at hj;cases hj;have ei:i'=ps.length:=by
    rw [dj,yq (by omega)] at ed;cases ed;exact lps.symm
   subst ei;have er:plays[ps.length]'(by omega)=r:=by
    rw [bw (by omega)] at hr;cases hr;rfl
   have el:Abf parts r=(parts[plays[ps.length]'(by omega)]'hpl).length:=by
    unfold Abf;rw [← er,bw hpl];rfl
   rw [el];have a1:=Ed (ov[0]'(by omega)) (j:=((parts[plays[ps.length]'(by omega)]'hpl).length:Int)+2) (by omega);have a2:=G3 (ov[0]'(by omega)) (j:=((parts[plays[ps.length]'(by omega)]'hpl).length:Int)+2) (by omega);refine ⟨lw,by rw [aq];exact l4,λm hm=>?_,⟨hs0,hs1⟩,by show -1<=_ - 1;omega,by show _ - 1<=_;omega⟩;obtain ⟨v,_,rfl⟩:=gj.mp hm;have:=Ed v (j:=(H:Int)+1) (by omega);have:=G3 v (j:=(H:Int)+1) (by omega);exact ⟨by omega,by omega⟩
 ·rintro l h4 ⟨x9,x10,x11,x12,x13,ps,rfl,lps,ops,g4,x4⟩;rw [Az] at lps
  walk_at "x0"
  refine Ea (.inl ⟨by decide,by decide⟩) ?_
  walk_at "x0"
  have e11:(11:Int) * (H:Int)=((11 * H:Nat):Int):=by push_cast;rfl
  rw [e11];generalize hm5:h4++[MO.lst []]=m5;have x5:Ext [] m1 m5:=by rw [← hm5];exact x4.trans Ext.more
  have gP:m5[m1.length]?=some (.lst (ps.map ptD)):=by rw [← hm5];exact (Ext.more (W:=[])).old _ _ (by simp) g4
  have gR:m5[h4.length]?=some (.lst (([]:Rows).map sJ)):=by rw [← hm5];exact Ah
  have hRl:h4.length < m5.length:=by rw [← hm5];simp
  have hPl:m1.length < h4.length:=El g4;refine Dz ?_
  walk_at "x0"
  refine ⟨_,Ew (by omega),Bv 0 H,λi l h=>∃ (y9 y16 y17:Option D) (rs:Rows),l=[some (Lx room c0 c1 parts plays),some (.int cell),some (.int room),some (.tup [.int c0,.int c1]),some (.tup (parts.map D.tup)),some (.tup (plays.map Cu)),some (.int H),some (.ref jd),some (.ref m1.length),y9,x10,x11,x12,x13,some (.ref h4.length),some (.int ((11 * H+i * H * room:Nat):Int)),y16,y17]/\rs.length=i/\W0 H room rs/\h[m1.length]?=some (.lst (ps.map ptD))/\h[h4.length]?=some (.lst (rs.map sJ))/\Ext [] m1 h,
   ⟨x9,none,none,[],by rw [Nat.zero_mul,Nat.zero_mul,Nat.add_zero];rfl,rfl,λ_ z=>absurd z (by simp),gP,gR,x5⟩,λ_ _ _ _=>⟨rfl,rfl⟩,?_,?_⟩
  ·rintro i d l h5 ed ⟨y9,y16,y17,rs,rfl,lrs,ok5,gP5,gR5,y5⟩;have li:=(bf.mp ed).1;rw [Az] at li;rw [Df] at ed;obtain ⟨i',hi',rfl⟩:=gj.mp (di ed);have lR5:=El gR5
   walk_at "x0"
   refine Dz ?_
   walk_at "x0"
   refine ⟨_,Ew (by omega),Bv 0 H,λj l h=>∃ (y17:Option D) (ws:List (List (Int×Int×Int))),l=[some (Lx room c0 c1 parts plays),some (.int cell),some (.int room),some (.tup [.int c0,.int c1]),some (.tup (parts.map D.tup)),some (.tup (plays.map Cu)),some (.int H),some (.ref jd),some (.ref m1.length),some (Cu i'),x10,x11,x12,x13,some (.ref h4.length),some (.int ((11 * H+(i * H+j) * room:Nat):Int)),some (.ref h5.length),y17]/\ws.length=j/\uR H room ws/\h[m1.length]?=some (.lst (ps.map ptD))/\h[h4.length]?=some (.lst (rs.map sJ))/\h[h5.length]?=some (.lst (ws.map λls=>D.tup (ls.map sI)))/\Ext [] m1 h,
    ⟨y17,[],by rw [Nat.add_zero];rfl,rfl,λ_ z=>absurd z (by simp),(Ext.more (W:=[])).old _ _ (by simp) gP5,(Ext.more (W:=[])).old _ _ (by simp) gR5,Ah,y5.trans Ext.more⟩,λ_ _ _ _=>⟨rfl,rfl⟩,?_,?_⟩
   ·rintro j d l h7 ed2 ⟨y17,ws,rfl,lws,ok7,gP7,gR7,gW7,y7⟩;have lj:=(bf.mp ed2).1;rw [Az] at lj;rw [Df] at ed2;obtain ⟨j',hj',rfl⟩:=gj.mp (di ed2);have bb:=W3 (r:=room) li lj
    walk_at "x0"
    refine ⟨ty_list gW7,?_⟩
    walk_at "x0"
    have eA:((11 * H+(i * H+j) * room:Nat):Int)+(room:Int)=((11 * H+(i * H+(j+1)) * room:Nat):Int):=by
     have:11 * H+(i * H+(j+1)) * room=11 * H+(i * H+j) * room+room:=by rw [← Nat.add_assoc (i * H) j 1,yp (i * H+j) 1 room];omega
     rw [this];push_cast;rfl
    rw [eA];refine Im (g1.ext y7) ?_;have eB:11 * H+(i * H+(j+1)) * room=11 * H+(i * H+j) * room+room:=by rw [← Nat.add_assoc (i * H) j 1,yp (i * H+j) 1 room];omega
    have lo:(DL.cutD vs (some ((11 * H+(i * H+j) * room:Nat):Int)) (some ((11 * H+(i * H+(j+1)) * room:Nat):Int))).length=room:=by rw [Jd (by omega) (by omega)];omega
    have po:∀ v∈DL.cutD vs (some ((11 * H+(i * H+j) * room:Nat):Int)) (some ((11 * H+(i * H+(j+1)) * room:Nat):Int)),0<=v/\v < 2147483647:=λv hv=>pv v (Mt hv)
    generalize hov:DL.cutD vs (some ((11 * H+(i * H+j) * room:Nat):Int)) (some ((11 * H+(i * H+(j+1)) * room:Nat):Int))=ov at lo po
    walk_at "x0"
    refine U4 k h7.length ov room H (by omega) (by omega) _ Ah (by omega) (by omega) po λls h8 ll8 lo8 y8=>?_
    have z8:=(Ext.more (W:=[])).trans y8
    walk_at "x0"
    refine Cr (z8.old _ _ (by simp) gW7) (by rw [aq];omega) ?_
    walk_at "x0"
    rw [eA];refine ⟨_,ws++[ls],rfl,by rw [bh,lws];rfl,λz hz=>?_,?_,?_,by rw [Ek (z8.old _ _ (by simp) gW7),jb];rfl,(y7.trans z8).setNew ?_⟩
    ·rcases jl.mp hz with z'|z'
     ·exact ok7 z z'
     ·rw [jg.mp z'];exact ⟨by omega,lo8⟩
    ·rw [gk (by omega)];exact z8.old _ _ (by simp) gP7
    ·rw [gk (by omega)];exact z8.old _ _ (by simp) gR7
    ·exact y5.len
   ·rintro l h7 ⟨y17,ws,rfl,lws,ok7,gP7,gR7,gW7,y7⟩;rw [Az] at lws
    walk_at "x0"
    refine ⟨ty_list gR7,?_⟩
    walk_at "x0"
    refine Bk (Eb gW7) ?_
    walk_at "x0"
    refine Cr gR7 (by rw [aq];omega) ?_
    walk_at "x0"
    refine ⟨some (Cu i'),some (.ref h5.length),y17,rs++[ws],?_,by rw [bh,lrs];rfl,λz hz=>?_,?_,by rw [Ek gR7,jb];rfl,y7.setNew (by omega)⟩
    ·rw [Az];have e:11 * H+(i * H+H) * room=11 * H+(i+1) * H * room:=by rw [yp i 1 H,Nat.one_mul]
     rw [e]
    ·rcases jl.mp hz with z'|z'
     ·exact ok5 z z'
     ·rw [jg.mp z'];exact ⟨lws,ok7⟩
    ·rw [gk (by omega)];exact gP7
  ·rintro l h5 ⟨y9,y16,y17,rs,rfl,lrs,ok5,gP5,gR5,y5⟩
   walk_at "x0"
   refine Bk (Eb gP5) ?_
   walk_at "x0"
   refine Bk (Eb gR5) ?_
   walk_at "x0"
   refine Dl (g1.ext y5) (j:=10) (by omega) ?_
   walk_at "x0"
   refine Bm (j:=0) (d:=.int c0) rfl ?_
   walk_at "x0"
   refine Dl (g1.ext y5) (j:=10) (by omega) ?_
   walk_at "x0"
   refine Bm (j:=1) (d:=.int c1) rfl ?_
   walk_at "x0"
   have a1:=Ed (vs[10]'(by omega)) (j:=c0+1) (by omega);have a2:=G3 (vs[10]'(by omega)) (j:=c0+1) (by omega);have b1:=Ed ((vs[10]'(by omega)).fdiv 7) (j:=c1+1) (by omega);have b2:=G3 ((vs[10]'(by omega)).fdiv 7) (j:=c1+1) (by omega);exact h ps rs _ _ h5 lps ops (by rw [Az] at lrs;exact lrs) ok5 ⟨a1,by omega⟩ ⟨b1,by omega⟩ (x1.trans y5)
theorem mD {α:Type}{mi:DM Src}{cs:List (Option Nat)}{g:GM}{tc:DM Bool}{e:DM D}{loc:DL.Loc}{mh:MH}{Q:D->MH->Prop}(xs:List α) (F:α->D) (pr:α->Bool) (f:α->D) (hz:xs.length<=1000000)
  (hm:wD mi loc mh λsrc h0=>Ext [] mh h0/\∀ h,Ext [] h0 h->src.ok h=true/\src.items h=xs.map F)
  (step:∀ x h {R:D->MH->Prop},x∈xs->Ext [] mh h->(∀ h',Ext [] h h'->R (f x) h')->wG (g (F x) (Hv cs loc) h) λl1 h1=>h1=h/\wD tc l1 h λc h2=>c=pr x/\h2=h/\(pr x=true->wD e l1 h R))
  (fin:∀ h,Ext [] mh h->Q (.ref h.length) (h++[.lst ((xs.filter pr).map f)])):wD (Bj mi cs g tc e) loc mh Q:=by
 refine Hq (Bc hm ?_);rintro src h0 ⟨x0,keep⟩;refine ⟨xs.map F,λi acc h=>acc=((xs.take i).filter pr).map f/\i<=xs.length/\Ext [] h0 h,by rw [aq];exact hz,⟨rfl,oh _,Ext.refl⟩,λi acc h q=>keep h q.2.2,?_,?_,?_⟩
 ·rintro i acc h ⟨rfl,hi,_⟩;rw [aq];refine ig (KZ _ _) ?_;rw [jj];omega
 ·rintro i d acc h ed ⟨rfl,hi,x⟩;rw [dj] at ed;cases ex:xs[i]? with
  | none=>rw [ex] at ed;cases ed
  | some y =>
   rw [ex] at ed;cases ed;have hl:=(bf.mp ex).1;have et:xs.take (i+1)=xs.take i++[y]:=by rw [mj,ex];rfl
   obtain ⟨l1,h1,e1,rfl,c,h2,e2,rfl,rfl,q⟩:=step y h (R:=λz h3=>((xs.take i).filter pr).map f++[z]=((xs.take (i+1)).filter pr).map f/\i+1<=xs.length/\Ext [] h0 h3\/pr y=false) (di ex) (x0.trans x) λh' x'=>by
    cases hp:pr y with
    | false=>exact .inr rfl
    | true=>exact .inl ⟨by rw [et,FZ,jb];simp [hp],hl,x.trans x'⟩
   refine ⟨l1,_,e1,_,_,e2,λhp=>?_,λhp=>⟨?_,hl,x⟩⟩
   ·refine Bc (q hp) ?_;rintro z h3 (w | w)
    ·exact w
    ·rw [hp] at w;cases w
   ·rw [et,FZ,jb];simp [hp]
 ·rintro acc h ⟨rfl,hi,x⟩;rw [aq,nu];exact fin h (x0.trans x)
theorem Cv {α:Type}{mi:DM Src}{cs:List (Option Nat)}{g:GM}{e:DM D}{loc:DL.Loc}{mh:MH}{Q:D->MH->Prop}(xs:List α) (F:α->D) (f:α->D) (hz:xs.length<=1000000)
  (hm:wD mi loc mh λsrc h0=>Ext [] mh h0/\∀ h,Ext [] h0 h->src.ok h=true/\src.items h=xs.map F)
  (step:∀ x h {R:D->MH->Prop},x∈xs->Ext [] mh h->(∀ h',Ext [] h h'->R (f x) h')->wG (g (F x) (Hv cs loc) h) λl1 h1=>h1=h/\wD e l1 h R)
  (fin:∀ h,Ext [] mh h->Q (.ref h.length) (h++[.lst (xs.map f)])):wD (Bj mi cs g (Zr true) e) loc mh Q:=by
 refine mD xs F (λ_=>true) f hz hm (λx h R hx ex hR=>?_) λh ex=>?_
 ·obtain ⟨l1,h1,e1,rfl,q⟩:=step x h hx ex hR;exact ⟨l1,_,e1,rfl,Dy ⟨rfl,rfl,λ_=>q⟩⟩
 ·have:=fin h ex;rw [NZ.mpr (λ_ _=>rfl)];exact this
theorem Je {ds:List D}{α:Type}{xs:List α}{F:α->D}{mh:MH}(e:ds=xs.map F):Ext [] mh mh/\∀ h,Ext [] mh h->(Src.seq ds).ok h=true/\(Src.seq ds).items h=xs.map F:=⟨Ext.refl,λ_ _=>⟨rfl,e⟩⟩
noncomputable def ob:Option Int->D
 | none=>.non
 | some i=>.int i
noncomputable abbrev Pr:=Option Int×Option Int
noncomputable def prD (p:Pr):D:=.tup [ob p.1,ob p.2]
theorem Ad2 (a b:Int):Nf a [b]=if a < b then b else a:=rfl
theorem Ad3 (a b:Int):Mf a [b]=if b < a then b else a:=rfl
noncomputable def inP (x:Int) (p:Pr):Prop:=(∀ l,p.1=some l->l<=x)/\∀ h,p.2=some h->x<=h
structure Gp (α:Type) where
 pl:Int
 ns:List α
 ms:List Int
 s0:Nat
 s1:Nat
 bell:Bool
structure Gw (α:Type) where
 ps:List (Gp α)
 rs:List (List (List (Int×α×Int)))
 x:Int
 y:Int
section
variable {α β γ:Type}
noncomputable def gpD (e:α->D) (p:Gp α):D:=.tup [.int p.pl,.tup (p.ns.map e),.tup (p.ms.map D.int),.tup [Cu p.s0,Cu p.s1],.bl p.bell]
noncomputable def glD (e:α->D) (z:Int×α×Int):D:=.tup [.int z.1,e z.2.1,.int z.2.2]
noncomputable def lsD (e:α->D) (ls:List (Int×α×Int)):D:=.tup (ls.map (glD e))
noncomputable def rwD (e:α->D) (w:List (List (Int×α×Int))):D:=.tup (w.map (lsD e))
noncomputable def gwD (e:α->D) (w:Gw α):D:=.tup [.tup (w.ps.map (gpD e)),.tup (w.rs.map (rwD e)),.tup [.int w.x,.int w.y]]
structure Gw.ok (H:Nat) (w:Gw α):Prop where
 ps:w.ps.length=H
 ns:∀ p∈w.ps,p.ns.length=3
 ms:∀ p∈w.ps,p.ms.length=3
 rs:w.rs.length=H
 rw:∀ r∈w.rs,r.length=H
 ls:∀ r∈w.rs,∀ l∈r,l.length<=2
noncomputable def zpP (g:α->β->γ) (p:Gp α) (q:Gp β):Gp γ:={ pl:=p.pl,ns:=gw g p.ns q.ns,ms:=p.ms,s0:=p.s0,s1:=p.s1,bell:=p.bell }
noncomputable def zpL (g:α->β->γ) (a:Int×α×Int) (b:Int×β×Int):Int×γ×Int:=(a.1,g a.2.1 b.2.1,a.2.2)
noncomputable def zpW (g:α->β->γ) (a:Gw α) (b:Gw β):Gw γ:={ ps:=gw (zpP g) a.ps b.ps,rs:=gw (gw (gw (zpL g))) a.rs b.rs,x:=a.x,y:=a.y }
theorem aV {as:List α}{bs:List β}(e1:α->D) (e2:β->D):gw (λa b=>D.tup [a,b]) (as.map e1) (bs.map e2)=(as.zip bs).map λz=>.tup [e1 z.1,e2 z.2]:=by
 rw [List.zipWith_map,List.zip,yd]
theorem Kh {as:List α}{bs:List β}{e1:α->D}{e2:β->D}{mh:MH}:Ext [] mh mh/\∀ h,Ext [] mh h->(Src.zip (.seq (as.map e1)) (.seq (bs.map e2))).ok h=true/\(Src.zip (.seq (as.map e1)) (.seq (bs.map e2))).items h=(as.zip bs).map λz=>D.tup [e1 z.1,e2 z.2]:=⟨Ext.refl,λ_ _=>⟨rfl,aV e1 e2⟩⟩
theorem zip_map {as:List α}{bs:List β}{g:α->β->γ}{f:γ->D}:((as.zip bs).map λz=>f (g z.1 z.2))=(gw g as bs).map f:=by
 rw [List.zip,yd,yd]
noncomputable def Rk (r:D) (e1:α->D) (e2:β->D) (e3:γ->D) (g:α->β->γ):Prop:=∀ (k i:Nat) (loc:DL.Loc) (mh h:MH) (mr:DM (List D)) (a:α) (b:β),loc[i]?=some (some r)->mr loc mh=some ([e1 a,e2 b],h)->Ff (Gk (k+2)).cal (Gk (k+2)).clo i mr loc mh=some (e3 (g a b),h)
theorem Rk.wd {r:D}{e1:α->D}{e2:β->D}{e3:γ->D}{g:α->β->γ}(R:Rk r e1 e2 e3 g) {k i:Nat}{loc:DL.Loc}{mh:MH}{mr:DM (List D)}{Q:D->MH->Prop}(a:α) (b:β) (el:loc[i]?=some (some r)) (h:wD mr loc mh λds h=>ds=[e1 a,e2 b]/\Q (e3 (g a b)) h):wD (Ff (Gk (k+2)).cal (Gk (k+2)).clo i mr) loc mh Q:=by
 obtain ⟨ds,h',e,rfl,q⟩:=h;exact ⟨_,_,R k i loc mh h' mr a b el e,q⟩
end
theorem Abh:Rk (α:=Int) (β:=Int) .lam D.int D.int prD (λa b=>(some a,some b)):=by
 intro k i loc mh h mr a b el e;unfold Ff;rw [el];show (mr.bnd λds=>Zl (lamP ds)) loc mh=_;unfold DM.bnd;rw [e];rfl
theorem Abi (k:Nat) {a:Int}{x b c:List D}{d:List D}{z:Bool}(mh:MH):Af (Gk (k+1)) fuel f17 [.tup [.int a,.tup x,.tup b,.tup c,.bl z],.int 1,.tup d] mh=some (.tup [.int a,.tup d,.tup b,.tup c,.bl z],mh):=by kernel_rfl
theorem Abj (k:Nat) {a b:Int}{x d:D}(mh:MH):Af (Gk (k+1)) fuel f17 [.tup [.int a,x,.int b],.int 1,d] mh=some (.tup [.int a,d,.int b],mh):=by kernel_rfl
section
variable {α β γ:Type}{e1:α->D}{e2:β->D}{e3:γ->D}{g:α->β->γ}{r:D}
theorem Kl {as:List α}{bs:List β}{n:Nat}(h:as.length<=n):(as.zip bs).length<=n:=by rw [List.length_zip];omega
theorem aW (k:Nat) (R:Rk r e1 e2 e3 g) (p:Gp α) (q:Gp β) (hz:p.ns.length<=1000) (mh:MH) {P:D->MH->Prop}(h:∀ h',Ext [] mh h'->P (gpD e3 (zpP g p q)) h'):wV (Af (Gk (k+2)) fuel f39 [gpD e1 p,gpD e2 q,r] mh) P:=by
 refine Aq (Aaq (k+1)) jR.1 jR.2 rfl ?_;show wS (b39 (k+1)) [some (gpD e1 p),some (gpD e2 q),some r,none] mh _;unfold b39
 walk_at "x0"
 refine Cv (p.ns.zip q.ns) (λz=>.tup [e1 z.1,e2 z.2]) (λz=>e3 (g z.1 z.2)) (ig (Kl hz) (by decide)) ?_ (λz h' Q hz' ex hQ=>?_) λh' ex=>?_
 ·refine K9 ?_
  walk_at "x0"
  refine Bm (j:=1) rfl ?_
  walk_at "x0"
  refine Bm (j:=1) rfl ?_
  walk_at "x0"
  exact ⟨_,_,_,_,rfl,rfl,rfl,Kh⟩
 ·refine Gs (ds:=[e1 z.1,e2 z.2]) rfl ⟨rfl,?_⟩;refine R.wd z.1 z.2 rfl ?_
  walk_at "x0"
  exact ⟨rfl,hQ h' Ext.refl⟩
 walk_at "x0"
 refine Bk (Gf _ _) ?_
 walk_at "x0"
 refine Ls (Abi k _) ?_;rw [zip_map];exact h _ (ex.trans Ext.more)
theorem R6 (k:Nat) (R:Rk r e1 e2 e3 g) (p:List (Int×α×Int)) (q:List (Int×β×Int)) (hz:p.length<=1000) (mh:MH) {P:D->MH->Prop}(h:∀ h',Ext [] mh h'->P (lsD e3 (gw (zpL g) p q)) h'):wV (Af (Gk (k+2)) fuel f41 [lsD e1 p,lsD e2 q,r] mh) P:=by
 refine Aq (Aas (k+1)) jU.1 jU.2 rfl ?_;show wS (b41 (k+1)) [some (lsD e1 p),some (lsD e2 q),some r] mh _;unfold b41
 walk_at "x0"
 refine Cv (p.zip q) (λz=>.tup [glD e1 z.1,glD e2 z.2]) (λz=>glD e3 (zpL g z.1 z.2)) (ig (Kl hz) (by decide)) ?_ (λz h' Q hz' ex hQ=>?_) λh' ex=>?_
 ·refine K9 ?_
  walk_at "x0"
  exact ⟨_,_,_,_,rfl,rfl,rfl,Kh⟩
 ·refine Gs (ds:=[glD e1 z.1,glD e2 z.2]) rfl ⟨rfl,?_⟩
  walk_at "x0"
  refine R.wd z.1.2.1 z.2.2.1 rfl ?_
  walk_at "x0"
  refine Bm (j:=1) rfl ?_
  walk_at "x0"
  refine Bm (j:=1) rfl ?_
  walk_at "x0"
  refine ⟨rfl,?_⟩
  walk_at "x0"
  exact Ls (Abj k _) (hQ h' Ext.refl)
 walk_at "x0"
 refine Bk (Gf _ _) ?_;rw [zip_map];exact h _ (ex.trans Ext.more)
theorem aX (k:Nat) (R:Rk r e1 e2 e3 g) (p:List (List (Int×α×Int))) (q:List (List (Int×β×Int))) (hz:p.length<=1000) (hl:∀ l∈p,l.length<=2) (mh:MH) {P:D->MH->Prop}(h:∀ h',Ext [] mh h'->P (rwD e3 (gw (gw (zpL g)) p q)) h'):wV (Af (Gk (k+3)) fuel f40 [rwD e1 p,rwD e2 q,r] mh) P:=by
 refine Aq (Aar (k+2)) jT.1 jT.2 rfl ?_;show wS (b40 (k+2)) [some (rwD e1 p),some (rwD e2 q),some r] mh _;unfold b40
 walk_at "x0"
 refine Cv (p.zip q) (λz=>.tup [lsD e1 z.1,lsD e2 z.2]) (λz=>lsD e3 (gw (zpL g) z.1 z.2)) (ig (Kl hz) (by decide)) ?_ (λz h' Q hz' ex hQ=>?_) λh' ex=>?_
 ·refine K9 ?_
  walk_at "x0"
  exact ⟨_,_,_,_,rfl,rfl,rfl,Kh⟩
 ·refine Gs (ds:=[lsD e1 z.1,lsD e2 z.2]) rfl ⟨rfl,?_⟩
  walk_at "x0"
  exact R6 k R z.1 z.2 (ig (hl _ (nj hz').1) (by decide)) h' hQ
 walk_at "x0"
 refine Bk (Gf _ _) ?_;rw [zip_map];exact h _ (ex.trans Ext.more)
theorem W4 (k H:Nat) (R:Rk r e1 e2 e3 g) (a:Gw α) (b:Gw β) (hH:H<=6) (ok:a.ok H) (mh:MH) {P:D->MH->Prop}(h:∀ h',Ext [] mh h'->P (gwD e3 (zpW g a b)) h'):wV (Af (Gk (k+4)) fuel f38 [gwD e1 a,gwD e2 b,r] mh) P:=by
 refine Aq (Aap (k+3)) jQ.1 jQ.2 rfl ?_;show wS (b38 (k+3)) [some (gwD e1 a),some (gwD e2 b),some r,none,none] mh _;unfold b38
 walk_at "x0"
 refine Cv (a.ps.zip b.ps) (λz=>.tup [gpD e1 z.1,gpD e2 z.2]) (λz=>gpD e3 (zpP g z.1 z.2)) (ig (Kl (n:=6) (by rw [ok.ps];exact hH)) (by decide)) ?_ (λz h' Q hz' ex hQ=>?_) λh1 ex1=>?_
 ·refine K9 ?_
  walk_at "x0"
  refine Bm (j:=0) rfl ?_
  walk_at "x0"
  refine Bm (j:=0) rfl ?_
  walk_at "x0"
  exact ⟨_,_,_,_,rfl,rfl,rfl,Kh⟩
 ·refine Gs (ds:=[gpD e1 z.1,gpD e2 z.2]) rfl ⟨rfl,?_⟩
  walk_at "x0"
  exact aW (k+1) R z.1 z.2 (by rw [ok.ns _ (nj hz').1];decide) h' hQ
 walk_at "x0"
 refine Cv (a.rs.zip b.rs) (λz=>.tup [rwD e1 z.1,rwD e2 z.2]) (λz=>rwD e3 (gw (gw (zpL g)) z.1 z.2)) (ig (Kl (n:=6) (by rw [ok.rs];exact hH)) (by decide)) ?_ (λz h' Q hz' ex hQ=>?_) λh2 ex2=>?_
 ·refine K9 ?_
  walk_at "x0"
  refine Bm (j:=1) rfl ?_
  walk_at "x0"
  refine Bm (j:=1) rfl ?_
  walk_at "x0"
  exact ⟨_,_,_,_,rfl,rfl,rfl,Kh⟩
 ·refine Gs (ds:=[rwD e1 z.1,rwD e2 z.2]) rfl ⟨rfl,?_⟩
  walk_at "x0"
  have hm:=(nj hz').1;exact aX k R z.1 z.2 (by rw [ok.rw _ hm];omega) (ok.ls _ hm) h' hQ
 rw [zip_map] at ex2 ⊢
 walk_at "x0"
 refine Bk (Eb ((ex2.trans Ext.more).old _ _ (by simp) Ah)) ?_
 walk_at "x0"
 refine Bk (Gf _ _) ?_
 walk_at "x0"
 refine Bm (j:=2) rfl ?_
 walk_at "x0"
 exact h _ ((ex1.trans Ext.more).trans (ex2.trans Ext.more))
theorem take_succ {α:Type}{l:List α}{i:Nat}{a:α}(e:l[i]?=some a):l.take (i+1)=l.take i++[a]:=by rw [mj,e];rfl
theorem N6 {α:Type}{f:α->D}{l:List α}{i:Nat}{d:D}(e:(l.map f)[i]?=some d):∃ a,l[i]?=some a/\d=f a:=by
 rw [dj] at e;cases h:l[i]? with
 | none=>rw [h] at e;cases e
 | some a=>rw [h] at e;cases e;exact ⟨a,rfl,rfl⟩
theorem N7 {l:List (List α)}{n:Nat}(h:∀ x∈l,x.length<=n):l.flatten.length<=l.length * n:=by
 induction l with
 | nil=>simp
 | cons a r ih =>
  have h1:=h a iy;have h2:=ih λx hx=>h x (iu _ hx)
  rw [GR,bh,jk,yp];omega
theorem U5 {l:List α}{i:Nat}{x:α}(h:x∈l.take i):x∈l:=CV h
end
section
variable {α β γ:Type}{e1:α->D}
noncomputable def nsP (ps:List (Gp α)):List α:=(ps.map (·.ns)).flatten
noncomputable def nsL (ls:List (List (Int×α×Int))):List α:=(ls.map λl=>l.map (·.2.1)).flatten
noncomputable def Gw.nums (w:Gw α):List α:=nsP w.ps++nsL w.rs.flatten
theorem mF (ps:List (Gp α)) (p:Gp α):nsP (ps++[p])=nsP ps++p.ns:=by unfold nsP;rw [jb,ql];simp
theorem mG (ls:List (List (Int×α×Int))) (l:List (Int×α×Int)):nsL (ls++[l])=nsL ls++l.map (·.2.1):=by unfold nsL;rw [jb,ql];simp
theorem Km (ls ms:List (List (Int×α×Int))):nsL (ls++ms)=nsL ls++nsL ms:=by unfold nsL;rw [jb,ql]
theorem sO {ps:List (Gp α)}(h:∀ p∈ps,p.ns.length=3):(nsP ps).length<=ps.length * 3:=by
 have:=N7 (l:=ps.map (·.ns)) (n:=3) λx hx=>by obtain ⟨p,hp,rfl⟩:=gj.mp hx;exact HF (h p hp)
 rw [aq] at this;exact this
theorem sS {ls:List (List (Int×α×Int))}(h:∀ l∈ls,l.length<=2):(nsL ls).length<=ls.length * 2:=by
 have:=N7 (l:=ls.map λl=>l.map (·.2.1)) (n:=2) λx hx=>by obtain ⟨p,hp,rfl⟩:=gj.mp hx;rw [aq];exact h p hp
 rw [aq] at this;exact this
theorem Gw.ok.ll {H:Nat}{a:Gw α}(ok:a.ok H):∀ l∈a.rs.flatten,l.length<=2:=λl hl=>by
 obtain ⟨r,hr,hl⟩:=BW.mp hl;exact ok.ls r hr l hl
theorem Gw.ok.fl {H:Nat}{a:Gw α}(ok:a.ok H) (hH:H<=6):a.rs.flatten.length<=36:=by
 have h1:=N7 (l:=a.rs) (n:=H) λx hx=>HF (ok.rw x hx)
 rw [ok.rs] at h1;exact ig h1 (EY hH hH)
theorem Yn {l:List α}{i n:Nat}(h:l.length<=n):(l.take i).length<=n:=by rw [jj];omega
theorem Gw.ok.b1 {H:Nat}{a:Gw α}(ok:a.ok H) (hH:H<=6) (i:Nat):(nsP (a.ps.take i)).length<=18:=by
 have h1:=sO (ps:=a.ps.take i) λp hp=>ok.ns p (U5 hp)
 have h2:(a.ps.take i).length<=6:=Yn (by rw [ok.ps];exact hH);omega
theorem Gw.ok.b2 {H:Nat}{a:Gw α}(ok:a.ok H) (hH:H<=6) (i:Nat):(nsL (a.rs.flatten.take i)).length<=72:=by
 have h1:=sS (ls:=a.rs.flatten.take i) λp hp=>ok.ll p (U5 hp)
 have h2:(a.rs.flatten.take i).length<=36:=Yn (ok.fl hH);omega
theorem Gw.ok.b3 {H:Nat}{a:Gw α}(ok:a.ok H) (hH:H<=6):a.nums.length<=90:=by
 have h1:=ok.b1 hH a.ps.length;have h2:=ok.b2 hH a.rs.flatten.length;rw [nu] at h1 h2;unfold Gw.nums;rw [bh];omega
end
section
variable {α β γ δ:Type} [DecidableEq α] [DecidableEq β] [DecidableEq γ] [DecidableEq δ] {e:α->D}{e1:α->D}{e2:β->D}{e3:γ->D}{e4:δ->D}{n n1 n2 n3 n4:Nat}
end
noncomputable abbrev Bp:=Int×List Int×(Nat×Nat)×Bool
section
variable {α β γ:Type}{e1:α->D}{e2:β->D}
noncomputable def Gp.bare (p:Gp α):Bp:=(p.pl,p.ms,(p.s0,p.s1),p.bell)
noncomputable def Ad4 (l:List (Int×α×Int)):List (Int×Int):=l.map λz=>(z.1,z.2.2)
noncomputable abbrev BT:=List Bp×List (List (List (Int×Int)))×(Int×Int)
noncomputable def Gw.bare (w:Gw α):BT:=(w.ps.map Gp.bare,w.rs.map (·.map Ad4),(w.x,w.y))
end
inductive All2 {α β:Type} (R:α->β->Prop):List α->List β->Prop
 | nil:All2 R [] []
 | cons {a:α} {b:β} {l:List α} {m:List β}:R a b->All2 R l m->All2 R (a::l) (b::m)
section
variable {α β γ δ:Type}
theorem All2.len {R:α->β->Prop}:∀ {a:List α}{b:List β},All2 R a b->a.length=b.length
 | _,_,.nil=>rfl
 | _,_,.cons _ t=>by rw [jk,jk,All2.len t]
theorem All2.app {R:α->β->Prop}:∀ {a:List α}{b:List β}{c:List α}{d:List β},All2 R a b->All2 R c d->All2 R (a++c) (b++d)
 | _,_,_,_,.nil,s=>s
 | _,_,_,_,.cons r t,s=>.cons r (All2.app t s)
theorem All2.of_mem {R:α->β->Prop}:∀ {a:List α}{b:List β},a.length=b.length->(∀ x∈a,∀ y∈b,R x y)->All2 R a b
 | [],[],_,_=>.nil
 | [],_::_,h,_=>by cases h
 | _::_,[],h,_=>by cases h
 | a::l,b::m,h,r=>.cons (r _ iy _ iy) (All2.of_mem (by simpa using h) λx hx y hy=>r x (iu _ hx) y (iu _ hy))
theorem All2.snoc {β γ:Type}{R:β->γ->Prop}{a:List β}{b:List γ}{x:β}{y:γ}(h:All2 R a b) (r:R x y):All2 R (a++[x]) (b++[y]):=h.app (.cons r .nil)
theorem Lb {g:α->β->γ}{p:γ->Prop}:∀ {a:List α}{b:List β},All2 (λx y=>p (g x y)) a b->∀ z∈gw g a b,p z
 | _,_,.nil,z,h=>by cases h
 | _,_,.cons r t,z,h=>by
  rw [List.zipWith_cons_cons] at h;rcases dg.mp h with rfl|h
  ·exact r
  ·exact Lb t z h
theorem R7 {g:α->β->γ}{a:List α}{b:List β}(h:a.length=b.length):(gw g a b).length=a.length:=by rw [yr];omega
variable {H:Nat}{a:Gw α}{b:Gw β}{g:α->β->γ}
theorem Ad5 (oa:a.ok H) (ok:b.ok H) (hb:a.bare=b.bare):(zpW g a b).ok H where
 ps:=by show (gw _ _ _).length=_;rw [R7 (by rw [oa.ps,ok.ps]),oa.ps]
 ns:=Lb (All2.of_mem (by rw [oa.ps,ok.ps]) λx hx y hy=>by show (gw g x.ns y.ns).length=3;rw [R7 (by rw [oa.ns x hx,ok.ns y hy]),oa.ns x hx])
 ms:=Lb (All2.of_mem (by rw [oa.ps,ok.ps]) λx hx y hy=>oa.ms x hx)
 rs:=by show (gw _ _ _).length=_;rw [R7 (by rw [oa.rs,ok.rs]),oa.rs]
 rw:=Lb (All2.of_mem (by rw [oa.rs,ok.rs]) λx hx y hy=>by rw [R7 (by rw [oa.rw x hx,ok.rw y hy]),oa.rw x hx])
 ls:=Lb (All2.of_mem (by rw [oa.rs,ok.rs]) λx hx y hy l hl=>by
  refine Lb (p:=λl=>l.length<=2) (All2.of_mem (by rw [oa.rw x hx,ok.rw y hy]) λu hu v hv=>?_) l hl;rw [yr];have:=oa.ls x hx u hu
  omega)
end
theorem R8 {n:Nat}{ns:List Int}{mh:MH}{P:D->MH->Prop}(g:IsI mh n ns) (hl:0 < ns.length) (hz:ns.length<=1000000) (h:∀ h',Ext [n] mh h'->h'.length=mh.length->IsI h' n ns.tail->P (.int ns[0]) h'):wV (Ei (.ref n) [.int 0] mh) P:=by
 refine jE (k:=0) (y:=.int ns[0]) g (by rw [dj,bw hl];rfl) (by rw [aq];exact hz) ?_;refine h _ Ext.set (by rw [iw]) ?_;have:(ns.map D.int).eraseIdx 0=ns.tail.map D.int:=by cases ns <;> rfl
 rw [this];exact Ek g
noncomputable def bG (dr fn:Fn):SM :=
 (Ab (Ao (dop Be (dop Ii (Zr (.int 3)) (Ae Cz (Aa (dop ixD (vr 0) (Zr (.int 0))) (Zr [])))) (Ae Q6 (Aa (Bj (Cq (dop ixD (vr 0) (Zr (.int 1)))) [none,none] (Aj 1) (Zr true) (Ae Q6 (Aa (Bj (Cq (vr 1)) [none,none] (Aj 1) (Zr true) (Ae Cz (Aa (vr 1) (Zr [])))) (Zr [])))) (Zr [])))) (Aj 4))
 (Ab (Ao (Ae dr (Aa (vr 1) (Aa (vr 4) (Aa (dop Rm (Zr (.int 10)) (Zr (.int 4))) (Zr []))))) (Aj 5))
 (Ab (Ao (lstM (Zr [])) (Aj 6))
 (Ab (Ga (Cq (dop ixD (vr 0) (Zr (.int 0)))) (Fe [7,8,9,10,11])
 (Ab (Ao (Ae Bh (Aa (Bj (Cq (vr 8)) [none,none,some 5] (Aj 1) (Zr true) (Ae fn (Aa (vr 1) (Aa (Bo "list" Ei (vr 2) (Aa (Zr (.int 0)) (Zr []))) (Zr []))))) (Zr []))) (Aj 12))
  (Ab (Dp (Bo "list" Bs (vr 6) (Aa (Bg (Aa (vr 7) (Aa (vr 12) (Aa (vr 9) (Aa (vr 10) (Aa (vr 11) (Zr []))))))) (Zr []))))
  Zn)))
 (Ab (Ao (lstM (Zr [])) (Aj 13))
 (Ab (Ga (Cq (dop ixD (vr 0) (Zr (.int 1)))) (Aj 2)
 (Ab (Ao (lstM (Zr [])) (Aj 14))
  (Ab (Ga (Cq (vr 2)) (Aj 3)
  (Ab (Dp (Bo "list" Bs (vr 14) (Aa (Ae Bh (Aa (Bj (Cq (vr 3)) [none,none,none,none,some 5] (Fe [1,2,3]) (Zr true) (Bg (Aa (vr 1) (Aa (Ae fn (Aa (vr 2) (Aa (Bo "list" Ei (vr 4) (Aa (Zr (.int 0)) (Zr []))) (Zr [])))) (Aa (vr 3) (Zr [])))))) (Zr []))) (Zr []))))
   Zn))
  (Ab (Dp (Bo "list" Bs (vr 13) (Aa (Ae Bh (Aa (vr 14) (Zr []))) (Zr []))))
  Zn))))
 (Ab (retS (Bg (Aa (Ae Bh (Aa (vr 6) (Zr []))) (Aa (Ae Bh (Aa (vr 13) (Zr []))) (Aa (dop ixD (vr 0) (Zr (.int 2))) (Zr []))))))
 Zn)))))))
theorem Ad6 (k:Nat):b55 k=bG (Af (Gk k) fuel f45) (Af (Gk k) fuel f54):=rfl
noncomputable def okP (p:Pr):Prop:=∀ l h,p=(some l,some h)->l<=h
theorem uU {ds:List D}{v:Int}{n:Nat}{mh:MH}{P:D->MH->Prop}(g:mh[n]?=some (.lst ds)) (hl:0 < ds.length) (hd:∀ d∈ds,∃ c:Int,0<=c/\d=.int c) (h:∀ c:Int,0<=c->P (.int c) mh):wV (ixD (.ref n) (.int (v.fmod ds.length)) mh) P:=by
 obtain ⟨r,hr,er⟩:=Dk v ds.length hl;rw [er];refine Dg g hr λd hm=>?_
 obtain ⟨c,hc,rfl⟩:=hd d hm;exact h c hc
theorem mH (k:Nat) (n v:Int) (hv:0<=v) (mh:MH) {P:D->MH->Prop}(h:∀ (p:Pr) h',inP n p->okP p->Ext [] mh h'->P (prD p) h'):wV (Af (Gk (k+1)) fuel f54 [.int n,.int v] mh) P:=by
 refine Aq (Aa4 k) kZ.1 kZ.2 rfl ?_;show wS (b54 k) [some (.int n),some (.int v),none,none] mh _;unfold b54
 walk_at "x0"
 refine uU (v:=v) Ah (by simp) (λd hd=>?_) λc1 hc1=>?_
 ·have q:=Ed (v.fdiv 16) (j:=10) (by decide);rcases dg.mp hd with rfl|hd
  ·exact ⟨_,by omega,rfl⟩
  rcases dg.mp hd with rfl|hd
  ·exact ⟨_,by omega,rfl⟩
  rcases dg.mp hd with rfl|hd
  ·exact ⟨_,q,rfl⟩
  rw [jg.mp hd];exact ⟨_,hv,rfl⟩
 walk_at "x0"
 refine uU (v:=v.fdiv 4) Ah (by simp) (λd hd=>?_) λc2 hc2=>?_
 ·have q:=Ed (v.fdiv 64) (j:=10) (by decide);rcases dg.mp hd with rfl|hd
  ·exact ⟨_,by omega,rfl⟩
  rcases dg.mp hd with rfl|hd
  ·exact ⟨_,by omega,rfl⟩
  rcases dg.mp hd with rfl|hd
  ·exact ⟨_,q,rfl⟩
  rw [jg.mp hd];exact ⟨_,hv,rfl⟩
 walk_at "x0"
 obtain ⟨r,hr,er⟩:=Dk (v.fdiv 7) 6 (by decide);rw [show (6:Int)=((6:Nat):Int) from rfl,er];refine Dg Ah (by simp;omega) λd hd=>?_
 have fin:∀ (hh:MH) (x:Ext [] mh hh) (p:Pr),inP n p->okP p->P (prD p) hh:=λhh x p hp ho=>h p hh hp ho x
 rcases dg.mp hd with rfl|hd
 ·exact fin _ ((Ext.more.trans Ext.more).trans Ext.more) (some (n - c1),some (n+c2)) ⟨λl e=>by cases e;omega,λl e=>by cases e;omega⟩ λl u e=>by cases e;omega
 rcases dg.mp hd with rfl|hd
 ·exact fin _ ((Ext.more.trans Ext.more).trans Ext.more) (some (n - c1),some (n+c2)) ⟨λl e=>by cases e;omega,λl e=>by cases e;omega⟩ λl u e=>by cases e;omega
 rcases dg.mp hd with rfl|hd
 ·exact fin _ ((Ext.more.trans Ext.more).trans Ext.more) (none,some (n+c2)) ⟨λl e=>(by cases e),λl e=>by cases e;omega⟩ λl u e=>by cases e
 rcases dg.mp hd with rfl|hd
 ·exact fin _ ((Ext.more.trans Ext.more).trans Ext.more) (some (n - c1),none) ⟨λl e=>by cases e;omega,λl e=>by cases e⟩ λl u e=>by cases e
 rcases dg.mp hd with rfl|hd
 ·exact fin _ ((Ext.more.trans Ext.more).trans Ext.more) (none,none) ⟨λl e=>(by cases e),λl e=>by cases e⟩ λl u e=>by cases e
 rw [jg.mp hd];exact fin _ ((Ext.more.trans Ext.more).trans Ext.more) (some n,some n) ⟨λl e=>by cases e;omega,λl e=>by cases e;omega⟩ λl u e=>by cases e;omega
noncomputable def mJ {α β:Type}(e1:α->D) (e2:β->D) (R0:α->Prop) (R:α->β->Prop) (fn:Fn):Prop:=∀ (x:α) (v:Int) (h:MH) {P:D->MH->Prop},R0 x->0<=v->(∀ y h',R x y->Ext [] h h'->P (e2 y) h')->wV (fn [e1 x,.int v] h) P
section
variable {α β:Type}{e1:α->D}{e2:β->D}{R0:α->Prop}{R:α->β->Prop}{fn dr:Fn}
noncomputable def RL (R:α->β->Prop) (z:Int×α×Int) (y:Int×β×Int):Prop:=y.1=z.1/\y.2.2=z.2.2/\R z.2.1 y.2.1
noncomputable def RP (R:α->β->Prop) (p:Gp α) (q:Gp β):Prop:=q.bare=p.bare/\q.ms=p.ms/\All2 R p.ns q.ns
theorem Yo {vs:List Int}(h:∀ v∈vs,0<=v):∀ v∈vs.tail,0<=v:=λv hv=>h v (List.mem_of_mem_tail hv)
theorem aY {i jd:Nat}{loc:DL.Loc}{mh:MH}{Q:D->MH->Prop}{xs:List α}{vs:List Int}(hf:mJ e1 e2 R0 R fn) (el:loc[i]?=some (some (.tup (xs.map e1)))) (hc:Hv [none,none,some 5] loc=[none,none,some (.ref jd)]) (g:IsI mh jd vs) (hz:xs.length<=1000) (hx:∀ x∈xs,R0 x) (hl:xs.length<=vs.length) (lv:vs.length<=1000) (hv:∀ v∈vs,0<=v)
  (fin:∀ (ys:List β) (us:List Int) h,All2 R xs ys->us.length+xs.length=vs.length->(∀ v∈us,0<=v)->IsI h jd us->Ext [jd] mh h->Q (.ref h.length) (h++[.lst (ys.map e2)])) :
  wD (Bj (Cq (vr i)) [none,none,some 5] (Aj 1) (Zr true) (Ae fn (Aa (vr 1) (Aa (Bo "list" Ei (vr 2) (Aa (Zr (.int 0)) (Zr []))) (Zr []))))) loc mh Q:=by
 refine Hq (Gr (Dd el ?_));refine ⟨_,rfl,xs.map e1,λi acc h=>∃ (ys:List β) (us:List Int),acc=ys.map e2/\All2 R (xs.take i) ys/\us.length+i=vs.length/\i<=xs.length/\(∀ v∈us,0<=v)/\IsI h jd us/\Ext [jd] mh h,by rw [aq];omega,⟨[],vs,rfl,.nil,rfl,oh _,hv,g,Ext.refl⟩,λ_ _ _ _=>⟨rfl,rfl⟩,?_,?_,?_⟩
 ·rintro i acc h ⟨ys,us,rfl,a,_,hi,_⟩;rw [aq,← a.len,jj];omega
 ·rintro i d acc h4 ed ⟨ys,us,rfl,a,lu,hi,hu,g4,x4⟩;obtain ⟨x,er,rfl⟩:=N6 ed;have li:=(bf.mp er).1;rw [hc];refine Cw ?_
  walk_at "x0"
  refine ⟨ty_list g4,?_⟩
  walk_at "x0"
  refine R8 g4 (by omega) (by omega) λh5 x5 _ g5=>?_
  walk_at "x0"
  refine hf x _ h5 (hx x (di er)) (hu _ (qp _)) λy h6 ry x6=>?_
  refine ⟨ys++[y],us.tail,by rw [jb];rfl,by rw [take_succ er];exact a.snoc ry,?_,li,Yo hu,g5.ext x6,(x4.trans x5).trans x6.weak⟩;rw [BX];omega
 ·rintro acc h4 ⟨ys,us,rfl,a,lu,hi,hu,g4,x4⟩;rw [aq] at lu a;rw [nu] at a;exact fin ys us h4 a lu hu g4 x4
theorem W5 {i jd:Nat}{loc:DL.Loc}{mh:MH}{Q:D->MH->Prop}{xs:List (Int×α×Int)}{vs:List Int}(hf:mJ e1 e2 R0 R fn) (el:loc[i]?=some (some (lsD e1 xs))) (hc:Hv [none,none,none,none,some 5] loc=[none,none,none,none,some (.ref jd)]) (g:IsI mh jd vs) (hz:xs.length<=1000) (hx:∀ x∈xs,R0 x.2.1) (hl:xs.length<=vs.length) (lv:vs.length<=1000) (hv:∀ v∈vs,0<=v)
  (fin:∀ (ys:List (Int×β×Int)) (us:List Int) h,All2 (RL R) xs ys->us.length+xs.length=vs.length->(∀ v∈us,0<=v)->IsI h jd us->Ext [jd] mh h->Q (.ref h.length) (h++[.lst (ys.map (glD e2))])) :
  wD (Bj (Cq (vr i)) [none,none,none,none,some 5] (Fe [1,2,3]) (Zr true) (Bg (Aa (vr 1) (Aa (Ae fn (Aa (vr 2) (Aa (Bo "list" Ei (vr 4) (Aa (Zr (.int 0)) (Zr []))) (Zr [])))) (Aa (vr 3) (Zr [])))))) loc mh Q:=by
 refine Hq (Gr (Dd el ?_));refine ⟨_,rfl,xs.map (glD e1),λi acc h=>∃ (ys:List (Int×β×Int)) (us:List Int),acc=ys.map (glD e2)/\All2 (RL R) (xs.take i) ys/\us.length+i=vs.length/\i<=xs.length/\(∀ v∈us,0<=v)/\IsI h jd us/\Ext [jd] mh h,by rw [aq];omega,⟨[],vs,rfl,.nil,rfl,oh _,hv,g,Ext.refl⟩,λ_ _ _ _=>⟨rfl,rfl⟩,?_,?_,?_⟩
 ·rintro i acc h ⟨ys,us,rfl,a,_,hi,_⟩;rw [aq,← a.len,jj];omega
 ·rintro i d acc h4 ed ⟨ys,us,rfl,a,lu,hi,hu,g4,x4⟩;obtain ⟨x,er,rfl⟩:=N6 ed;have li:=(bf.mp er).1;rw [hc];refine Gs (ds:=[.int x.1,e1 x.2.1,.int x.2.2]) rfl ?_
  walk_at "x0"
  refine ⟨ty_list g4,?_⟩
  walk_at "x0"
  refine R8 g4 (by omega) (by omega) λh5 x5 _ g5=>?_
  walk_at "x0"
  refine hf x.2.1 _ h5 (hx x (di er)) (hu _ (qp _)) λy h6 ry x6=>?_
  walk_at "x0"
  refine ⟨ys++[(x.1,y,x.2.2)],us.tail,by rw [jb];rfl,by rw [take_succ er];exact a.snoc ⟨rfl,rfl,ry⟩,?_,li,Yo hu,g5.ext x6,(x4.trans x5).trans x6.weak⟩;rw [BX];omega
 ·rintro acc h4 ⟨ys,us,rfl,a,lu,hi,hu,g4,x4⟩;rw [aq] at lu a;rw [nu] at a;exact fin ys us h4 a lu hu g4 x4
theorem mK {j:Nat}{ns:List Int}{mh:MH}{P:D->MH->Prop}(g:IsI mh j ns) (h:P (.int ns.sum) mh):wV (Q6 [.ref j] mh) P:=⟨_,_,by simp only [Q6,Eb g,Fv],h⟩
noncomputable def U6 (l:List (Int×α×Int)):Int:=l.length
theorem amt {H:Nat}{w:Gw α}(ok:w.ok H):(3:Int) * (H:Int)+(w.rs.map λr=>(r.map U6).sum).sum=((w.nums.length:Nat):Int):=by
 have h1:(nsP w.ps).length=H * 3:=by
  unfold nsP
  rw [List.length_flatten,show (w.ps.map (·.ns)).map List.length=iz H 3 from List.eq_replicate_iff.mpr ⟨by rw [aq,aq,ok.ps],λx hx=>by
   obtain ⟨r,hr,rfl⟩:=gj.mp hx;obtain ⟨p,hp,rfl⟩:=gj.mp hr
   exact ok.ns p hp⟩]
  simp
 have h2:∀ r:List (List (Int×α×Int)),(r.map U6).sum=((nsL r).length:Int):=λr=>by
  induction r with
  | nil=>rfl
  | cons l r ih =>
   rw [mq,List.sum_cons,ih];show (l.length:Int)+_=(((l.map (·.2.1))++nsL r).length:Int);rw [bh,aq];push_cast;rfl
 have h3:∀ rs:List (List (List (Int×α×Int))),(rs.map λr=>(r.map U6).sum).sum=((nsL rs.flatten).length:Int):=λrs=>by
  induction rs with
  | nil=>rfl
  | cons r rs ih =>
   rw [mq,List.sum_cons,ih,h2,GR,Km,bh];push_cast;rfl
 rw [h3];unfold Gw.nums;rw [bh,h1];push_cast;omega
end
theorem Abk:(10:Int) ^ (4:Int).toNat=10000:=by decide +kernel
theorem Ld {a b c:MH}{n:Nat}(x:Ext [] a b) (y:Ext [n] b c) (h:a.length<=n):Ext [] a c:=⟨ig x.len y.len,λi o _ e=>y.old i o (by
 have:=El e
 simp;omega) (x.old i o (by simp) e)⟩
noncomputable def Ad7 (dr:Fn):Prop:=∀ (c:Int) (n:Nat) (h:MH) {P:D->MH->Prop},n<=1000->(∀ (vs:List Int) (j:Nat) (h':MH),vs.length=n->(∀ v∈vs,0<=v)->Ext [] h h'->IsI h' j vs->h.length<=j->P (.ref j) h')->wV (dr [.int c,.int n,.int 10000] h) P
section
variable {α β:Type}{e1:α->D}{e2:β->D}{R0:α->Prop}{R:α->β->Prop}{fn dr:Fn}
theorem Ad8 (H:Nat) (w:Gw α) (hH:H<=6) (ok:w.ok H) (hR:∀ x∈w.nums,R0 x) (hf:mJ e1 e2 R0 R fn) (hd:Ad7 dr) (cell:Int) (mh:MH) {P:D->MH->Prop}
  (h:∀ (w':Gw β) h',All2 (RP R) w.ps w'.ps->All2 (All2 (All2 (RL R))) w.rs w'.rs->(w'.x,w'.y)=(w.x,w.y)->Ext [] mh h'->P (gwD e2 w') h') :
  wS (bG dr fn) [some (gwD e1 w),some (.int cell),none,none,none,none,none,none,none,none,none,none,none,none,none] mh (Ux P):=by
 unfold bG
 walk_at "x0"
 refine Bm (j:=0) rfl ?_
 walk_at "x0"
 refine Cd (by intro z z';cases z') rfl ?_;rw [aq,ok.ps]
 walk_at "x0"
 refine Ea (.inl ⟨by decide,by decide⟩) ?_
 walk_at "x0"
 refine Cv w.rs (rwD e1) (λr=>.int (r.map U6).sum) (by rw [ok.rs];omega) ?_ (λr h' Q hz' ex hQ=>?_) λh1 x1=>?_
 ·walk_at "x0"
  refine Bm (j:=1) rfl ?_
  walk_at "x0"
  exact ⟨_,rfl,Je rfl⟩
 ·refine Cw ⟨rfl,?_⟩
  walk_at "x0"
  refine Cv r (lsD e1) (λl=>.int (U6 l)) (by rw [ok.rw r hz'];omega) ?_ (λl h2 Q2 hz2 ex2 hQ2=>?_) λh2 x2=>?_
  ·walk_at "x0"
   exact ⟨_,rfl,Je rfl⟩
  ·refine Cw ⟨rfl,?_⟩
   walk_at "x0"
   refine Cd (by intro z z';cases z') rfl ?_;rw [aq];exact hQ2 h2 Ext.refl
  walk_at "x0"
  refine mK (ns:=r.map U6) (by unfold IsI;rw [Ah,kh];rfl) ?_;exact hQ _ (x2.trans Ext.more)
 walk_at "x0"
 refine mK (ns:=w.rs.map λr=>(r.map U6).sum) (by unfold IsI;rw [Ah,kh];rfl) ?_
 walk_at "x0"
 rw [amt ok];have b3:=ok.b3 hH
 walk_at "x0"
 refine Js (by decide) (by decide) (by decide) ?_;rw [Abk]
 walk_at "x0"
 refine hd cell w.nums.length _ (by omega) λvs jd m1 lv hv y1 g1 hj=>?_
 have x1':Ext [] mh m1:=(x1.trans Ext.more).trans y1;have hjd:mh.length<=jd:=ig (x1.trans (Ext.more (g:=[MO.lst (w.rs.map λr=>D.int (r.map U6).sum)]))).len hj;have ljd:jd < m1.length:=El g1
 clear hj
 walk_at "x0"
 refine Dz ?_
 walk_at "x0"
 refine Bm (j:=0) rfl ?_
 walk_at "x0"
 have hnl:w.nums.length=(nsP w.ps).length+(nsL w.rs.flatten).length:=by unfold Gw.nums;rw [bh]
 have mp:∀ x∈nsP w.ps,R0 x:=λx hx=>hR x (xu _ hx)
 have ml:∀ x∈nsL w.rs.flatten,R0 x:=λx hx=>hR x (gm _ hx)
 refine ⟨_,rfl,w.ps.map (gpD e1),λi l h=>∃ x7 x8 x9 x10 x11 x12,∃ (qs:List (Gp β)) (us:List Int),l=[some (gwD e1 w),some (.int cell),none,none,some (.int (w.nums.length:Nat)),some (.ref jd),some (.ref m1.length),x7,x8,x9,x10,x11,x12,none,none]/\i<=w.ps.length/\All2 (RP R) (w.ps.take i) qs/\h[m1.length]?=some (.lst (qs.map (gpD e2)))/\us.length+(nsP (w.ps.take i)).length=w.nums.length/\(∀ v∈us,0<=v)/\IsI h jd us/\Ext [] mh h,
  ⟨none,none,none,none,none,none,[],vs,rfl,oh _,.nil,Ah,lv,hv,g1.ext Ext.more,x1'.trans Ext.more⟩,λ_ _ _ _=>⟨rfl,rfl⟩,?_,?_⟩
 ·rintro i d l h4 ed ⟨x7,x8,x9,x10,x11,x12,qs,us,rfl,hi,a4,g4,lu,hu,gd,y4⟩;obtain ⟨p,er,rfl⟩:=N6 ed;have hm:=di er;have li:=(bf.mp er).1;have lp:(nsP (w.ps.take (i+1))).length=(nsP (w.ps.take i)).length+3:=by rw [take_succ er,mF,bh,ok.ns p hm]
  have lle:(nsP (w.ps.take (i+1))).length<=(nsP w.ps).length:=by
   have:nsP w.ps=nsP (w.ps.take (i+1))++nsP (w.ps.drop (i+1)):=by
    unfold nsP;rw [← ql,← jb,qt]
   rw [this,bh];omega
  refine Gs (ds:=[.int p.pl,.tup (p.ns.map e1),.tup (p.ms.map D.int),.tup [Cu p.s0,Cu p.s1],.bl p.bell]) rfl ?_
  walk_at "x0"
  refine aY (xs:=p.ns) hf rfl rfl gd (by rw [ok.ns p hm];decide) (λx hx=>mp x ?_) (by rw [ok.ns p hm];omega) (by omega) hu λys us' h5 ay lu' hu' g5 x5=>?_
  ·unfold nsP;exact BW.mpr ⟨p.ns,gj.mpr ⟨p,hm,rfl⟩,hx⟩
  have ly:=ay.len;rw [ok.ns p hm] at ly lu'
  walk_at "x0"
  refine Bk (Gf _ _) ?_;have x5':=x5.trans (Ext.more (g:=[MO.lst (ys.map e2)]));have g4':=x5'.old _ _ (by simp;omega) g4
  walk_at "x0"
  refine ⟨ty_list g4',?_⟩
  walk_at "x0"
  refine Cr g4' ?_ ?_
  ·rw [aq,← a4.len,jj,ok.ps];omega
  walk_at "x0"
  refine ⟨_,_,_,_,_,_,qs++[⟨p.pl,ys,p.ms,p.s0,p.s1,p.bell⟩],us',rfl,li,?_,?_,?_,hu',?_,?_⟩
  ·rw [take_succ er];exact a4.snoc ⟨rfl,rfl,ay⟩
  ·rw [Ek g4',jb];rfl
  ·omega
  ·unfold IsI;rw [gk (by omega)];exact g5.ext Ext.more
  ·exact (Ld y4 x5' hjd).setNew (by have:=x1'.len;omega)
 ·rintro l h4 ⟨x7,x8,x9,x10,x11,x12,qs,us,rfl,hi,a4,g4,lu,hu,gd,y4⟩;rw [aq,nu] at a4 lu
  walk_at "x0"
  generalize hm5:h4++[MO.lst []]=m5;have y5:Ext [] mh m5:=by rw [← hm5];exact y4.trans Ext.more
  have gq:m5[m1.length]?=some (.lst (qs.map (gpD e2))):=by rw [← hm5];exact (Ext.more (W:=[])).old _ _ (by simp) g4
  have gr:m5[h4.length]?=some (.lst (([]:List (List (List (Int×β×Int)))).map (rwD e2))):=by rw [← hm5];exact Ah
  have gd5:IsI m5 jd us:=by rw [← hm5];exact gd.ext Ext.more
  have l4:=El g4;have l5:=El gr;have lmh:=y4.len
  clear hm5
  refine Dz ?_
  walk_at "x0"
  refine Bm (j:=1) rfl ?_
  walk_at "x0"
  refine ⟨_,rfl,w.rs.map (rwD e1),λi l h=>∃ x2 x3 x14,∃ (qr:List (List (List (Int×β×Int)))) (us:List Int),l=[some (gwD e1 w),some (.int cell),x2,x3,some (.int (w.nums.length:Nat)),some (.ref jd),some (.ref m1.length),x7,x8,x9,x10,x11,x12,some (.ref h4.length),x14]/\i<=w.rs.length/\All2 (All2 (All2 (RL R))) (w.rs.take i) qr/\h[h4.length]?=some (.lst (qr.map (rwD e2)))/\h[m1.length]?=some (.lst (qs.map (gpD e2)))/\us.length+((nsP w.ps).length+(nsL (w.rs.take i).flatten).length)=w.nums.length/\(∀ v∈us,0<=v)/\IsI h jd us/\m5.length<=h.length/\Ext [] mh h,
   ⟨none,none,none,[],us,rfl,oh _,.nil,gr,gq,lu,hu,gd5,cg _,y5⟩,λ_ _ _ _=>⟨rfl,rfl⟩,?_,?_⟩
  ·rintro i d l h6 ed ⟨x2,x3,x14,qr,us,rfl,hi,a6,g6,gq6,lu6,hu6,gd6,lh6,y6⟩;obtain ⟨r,er,rfl⟩:=N6 ed;have hm:=di er;have li:=(bf.mp er).1;have l6:=El g6
   walk_at "x0"
   generalize hm7:h6++[MO.lst []]=m7;have y7:Ext [] mh m7:=by rw [← hm7];exact y6.trans Ext.more
   have x67:Ext [] h6 m7:=by rw [← hm7];exact Ext.more
   have gs:m7[h6.length]?=some (.lst (([]:List (List (Int×β×Int))).map (lsD e2))):=by rw [← hm7];exact Ah
   have ls:=El gs
   clear hm7
   refine Dz ?_
   walk_at "x0"
   refine ⟨_,rfl,r.map (lsD e1),λi' l h=>∃ x3,∃ (qw:List (List (Int×β×Int))) (us:List Int),l=[some (gwD e1 w),some (.int cell),some (rwD e1 r),x3,some (.int (w.nums.length:Nat)),some (.ref jd),some (.ref m1.length),x7,x8,x9,x10,x11,x12,some (.ref h4.length),some (.ref h6.length)]/\i'<=r.length/\All2 (All2 (RL R)) (r.take i') qw/\h[h6.length]?=some (.lst (qw.map (lsD e2)))/\h[h4.length]?=some (.lst (qr.map (rwD e2)))/\h[m1.length]?=some (.lst (qs.map (gpD e2)))/\us.length+((nsP w.ps).length+(nsL (w.rs.take i).flatten).length+(nsL (r.take i')).length)=w.nums.length/\(∀ v∈us,0<=v)/\IsI h jd us/\m7.length<=h.length/\Ext [] mh h,
    ⟨x3,[],us,rfl,oh _,.nil,gs,x67.old _ _ (by simp) g6,x67.old _ _ (by simp) gq6,lu6,hu6,gd6.ext x67,cg _,y7⟩,λ_ _ _ _=>⟨rfl,rfl⟩,?_,?_⟩
   ·rintro i' d l h8 ed2 ⟨x3,qw,us,rfl,hi',a8,g8,gr8,gq8,lu8,hu8,gd8,lh8,y8⟩;obtain ⟨l,el,rfl⟩:=N6 ed2;have hml:=di el;have lil:=(bf.mp el).1;have llt:=ok.ls r hm l hml;have lN:(nsL (r.take (i'+1))).length=(nsL (r.take i')).length+l.length:=by rw [take_succ el,mG,bh,aq]
    have sub:(nsL (w.rs.take i).flatten).length+(nsL (r.take (i'+1))).length<=(nsL w.rs.flatten).length:=by
     have e1:nsL w.rs.flatten=nsL (w.rs.take (i+1)).flatten++nsL (w.rs.drop (i+1)).flatten:=by
      rw [← Km,← ql,qt]
     have e2:nsL (w.rs.take (i+1)).flatten=nsL (w.rs.take i).flatten++nsL r:=by
      rw [take_succ er,ql,Km];simp
     have e3:nsL r=nsL (r.take (i'+1))++nsL (r.drop (i'+1)):=by rw [← Km,qt]
     rw [e1,e2,e3];simp only [bh];omega
    walk_at "x0"
    refine ⟨ty_list g8,?_⟩
    walk_at "x0"
    refine W5 (xs:=l) hf rfl rfl gd8 (by omega) (λx hx=>ml _ ?_) (by omega) (by omega) hu8 λys us' h9 ay lu' hu' g9 x9=>?_
    ·unfold nsL;exact BW.mpr ⟨_,gj.mpr ⟨l,BW.mpr ⟨r,hm,hml⟩,rfl⟩,gj.mpr ⟨x,hx,rfl⟩⟩
    have x9':=x9.trans (Ext.more (g:=[MO.lst (ys.map (glD e2))]));have q1:=x9'.old _ _ (by simp;omega) g8;have q2:=x9'.old _ _ (by simp;omega) gr8;have q3:=x9'.old _ _ (by simp;omega) gq8;have l9:=x9'.len
    walk_at "x0"
    refine Bk (Gf _ _) ?_
    walk_at "x0"
    refine Cr q1 ?_ ?_
    ·rw [aq,← a8.len,jj,ok.rw r hm];omega
    walk_at "x0"
    refine ⟨_,qw++[ys],us',rfl,lil,?_,?_,?_,?_,?_,hu',?_,?_,?_⟩
    ·rw [take_succ el];exact a8.snoc ay
    ·rw [Ek q1,jb];rfl
    ·rw [gk (by omega)];exact q2
    ·rw [gk (by omega)];exact q3
    ·omega
    ·unfold IsI;rw [gk (by omega)];exact g9.ext Ext.more
    ·rw [iw];omega
    ·exact (Ld y8 x9' hjd).setNew (by omega)
   ·rintro l h8 ⟨x3,qw,us,rfl,hi',a8,g8,gr8,gq8,lu8,hu8,gd8,lh8,y8⟩;rw [aq,nu] at a8 lu8
    walk_at "x0"
    refine ⟨ty_list gr8,?_⟩
    walk_at "x0"
    refine Bk (Eb g8) ?_
    walk_at "x0"
    refine Cr gr8 ?_ ?_
    ·rw [aq,← a6.len,jj,ok.rs];omega
    walk_at "x0"
    refine ⟨_,_,_,qr++[qw],us,rfl,li,?_,?_,?_,?_,hu8,?_,?_,?_⟩
    ·rw [take_succ er];exact a6.snoc a8
    ·rw [Ek gr8,jb];rfl
    ·rw [gk (by omega)];exact gq8
    ·rw [take_succ er,ql,Km,bh];simp only [GR,List.flatten_nil,ni];omega
    ·unfold IsI;rw [gk (by omega)];exact gd8
    ·rw [iw];omega
    ·exact y8.setNew (by omega)
  ·rintro l h6 ⟨x2,x3,x14,qr,us,rfl,hi,a6,g6,gq6,lu6,hu6,gd6,lh6,y6⟩;rw [aq,nu] at a6
   walk_at "x0"
   refine Bk (Eb gq6) ?_
   walk_at "x0"
   refine Bk (Eb g6) ?_
   walk_at "x0"
   refine Bm (j:=2) rfl ?_
   walk_at "x0"
   exact h ⟨qs,qr,w.x,w.y⟩ h6 a4 a6 rfl y6
end
section
variable {α β γ δ:Type}
theorem All2.mem_r {R:α->β->Prop}:∀ {a:List α}{b:List β},All2 R a b->∀ y∈b,∃ x∈a,R x y
 | _,_,.nil,y,h=>by cases h
 | _,_,.cons r t,y,h=>by
  rcases dg.mp h with rfl|h
  ·exact ⟨_,iy,r⟩
  ·obtain ⟨x,hx,q⟩:=All2.mem_r t y h;exact ⟨x,iu _ hx,q⟩
end
theorem Ad9 (k:Nat):Ad7 (Af (Gk (k+2)) fuel f45):=λc n h P hn cb=>Jb k c n hn 10000 (by decide) (by decide) h λvs j h' lv pv x g hj=>cb vs j h' lv (λv hv=>(pv v hv).1) x g hj
noncomputable abbrev RA:Int->Pr->Prop:=λn q=>inP n q/\okP q
theorem mL (k H:Nat) (w:Gw Int) (hH:H<=6) (ok:w.ok H) (cell:Int) (mh:MH) {P:D->MH->Prop}(h:∀ (p:Gw Pr) h',All2 (RP RA) w.ps p.ps->All2 (All2 (All2 (RL RA))) w.rs p.rs->(p.x,p.y)=(w.x,w.y)->Ext [] mh h'->P (gwD prD p) h'):wV (Af (Gk (k+3)) fuel f55 [gwD D.int w,.int cell] mh) P:=by
 refine Aq (Aa5 (k+2)) lB.1 lB.2 rfl ?_;show wS (b55 (k+2)) [some (gwD D.int w),some (.int cell),none,none,none,none,none,none,none,none,none,none,none,none,none] mh _;rw [Ad6];exact Ad8 (R0:=λ_=>True) (R:=RA) H w hH ok (λ_ _=>trivial) (λx v h P _ hv cb=>mH (k+1) x v hv h λp h' hp ho x'=>cb p h' ⟨hp,ho⟩ x') (Ad9 k) cell mh h
noncomputable def toG (p:Pt):Gp Int:=⟨p.pl,p.ns,p.ms,p.s0,p.s1,p.bell⟩
theorem Aea (ps:List Pt) (rs:Rows) (x y:Int):Abg ps rs x y=gwD D.int ⟨ps.map toG,rs,x,y⟩:=by
 unfold Abg gwD;rw [kh];rfl
noncomputable def gPt (a b:Int):Pr:=(some a,some b)
theorem sU (k H:Nat) (w:Gw Int) (hH:H<=6) (ow:w.ok H) (mh:MH) (h0:mh[0]?=some .plc) {P:D->MH->Prop}(h:∀ h',Ext [] mh h'->P (gwD prD (zpW gPt w w)) h'):wV (lamF (Gk (k+5)) "zipped" [gwD D.int w] mh) P:=by
 have el:lamF (Gk (k+5)) "zipped" [gwD D.int w] mh=Af (Gk (k+4)) fuel f38 [gwD D.int w,gwD D.int w,.lam] mh:=by
  have ec:(Gk (k+5)).cal "zipped"=some (f38.ps,Af (Gk (k+4)) fuel f38):=by kernel_rfl
  unfold lamF;rw [h0,ec]
 rw [el];exact W4 k H Abh w w hH ow mh h
noncomputable def Th (mh:MH):Nat->D->Prop
 | _,.non=>True
 | _,.bl _=>True
 | _,.int _=>True
 | _,.str x=>uc x=true
 | n+1,.tup ds=>∀ x∈ds,Th mh n x
 | n+1,.ref k=>∃ ds,mh[k]?=some (.lst ds)/\∀ x∈ds,Th mh n x
 | _,_=>False
theorem Th.tup0 {mh:MH}{ds:List D}(t:Th mh 0 (.tup ds)):False:=by simp [Th] at t
theorem Th.items {mh:MH}{n:Nat}{ds:List D}(t:Th mh n (.tup ds)):∃ m,n=m+1/\∀ x∈ds,Th mh m x:=by
 cases n with
 | zero=>exact t.tup0.elim
 | succ m=>simp only [Th] at t;exact ⟨m,rfl,t⟩
theorem Th.mono {mh h:MH}(e:∀ (k:Nat) (ds:List D),mh[k]?=some (.lst ds)->h[k]?=some (.lst ds)):∀ {n:Nat}{d:D},Th mh n d->Th h n d:=by
 intro n
 induction n with
 | zero=>intro d t;cases d <;> simp_all [Th]
 | succ n ih =>
  intro d t;cases d with
  | tup ds=>simp only [Th] at t ⊢;exact λx hx=>ih (t x hx)
  | ref k=>simp only [Th] at t ⊢;obtain ⟨ds,q,t⟩:=t;exact ⟨ds,e _ _ q,λx hx=>ih (t x hx)⟩
  | _=>simp_all [Th]
theorem Th.ext {mh h:MH}(e:Ext [] mh h) {n:Nat}{d:D}(t:Th mh n d):Th h n d:=t.mono λk ds q=>e.old _ _ (by simp) q
theorem Th.up {mh:MH}:∀ {n:Nat}{d:D},Th mh n d->Th mh (n+1) d:=by
 intro n
 induction n with
 | zero=>intro d t;cases d <;> simp_all [Th]
 | succ n ih =>
  intro d t;cases d with
  | tup ds=>simp only [Th] at t ⊢;exact λx hx=>ih (t x hx)
  | ref k=>simp only [Th] at t ⊢;obtain ⟨ds,q,t⟩:=t;exact ⟨ds,q,λx hx=>ih (t x hx)⟩
  | _=>simp_all [Th]
theorem Io {f:D->Option PyData}:∀ {ds:List D},(∀ x∈ds,∃ a,f x=some a)->∃ as,Gx f ds=some as/\as.length=ds.length
 | [],_=>⟨[],rfl,rfl⟩
 | d::r,h=>by
  obtain ⟨a,ea⟩:=h d iy;obtain ⟨as,eas,el⟩:=Io λx hx=>h x (iu _ hx)
  exact ⟨a::as,by simp only [Gx,ea,eas],by rw [jk,jk,el]⟩
theorem Th.py {mh:MH}:∀ {n:Nat}{d:D},Th mh n d->∃ a,DL.py mh n d=some a:=by
 intro n
 induction n with
 | zero =>
  intro d t;cases d with
  | non=>exact ⟨_,rfl⟩
  | bl _=>exact ⟨_,rfl⟩
  | int _=>exact ⟨_,rfl⟩
  | str x =>
   have t2:uc x=true:=by simpa [Th] using t
   exact ⟨.str x,by show (if uc x=true then some (LQ x) else none)=_;rw [if_pos t2]⟩
  | _=>simp [Th] at t
 | succ n ih =>
  intro d t;cases d with
  | non=>exact ⟨_,rfl⟩
  | bl _=>exact ⟨_,rfl⟩
  | int _=>exact ⟨_,rfl⟩
  | str x =>
   have t2:uc x=true:=by simpa [Th] using t
   exact ⟨.str x,by show (if uc x=true then some (LQ x) else none)=_;rw [if_pos t2]⟩
  | tup ds =>
   simp only [Th] at t;obtain ⟨as,e,_⟩:=Io (f:=DL.py mh n) λx hx=>ih (t x hx)
   exact ⟨.tuple as,by show (match Gx (DL.py mh n) ds with | some xs=>some (PyData.tuple xs) | none=>none)=_;rw [e]⟩
  | ref k =>
   simp only [Th] at t;obtain ⟨ds,e1,t⟩:=t;obtain ⟨as,e,_⟩:=Io (f:=DL.py mh n) λx hx=>ih (t x hx)
   exact ⟨.list as,by show (match mh[k]? with | some (.lst o)=>(match Gx (DL.py mh n) o with | some xs=>some (PyData.list xs) | none=>none) | _=>none)=_;rw [e1];dsimp only;rw [e]⟩
  | _=>simp [Th] at t
theorem Th.le {mh:MH}{d:D}{n:Nat}(t:Th mh n d):∀ {m:Nat},n<=m->Th mh m d:=λ{m} h=>by
 induction m with
 | zero =>
  have z:n=0:=by omega
  subst z;exact t
 | succ m ih =>
  by_cases e:n=m+1
  ·subst e;exact t
  ·exact (ih (by omega)).up
noncomputable def tag:D->String
 | .non => "NoneType"
 | .bl _ => "bool"
 | .int _ => "int"
 | .str _ => "str"
 | .tup _ => "tuple"
 | _ => "list"
theorem Th.tag {mh:MH}{n:Nat}{d:D}(t:Th mh n d):Vt d mh=some (Lw.tag d):=by
 cases d with
 | ref k =>
  cases n with
  | zero=>simp [Th] at t
  | succ n =>
   simp only [Th] at t;obtain ⟨ds,e,_⟩:=t
   show (match mh[k]? with | some (.lst _)=>some "list" | _=>none)=_;rw [e];rfl
 | non=>rfl
 | bl _=>rfl
 | int _=>rfl
 | str _=>rfl
 | tup _=>rfl
 | _=>cases n <;> simp [Th] at t
noncomputable def isT:D->Bool
 | .tup _=>true
 | _=>false
noncomputable def whB:D->Bool
 | .int _=>true
 | _=>false
noncomputable def Aeb:D->Bool
 | .int _=>true
 | .bl _=>true
 | _=>false
noncomputable def blB:D->Bool
 | .bl _=>true
 | _=>false
local macro_rules | `(tactic| walk_at "x2") => `(tactic| repeat (first | walk_at "s" | with_reducible refine R4 (by simp) ?_))
section
variable {mh:MH}{n:Nat}{d:D}{P:D->MH->Prop}
theorem Dr (t:Th mh n d) (h:P (.bl (isT d)) mh):wV (M8 "tuple" d mh) P:=Rt t.tag (b:=isT d) (by cases d <;> rfl) h
theorem R9 (t:Th mh n d) (h:P (.bl (Aeb d)) mh):wV (M8 "int" d mh) P:=Rt t.tag (b:=Aeb d) (by cases d <;> rfl) h
theorem N8 (t:Th mh n d) (h:P (.bl (blB d)) mh):wV (M8 "bool" d mh) P:=Rt t.tag (b:=blB d) (by cases d <;> rfl) h
noncomputable def sV:D->Bool
 | .non=>true
 | _=>false
theorem Abl (h:P (.bl (sV d)) mh):wV (isD false d .non mh) P:=⟨_,_,rfl,by cases d <;> exact h⟩
noncomputable def btB (l h:Int):D->Bool
 | .int i=>decide (l<=i)&&decide (i<=h)
 | _=>false
noncomputable def bdB:D->Bool
 | .non=>true
 | .int _=>true
 | _=>false
theorem Py (k:Nat) (t:Th mh n d) (h:P (.bl (whB d)) mh):wV (Af (Gk (k+1)) fuel f1 [d] mh) P:=by
 refine Aq (Adw k) uK.1 uK.2 rfl ?_;show wS (b1 k) [some d] mh _;unfold b1
 walk_at "x2"
 refine R9 t ?_;refine ⟨_,rfl,λe=>?_,λe=>?_⟩
 ·walk_at "x2"
  refine N8 t ?_
  walk_at "x2"
  cases d <;> first | exact h | cases e
 ·cases d <;> first | exact h | cases e
theorem Dv (k:Nat) (l u:Int) (t:Th mh n d) (h:P (.bl (btB l u d)) mh):wV (Af (Gk (k+2)) fuel f2 [d,.int l,.int u] mh) P:=by
 refine Aq (Adx (k+1)) uL.1 uL.2 rfl ?_;show wS (b2 (k+1)) [some d,some (.int l),some (.int u)] mh _;unfold b2
 walk_at "x2"
 refine Py k t ?_;refine ⟨_,rfl,λe=>?_,λe=>?_⟩
 ·cases d with
  | int i =>
   walk_at "x2"
   refine Am (λe=>?_) λe=>?_
   ·walk_at "x2"
    have h:P (.bl (decide (l<=i)&&decide (i<=u))) mh:=h;rw [e,gh] at h;exact h
   ·have h:P (.bl (decide (l<=i)&&decide (i<=u))) mh:=h;rw [e,jf] at h;exact h
  | _=>cases e
 ·cases d <;> first | exact h | cases e
end
noncomputable def Ji (n:Nat):D->Bool
 | .tup ds=>ds.length==n
 | _=>false
section
variable {mh:MH}{n:Nat}{d:D}{P:D->MH->Prop}
theorem Er (k m:Nat) (t:Th mh n d) (h:P (.bl (Ji m d)) mh):wV (Af (Gk (k+1)) fuel f3 [d,.int m] mh) P:=by
 refine Aq (Ady k) uM.1 uM.2 rfl ?_;show wS (b3 k) [some d,some (.int m)] mh _;unfold b3
 walk_at "x2"
 refine Dr t ?_;refine ⟨_,rfl,λe=>?_,λe=>?_⟩
 ·cases d with
  | tup ds =>
   walk_at "x2"
   refine Cd (ds:=ds) (by intro z z';cases z') rfl ?_
   walk_at "x2"
   have e:(((ds.length:Nat):Int)==(m:Int))=(ds.length==m):=by
    by_cases z:ds.length=m
    ·rw [z];simp
    ·rw [beq_eq_false_iff_ne.mpr z];exact beq_eq_false_iff_ne.mpr λq=>z (by omega)
   rw [e];exact h
  | _=>cases e
 ·cases d <;> first | exact h | cases e
noncomputable def Jj (m:Nat) (l u:Int):D->Bool
 | .tup ds=>(ds.length==m)&&ds.all (btB l u)
 | _=>false
theorem G5 {j:Nat}{mh:MH}{bs:List Bool}{P:D->MH->Prop}(e:mh[j]?=some (.lst (bs.map D.bl))) (h:P (.bl (bs.all id)) mh):wV (Tn [.ref j] mh) P:=jF (f:=λbs=>bs.all id) (Eb e) h
theorem Yp (k m:Nat) (l u:Int) (t:Th mh n d) (hz:m<=1000) (h:∀ h',Ext [] mh h'->P (.bl (Jj m l u d)) h'):wV (Af (Gk (k+3)) fuel f4 [d,.int m,.int l,.int u] mh) P:=by
 refine Aq (Adz (k+2)) uN.1 uN.2 rfl ?_;show wS (b4 (k+2)) [some d,some (.int m),some (.int l),some (.int u)] mh _;unfold b4
 walk_at "x2"
 refine Er (k+1) m t ?_;refine ⟨_,rfl,λe=>?_,λe=>?_⟩
 ·cases d with
  | tup ds =>
   have el:ds.length=m:=cj e;obtain ⟨n',rfl,ti⟩:=t.items
   walk_at "x2"
   refine Cv ds id (λx=>.bl (btB l u x)) (by omega) (Gr (Dd (by with_unfolding_all rfl) ⟨_,rfl,Je (F:=id) (by simp)⟩)) (λx h1 R hx x1 hR=>?_) λh1 x1=>?_
   ·refine Cw ⟨rfl,?_⟩
    walk_at "x2"
    exact Dv k l u ((ti x hx).ext x1) (hR _ Ext.refl)
   ·walk_at "x2"
    refine G5 (bs:=ds.map (btB l u)) (by rw [Ah,kh];rfl) ?_;have:=h _ (x1.trans (Ext.more (g:=[.lst (ds.map λx=>.bl (btB l u x))])));have e2:Jj m l u (.tup ds)=(ds.map (btB l u)).all id:=by
     show ((ds.length==m)&&ds.all (btB l u))=_;rw [el,beq_self_eq_true,gh,ug];rfl
    rw [e2] at this;exact this
  | _=>cases e
 ·have e2:Jj m l u d=false:=by
   cases d with
   | tup ds=>show ((ds.length==m)&&_)=false;rw [show (ds.length==m)=false from e];rfl
   | _=>rfl
  have:=h _ Ext.refl;rw [e2] at this;exact this
end
theorem Abm {a:D}{r:List D}{mh:MH}{P:D->MH->Prop}(h:P a mh):wV (ixD (.tup (a::r)) (.int 0) mh) P:=Bm (j:=0) rfl h
theorem mO {a b:D}{r:List D}{mh:MH}{P:D->MH->Prop}(h:P b mh):wV (ixD (.tup (a::b::r)) (.int 1) mh) P:=Bm (j:=1) rfl h
theorem mQ {a b c:D}{r:List D}{mh:MH}{P:D->MH->Prop}(h:P c mh):wV (ixD (.tup (a::b::c::r)) (.int 2) mh) P:=Bm (j:=2) rfl h
theorem Abn {a b c d:D}{r:List D}{mh:MH}{P:D->MH->Prop}(h:P d mh):wV (ixD (.tup (a::b::c::d::r)) (.int 3) mh) P:=Bm (j:=3) rfl h
theorem Abo {a b c d e:D}{r:List D}{mh:MH}{P:D->MH->Prop}(h:P e mh):wV (ixD (.tup (a::b::c::d::e::r)) (.int 4) mh) P:=Bm (j:=4) rfl h
noncomputable def vdB:D->D->Bool
 | .int a,.int b=>decide (b < a)
 | _,_=>false
noncomputable def prB:D->Bool
 | .tup [a,b]=>bdB a&&(bdB b&&!(vdB a b))
 | _=>false
structure Pg where
 room:Nat
 l0:Nat
 l1:Nat
 roles:List (List D)
 plays:List Nat
noncomputable def Pg.d (p:Pg):D:=.tup [.int p.room,.tup [.int p.l0,.int p.l1],.tup (p.roles.map D.tup),.tup (p.plays.map Cu)]
noncomputable def Pg.H (p:Pg):Nat:=p.plays.length
noncomputable def Pg.len (p:Pg) (r:Nat):Nat:=((p.roles[r]?).getD []).length
structure Pg.ok (p:Pg):Prop where
 h1:1<=p.plays.length
 h6:p.plays.length<=6
 pl:∀ r∈p.plays,r < p.roles.length
 rm:p.room<=10
noncomputable def Cm (H:Nat):D->Bool
 | .tup [k,n,m]=>btB 1 12 k&&(prB n&&btB (-1) ((H:Int) - 1) m)
 | _=>false
noncomputable def Le (p:Pg):D->Bool
 | .tup ls=>decide (ls.length<=p.room)&&ls.all (Cm p.H)
 | _=>false
noncomputable def Fy (p:Pg):D->Bool
 | .tup ws=>(ws.length==p.H)&&ws.all (Le p)
 | _=>false
noncomputable def Hu (p:Pg):D->Bool
 | .tup rs=>(rs.length==p.H)&&rs.all (Fy p)
 | _=>false
noncomputable def Ly:D->Bool
 | .tup ds=>(ds.length==3)&&ds.all prB
 | _=>false
noncomputable def Gg (H L:Nat):D->Bool
 | .tup [pl,ns,ms,ss,b]=>btB (-1) (L:Int) pl&&(Ly ns&&(Jj 3 (-1) ((H:Int) - 1) ms&&(Jj 2 0 ((2 ^ H:Nat) - 1) ss&&blB b)))
 | _=>false
noncomputable def Dm (p:Pg):D->Bool
 | .tup ps=>(ps.length==p.H)&&(gw (λr x=>Gg p.H (p.len r) x) p.plays ps).all id
 | _=>false
noncomputable def Ko (p:Pg):D->Bool
 | .tup [x,y]=>btB 0 p.l0 x&&btB 0 p.l1 y
 | _=>false
noncomputable def Ip (p:Pg):D->Bool
 | .tup [x,y,z]=>Dm p x&&(Hu p y&&Ko p z)
 | _=>false
theorem U7 {k i:Nat}{mr:DM (List D)}{loc:DL.Loc}{mh:MH}{P:D->MH->Prop}(el:loc[i]?=some (some (.fn "is_pair"))) (h:wD mr loc mh λds h1=>wV (Af (Gk k) fuel f8 ds h1) P):wD (Ff (Gk (k+1)).cal (Gk (k+1)).clo i mr) loc mh P:=by
 obtain ⟨ds,h1,e1,d,h2,e2,q⟩:=h;refine ⟨d,h2,?_,q⟩;unfold Ff;rw [el];show (mr.bnd λds=>Zl (Af (Gk k) fuel f8 ds)) loc mh=_;unfold DM.bnd;rw [e1];exact e2
theorem sW {d:D}(h:Ji 3 d=true):∃ a b c,d=.tup [a,b,c]:=by
 cases d with
 | tup ds =>
  have h:(ds.length==3)=true:=h
  match ds,cj h with
  | [a,b,c],_=>exact ⟨a,b,c,rfl⟩
 | _=>cases h
theorem Abp {d:D}(h:Ji 2 d=true):∃ a b,d=.tup [a,b]:=by
 cases d with
 | tup ds =>
  have h:(ds.length==2)=true:=h
  match ds,cj h with
  | [a,b],_=>exact ⟨a,b,rfl⟩
 | _=>cases h
theorem Aec {d:D}(h:Ji 5 d=true):∃ a b c x y,d=.tup [a,b,c,x,y]:=by
 cases d with
 | tup ds =>
  have h:(ds.length==5)=true:=h
  match ds,cj h with
  | [a,b,c,x,y],_=>exact ⟨a,b,c,x,y,rfl⟩
 | _=>cases h
theorem Aed {d:D}(h:Ji 3 d=false) {H:Nat}:Cm H d=false:=by
 unfold Cm;split
 ·cases h
 ·rfl
theorem Aee {d:D}(h:Ji 5 d=false) {H L:Nat}:Gg H L d=false:=by
 unfold Gg;split
 ·cases h
 ·rfl
theorem Aef {d:D}(h:Ji 2 d=false) {p:Pg}:Ko p d=false:=by
 unfold Ko;split
 ·cases h
 ·rfl
theorem Aeg {d:D}(h:Ji 3 d=false) {p:Pg}:Ip p d=false:=by
 unfold Ip;split
 ·cases h
 ·rfl
local macro_rules | `(tactic| walk_at "x1") => `(tactic| repeat (first | walk_at "s" | with_reducible refine R4 (by simp) ?_ | with_reducible refine Abm ?_ | with_reducible refine mO ?_ | with_reducible refine mQ ?_ | with_reducible refine Abn ?_ | with_reducible refine Abo ?_))
section
variable {mh:MH}{n:Nat}{d:D}{P:D->MH->Prop}
theorem Pz (k:Nat) (t:Th mh n d) (h:P (.bl (bdB d)) mh):wV (Af (Gk (k+2)) fuel f6 [d] mh) P:=by
 refine Aq (Ad0 (k+1)) uO.1 uO.2 rfl ?_;show wS (b6 (k+1)) [some d] mh _;unfold b6
 walk_at "x1"
 refine Abl ⟨_,rfl,λe=>?_,λe=>?_⟩
 ·cases d <;> first | exact h | cases e
 ·walk_at "x1"
  refine Py k t ?_;cases d <;> first | exact h | cases e
theorem uV {d:D}(h:Ji 2 d=false):prB d=false:=by
 unfold prB;split
 ·cases h
 ·rfl
theorem mR {a b:D}(k:Nat) (h1:bdB a=true) (h2:bdB b=true):Af (Gk (k+1)) fuel f7 [.tup [a,b]] mh=some (.bl (vdB a b),mh):=by
 cases a <;> first | (cases h1;done) | (cases b <;> first | (cases h2;done) | kernel_rfl)
theorem Oa (k:Nat) (t:Th mh n d) (h:P (.bl (prB d)) mh):wV (Af (Gk (k+3)) fuel f8 [d] mh) P:=by
 refine Aq (Ad1 (k+2)) uP.1 uP.2 rfl ?_;show wS (b8 (k+2)) [some d] mh _;unfold b8
 walk_at "x1"
 refine Er (k+1) 2 t ⟨_,rfl,Am (λe=>?_) λe=>?_⟩
 ·obtain ⟨a,b,rfl⟩:=Abp e;obtain ⟨n',rfl,ti⟩:=t.items;have h:P (.bl (bdB a&&(bdB b&&!(vdB a b)))) mh:=h
  walk_at "x1"
  refine Pz k (ti a (by simp)) ⟨_,rfl,Am (λe1=>?_) λe1=>?_⟩
  ·rw [e1,gh] at h
   walk_at "x1"
   refine Pz k (ti b (by simp)) ⟨_,rfl,Am (λe2=>?_) λe2=>?_⟩
   ·rw [e2,gh] at h
    walk_at "x1"
    refine Ls (mR (k+1) e1 e2) ?_
    walk_at "x1"
    exact h
   ·rw [e2,jf] at h;exact h
  ·rw [e1,jf] at h;exact h
 ·rw [uV e] at h;exact h
theorem W6 (k H:Nat) (t:Th mh n d) (h:P (.bl (Cm H d)) mh):wV (Af (Gk (k+4)) fuel f34 [d,.int H,.fn "is_pair"] mh) P:=by
 refine Aq (Aan (k+3)) jO.1 jO.2 rfl ?_
 show wS (b34 (k+3)) [some d,some (.int H),some (.fn "is_pair")] mh _;unfold b34
 walk_at "x1"
 refine Er (k+2) 3 t ⟨_,rfl,?_⟩;cases e:Ji 3 d with
 | false =>
  rw [Aed e] at h
  walk_at "x1"
  exact h
 | true =>
  obtain ⟨a,b,c,rfl⟩:=sW e;obtain ⟨n',rfl,ti⟩:=t.items;have h:P (.bl (btB 1 12 a&&(prB b&&btB (-1) ((H:Int) - 1) c))) mh:=h
  walk_at "x1"
  refine Dv (k+1) 1 12 (ti a (by simp)) ⟨_,rfl,Am (λe1=>?_) λe1=>?_⟩
  ·rw [e1,gh] at h;refine Yl (U7 (by with_unfolding_all rfl) ?_)
   walk_at "x1"
   refine Oa k (ti b (by simp)) ⟨_,rfl,Am (λe2=>?_) λe2=>?_⟩
   ·rw [e2,gh] at h
    walk_at "x1"
    exact Dv (k+1) (-1) _ (ti c (by simp)) h
   ·rw [e2,jf] at h;exact h
  ·rw [e1,jf] at h;exact h
theorem sX (k:Nat) (p:Pg) (po:p.ok) (t:Th mh n d) (h:∀ h',Ext [] mh h'->P (.bl (Le p d)) h'):wV (Af (Gk (k+5)) fuel f33 [p.d,d,.fn "is_pair"] mh) P:=by
 refine Aq (Aam (k+4)) jN.1 jN.2 rfl ?_
 show wS (b33 (k+4)) [some p.d,some d,some (.fn "is_pair")] mh _;unfold b33 Pg.d;refine Cj (Ij (Ho (Ep (Ez (Fx (Dd (by with_unfolding_all rfl) (Dr t ⟨_,rfl,λe=>?_,λe=>?_⟩)))))))
 ·walk_at "x1"
  have e2:Le p d=false:=by cases d <;> first | rfl | cases e
  rw [e2] at h;exact h _ Ext.refl
 ·cases d with
  | tup ls =>
   obtain ⟨n',rfl,ti⟩:=t.items
   walk_at "x1"
   refine Cd (ds:=ls) (by intro z z';cases z') rfl ?_
   walk_at "x1"
   have h:∀ h',Ext [] mh h'->P (.bl (decide (ls.length<=p.room)&&ls.all (Cm p.H))) h':=h;refine Am (λe1=>?_) λe1=>?_
   ·walk_at "x1"
    have e1:=of_decide_eq_true e1;rw [decide_eq_false (by omega),jf] at h;exact h _ Ext.refl
   ·have e1:=of_decide_eq_false e1;rw [decide_eq_true (by omega),gh] at h
    walk_at "x1"
    have rm:=po.rm;refine Cv ls id (λx=>.bl (Cm p.H x)) (by omega) (Gr (Dd (by with_unfolding_all rfl) ⟨_,rfl,Je (F:=id) (by simp)⟩)) (λx h1 R hx x1 hR=>?_) λh1 x1=>?_
    ·refine Cw ⟨rfl,?_⟩
     walk_at "x1"
     refine Cd (ds:=p.plays.map Cu) (by intro z z';cases z') rfl ?_
     walk_at "x1"
     rw [aq];exact W6 k p.H ((ti x hx).ext x1) (hR _ Ext.refl)
    ·walk_at "x1"
     refine G5 (bs:=ls.map (Cm p.H)) (by rw [Ah,kh];rfl) ?_;have e2:ls.all (Cm p.H)=(ls.map (Cm p.H)).all id:=by rw [ug];rfl
     rw [e2] at h;exact h _ (x1.trans Ext.more)
  | _=>cases e
end
theorem sY {h:Nat}{mh:MH}{P:D->MH->Prop}(hh:h<=1000000) (q:P (.int ((2 ^ h:Nat):Int)) mh):wV (Wm (.int 1) (.int h) mh) P:=by
 refine Jr (by rw [decide_eq_true (show (0:Int)<=(h:Int) by omega),decide_eq_true (show (h:Int)<=1000000 by omega)];rfl) ?_;have e:(1:Int) * 2 ^ (h:Int).toNat=((2 ^ h:Nat):Int):=by rw [Int.one_mul,uy];push_cast;rfl
 rw [e];exact q
theorem mU {s t:List D}{α:Type}{xs:List α}{F:α->D}{mh:MH}(e:gw (λa b=>D.tup [a,b]) s t=xs.map F):Ext [] mh mh/\∀ h,Ext [] mh h->(Src.zip (.seq s) (.seq t)).ok h=true/\(Src.zip (.seq s) (.seq t)).items h=xs.map F:=⟨Ext.refl,λ_ _=>⟨rfl,e⟩⟩
section
variable {mh:MH}{n:Nat}{d:D}{P:D->MH->Prop}
theorem Jf (p:Pg) (h:P (.int p.H) mh):wV (Cz [.tup (p.plays.map Cu)] mh) P:=Cd (ds:=p.plays.map Cu) (by intro z z';cases z') rfl (by rw [aq];exact h)
theorem sZ (k:Nat) (p:Pg) (r:Nat) (hr:r < p.roles.length) (h:P (.int (p.len r)) mh):wV (Af (Gk (k+1)) fuel f23 [p.d,.int r] mh) P:=by
 refine Aq (Aag k) jG.1 jG.2 rfl ?_;show wS (b23 k) [some p.d,some (.int r)] mh _;unfold b23 Pg.d
 walk_at "x1"
 refine Bm (j:=r) (d:=.tup p.roles[r]) (by rw [dj,bw hr];rfl) ?_
 walk_at "x1"
 refine Cd (ds:=p.roles[r]) (by intro z z';cases z') rfl ?_;have e:p.len r=p.roles[r].length:=by unfold Pg.len;rw [bw hr];rfl
 rw [e] at h;exact h
theorem mV {ds:List D}(e:ds.length=3):Ly (.tup ds)=(ds.map prB).all id:=by
 show ((ds.length==3)&&ds.all prB)=_;rw [e,ug];rfl
theorem mW (k:Nat) (p:Pg) (po:p.ok) (r:Nat) (hr:r < p.roles.length) (t:Th mh n d) (h:∀ h',Ext [] mh h'->P (.bl (Gg p.H (p.len r) d)) h'):wV (Af (Gk (k+5)) fuel f31 [p.d,.int r,d,.fn "is_pair"] mh) P:=by
  have h6:p.H<=6:=po.h6;refine Aq (Aak (k+4)) jL.1 jL.2 rfl ?_
  show wS (b31 (k+4)) [some p.d,some (.int r),some d,some (.fn "is_pair"),none] mh _;unfold b31;refine Cj (Rq ?_);unfold Pg.d
  walk_at "x1"
  refine Jf p ?_;refine Cw (Ax ?_)
  show wS _ [some p.d,some (.int r),some d,some (.fn "is_pair"),some (.int p.H)] mh _
  walk_at "x1"
  refine Er (k+3) 5 t ⟨_,rfl,?_⟩;cases e:Ji 5 d with
  | false =>
    simp only [Aee e] at h
    walk_at "x1"
    exact h _ Ext.refl
  | true =>
    obtain ⟨a,ns,ms,ss,b,rfl⟩:=Aec e;obtain ⟨n',rfl,ti⟩:=t.items;have h:∀ h',Ext [] mh h'->P (.bl (btB (-1) (p.len r:Int) a&&(Ly ns&&(Jj 3 (-1) ((p.H:Int) - 1) ms&&(Jj 2 0 ((2 ^ p.H:Nat) - 1) ss&&blB b))))) h':=h
    walk_at "x1"
    refine sZ (k+3) p r hr ?_
    walk_at "x1"
    refine Dv (k+2) (-1) _ (ti a (by simp)) ⟨_,rfl,?_⟩;cases e1:btB (-1) (p.len r:Int) a with
    | false =>
      rw [e1] at h;simp only [jf] at h
      walk_at "x1"
      exact h _ Ext.refl
    | true =>
      rw [e1] at h;simp only [gh] at h
      have rest:∀ m1,Ext [] mh m1->(∀ h',Ext [] mh h'->P (.bl (Jj 3 (-1) ((p.H:Int) - 1) ms&&(Jj 2 0 ((2 ^ p.H:Nat) - 1) ss&&blB b))) h')->wS (Ab (ifS (Ce (Dh (Ae (Af (Gk (k+4)) fuel f4) (Aa (dop ixD (vr 2) (Zr (.int (2)))) (Aa (Zr (.int 3)) (Aa (Zr (.int (-1))) (Aa (dop Gq (vr 4) (Zr (.int 1))) (Zr []))))))))
         (Ab (retS (Zr (.bl false)))
          Zn)
         Zn)
         (Ab (retS (Ca (Ae (Af (Gk (k+4)) fuel f4) (Aa (dop ixD (vr 2) (Zr (.int (3)))) (Aa (Zr (.int 2)) (Aa (Zr (.int 0)) (Aa (dop Gq (dop Wm (Zr (.int 1)) (vr 4)) (Zr (.int 1))) (Zr [])))))) (Gd "bool" (dop ixD (vr 2) (Zr (.int (4)))))))
         Zn)) [some p.d,some (.int r),some (.tup [a,ns,ms,ss,b]),some (.fn "is_pair"),some (.int p.H)] m1 (Ux P):=λm1 x1 h=>by
        walk_at "x1"
        refine Yp (k+1) 3 (-1) _ ((ti ms (by simp)).ext x1) (by decide) λm2 x2=>⟨_,rfl,?_⟩
        cases e3:Jj 3 (-1) ((p.H:Int) - 1) ms with
        | false =>
          rw [e3] at h;simp only [jf] at h
          walk_at "x1"
          exact h _ (x1.trans x2)
        | true =>
          rw [e3] at h;simp only [gh] at h
          walk_at "x1"
          refine sY (by omega) ?_
          walk_at "x1"
          refine Yp (k+1) 2 0 _ ((ti ss (by simp)).ext (x1.trans x2)) (by decide) λm3 x3=>⟨_,rfl,Am (λe4=>?_) λe4=>?_⟩
          · rw [e4] at h;simp only [gh] at h
            walk_at "x1"
            exact N8 ((ti b (by simp)).ext ((x1.trans x2).trans x3)) (h _ ((x1.trans x2).trans x3))
          · rw [e4] at h;simp only [jf] at h;exact h _ ((x1.trans x2).trans x3)
      walk_at "x1"
      refine Er (k+3) 3 (ti ns (by simp)) ⟨_,rfl,?_⟩;cases e2:Ji 3 ns with
      | false =>
        have e3:Ly ns=false:=by
          cases ns with
          | tup ds=>show ((ds.length==3)&&_)=false;rw [show (ds.length==3)=false from e2];rfl
          | _=>rfl
        rw [e3] at h;simp only [jf] at h
        walk_at "x1"
        exact h _ Ext.refl
      | true =>
        cases ns with
        | tup ds =>
          have el:ds.length=3:=cj e2;obtain ⟨m',rfl,tn⟩:=(ti (.tup ds) (by simp)).items;rw [mV el] at h
          walk_at "x1"
          refine Cv ds id (λx=>.bl (prB x)) (by omega) (Gr (Uw (Dd (by with_unfolding_all rfl) (Dy (mO ⟨_,rfl,Je (F:=id) (by simp)⟩))))) (λx h1 R hx x1 hR=>?_) λh1 x1=>?_
          · refine Cw ⟨rfl,U7 (by with_unfolding_all rfl) ?_⟩
            walk_at "x1"
            exact Oa (k+1) ((tn x hx).ext x1) (hR _ Ext.refl)
          · walk_at "x1"
            refine G5 (bs:=ds.map prB) (by rw [Ah,kh];rfl) ⟨_,rfl,?_⟩;cases e3:(ds.map prB).all id with
            | false =>
              rw [e3] at h;simp only [jf] at h
              walk_at "x1"
              exact h _ (x1.trans Ext.more)
            | true =>
              rw [e3] at h;simp only [gh] at h;refine Am (λe=>by cases e) λ_=>Ck (Ax ?_)
              exact rest _ (x1.trans Ext.more) h
        | _=>cases e2
theorem aZ (k:Nat) (p:Pg) (po:p.ok) (t:Th mh n d) (h:∀ h',Ext [] mh h'->P (.bl (Dm p d)) h'):wV (Af (Gk (k+6)) fuel f30 [p.d,d,.fn "is_pair"] mh) P:=by
 have h6:p.plays.length<=6:=po.h6;refine Aq (Aaj (k+5)) jK.1 jK.2 rfl ?_
 show wS (b30 (k+5)) [some p.d,some d,some (.fn "is_pair")] mh _;unfold b30;unfold Pg.d
 walk_at "x1"
 refine Jf p ?_
 walk_at "x1"
 refine Er (k+4) p.H t ⟨_,rfl,?_⟩;cases e:Ji p.H d with
 | false =>
  have e3:Dm p d=false:=by
   cases d with
   | tup ds=>show ((ds.length==p.H)&&_)=false;rw [show (ds.length==p.H)=false from e];rfl
   | _=>rfl
  simp only [e3] at h
  walk_at "x1"
  exact h _ Ext.refl
 | true =>
  cases d with
  | tup ds =>
   have el:ds.length=p.plays.length:=cj e;obtain ⟨n',rfl,ti⟩:=t.items;have e3:Dm p (.tup ds)=((p.plays.zip ds).map λz=>Gg p.H (p.len z.1) z.2).all id:=by
    show ((ds.length==p.H)&&(gw (λr x=>Gg p.H (p.len r) x) p.plays ds).all id)=_;rw [show (ds.length==p.H)=true from e,gh,List.zip,yd]
   rw [e3] at h
   walk_at "x1"
   refine Cv (p.plays.zip ds) (λz=>.tup [Cu z.1,z.2]) (λz=>.bl (Gg p.H (p.len z.1) z.2)) (by rw [List.length_zip];omega) ?_ (λz h1 R hz x1 hR=>?_) λh1 x1=>?_
   ·walk_at "x1"
    refine ⟨_,_,_,_,rfl,rfl,rfl,mU ?_⟩;rw [List.zip,yd,List.zipWith_map_left]
   ·refine Gs rfl ⟨rfl,?_⟩;have m1:=nj hz
    show wD _ [none,some (Cu z.1),some z.2,some (.fn "is_pair"),some p.d] h1 R
    walk_at "x1"
    exact mW k p po z.1 (po.pl _ m1.1) ((ti z.2 m1.2).ext x1) λh' x'=>hR _ x'
   ·walk_at "x1"
    refine G5 (bs:=(p.plays.zip ds).map λz=>Gg p.H (p.len z.1) z.2) (by rw [Ah,kh];rfl) ?_;exact h _ (x1.trans Ext.more)
  | _=>cases e
theorem mX (k:Nat) (p:Pg) (t:Th mh n d) (h:P (.bl (Ko p d)) mh):wV (Af (Gk (k+4)) fuel f29 [d,.tup [.int p.l0,.int p.l1]] mh) P:=by
 refine Aq (Aai (k+3)) jJ.1 jJ.2 rfl ?_;show wS (b29 (k+3)) [some d,some (.tup [.int p.l0,.int p.l1])] mh _;unfold b29
 walk_at "x1"
 refine Er (k+2) 2 t ⟨_,rfl,Am (λe=>?_) λe=>?_⟩
 ·obtain ⟨a,b,rfl⟩:=Abp e;obtain ⟨n',rfl,ti⟩:=t.items;have h:P (.bl (btB 0 p.l0 a&&btB 0 p.l1 b)) mh:=h
  walk_at "x1"
  refine Dv (k+1) 0 _ (ti a (by simp)) ⟨_,rfl,Am (λe=>?_) λe=>?_⟩
  ·rw [e,gh] at h
   walk_at "x1"
   exact Dv (k+1) 0 _ (ti b (by simp)) h
  ·rw [e,jf] at h;exact h
 ·rw [Aef e] at h;exact h
theorem mY (k:Nat) (p:Pg) (po:p.ok) (t:Th mh n d) (h:∀ h',Ext [] mh h'->P (.bl (Hu p d)) h'):wV (Af (Gk (k+6)) fuel f32 [p.d,d,.fn "is_pair"] mh) P:=by
 have h6:p.plays.length<=6:=po.h6;refine Aq (Aal (k+5)) jM.1 jM.2 rfl ?_
 show wS (b32 (k+5)) [some p.d,some d,some (.fn "is_pair"),none,none] mh _;unfold b32;refine Cj (Rq ?_);unfold Pg.d
 walk_at "x1"
 refine Jf p ?_;refine Cw (Ax ?_)
 show wS _ [some p.d,some d,some (.fn "is_pair"),some (.int p.H),none] mh _
 walk_at "x1"
 refine Er (k+4) p.H t ⟨_,rfl,?_⟩;cases e:Ji p.H d with
 | false =>
  have e3:Hu p d=false:=by
   cases d with
   | tup ds=>show ((ds.length==p.H)&&_)=false;rw [show (ds.length==p.H)=false from e];rfl
   | _=>rfl
  simp only [e3] at h
  walk_at "x1"
  exact h _ Ext.refl
 | true =>
  cases d with
  | tup rs =>
   have el:rs.length=p.plays.length:=cj e;obtain ⟨n',rfl,ti⟩:=t.items;have e3:Hu p (.tup rs)=rs.all (Fy p):=by
    show ((rs.length==p.H)&&rs.all (Fy p))=_;rw [show (rs.length==p.H)=true from e,gh]
   rw [e3] at h
   refine Am (λe=>by cases e) λ_=>Ck (Ax (Cj (Dz (Gr (Dd (by with_unfolding_all rfl) ⟨_,rfl,rs,λi l h'=>Ext [] mh h'/\(∃ x4,l=[some p.d,some (.tup rs),some (.fn "is_pair"),some (.int p.H),x4])/\(rs.take i).all (Fy p)=true,⟨Ext.refl,⟨none,rfl⟩,rfl⟩,λ_ _ _ _=>⟨rfl,rfl⟩,?_,?_⟩)))))
   ·rintro i w l h' ed ⟨x1,⟨x4,rfl⟩,ha⟩;have hw:=di ed;refine Cw ?_
    show wS _ [some p.d,some (.tup rs),some (.fn "is_pair"),some (.int p.H),some w] h' _;have no:∀ h'',Ext [] mh h''->Fy p w=false->P (.bl false) h'':=λh'' x ew=>by
     have:rs.all (Fy p)=false:=by rw [QT];exact ⟨w,hw,by rw [ew];simp⟩
     rw [this] at h;exact h _ x
    have et:(rs.take (i+1)).all (Fy p)=((rs.take i).all (Fy p)&&Fy p w):=by rw [mj,ed,JM];simp
    walk_at "x1"
    refine Er (k+4) p.H ((ti w hw).ext x1) ⟨_,rfl,?_⟩;cases e2:Ji p.H w with
    | false =>
     have e4:Fy p w=false:=by
      cases w with
      | tup ds=>show ((ds.length==p.H)&&_)=false;rw [show (ds.length==p.H)=false from e2];rfl
      | _=>rfl
     walk_at "x1"
     exact no _ x1 e4
    | true =>
     cases w with
     | tup ws =>
      have el2:ws.length=p.plays.length:=cj e2;obtain ⟨m',rfl,tw⟩:=(ti (.tup ws) hw).items;have e4:Fy p (.tup ws)=(ws.map (Le p)).all id:=by
       show ((ws.length==p.H)&&ws.all (Le p))=_;rw [show (ws.length==p.H)=true from e2,gh,ug];rfl
      walk_at "x1"
      refine Cv ws id (λx=>.bl (Le p x)) (by omega) (Gr (Dd (by with_unfolding_all rfl) ⟨_,rfl,Je (F:=id) (by simp)⟩)) (λx h1 R hx x2 hR=>?_) λh1 x2=>?_
      ·refine Cw ⟨rfl,?_⟩
       show wD _ [none,some x,some (.fn "is_pair"),some p.d] h1 R
       walk_at "x1"
       exact sX k p po ((tw x hx).ext (x1.trans x2)) λh' x'=>hR _ x'
      ·walk_at "x1"
       refine G5 (bs:=ws.map (Le p)) (by rw [Ah,kh];rfl) ⟨_,rfl,?_⟩;cases e5:(ws.map (Le p)).all id with
       | false =>
        walk_at "x1"
        exact no _ ((x1.trans x2).trans Ext.more) (e4.trans e5)
       | true =>
        walk_at "x1"
        exact ⟨(x1.trans x2).trans Ext.more,⟨_,rfl⟩,by rw [et,ha,e4,e5];rfl⟩
     | _=>cases e2
   ·rintro l h' ⟨x1,⟨x4,rfl⟩,ha⟩;rw [nu] at ha;rw [ha] at h
    walk_at "x1"
    exact h _ x1
  | _=>cases e
theorem Lf (k:Nat) (p:Pg) (po:p.ok) (t:Th mh n d) (h:∀ h',Ext [] mh h'->P (.bl (Ip p d)) h'):wV (Af (Gk (k+8)) fuel f36 [p.d,d] mh) P:=by
 refine Aq (Aao (k+7)) jP.1 jP.2 rfl ?_;show wS (b36 (k+7)) [some p.d,some d] mh _;unfold b36
 walk_at "x1"
 refine Aq (Aah (k+6)) jH.1 jH.2 rfl ?_
 show wS (b28 (k+6)) [some p.d,some d,some (.fn "is_pair")] mh _;unfold b28
 walk_at "x1"
 refine Er (k+5) 3 t ⟨_,rfl,?_⟩;cases e:Ji 3 d with
 | false =>
  simp only [Aeg e] at h
  walk_at "x1"
  exact h _ Ext.refl
 | true =>
  obtain ⟨a,b,c,rfl⟩:=sW e;obtain ⟨n',rfl,ti⟩:=t.items;have h:∀ h',Ext [] mh h'->P (.bl (Dm p a&&(Hu p b&&Ko p c))) h':=h
  walk_at "x1"
  refine aZ k p po (ti a (by simp)) λh1 x1=>⟨_,rfl,?_⟩
  cases e1:Dm p a with
  | false =>
   rw [e1] at h;simp only [jf] at h
   walk_at "x1"
   exact h _ x1
  | true =>
   rw [e1] at h;simp only [gh] at h
   walk_at "x1"
   refine mY k p po ((ti b (by simp)).ext x1) λh2 x2=>⟨_,rfl,?_⟩
   cases e2:Hu p b with
   | false =>
    rw [e2] at h;simp only [jf] at h
    walk_at "x1"
    exact h _ (x1.trans x2)
   | true =>
    rw [e2] at h;simp only [gh] at h;unfold Pg.d
    walk_at "x1"
    exact mX (k+2) p ((ti c (by simp)).ext (x1.trans x2)) (h _ (x1.trans x2))
end
section
variable {mh:MH}{n:Nat}{d:D}{P:D->MH->Prop}
theorem Aeh (h:P (.bl (!(sV d))) mh):wV (isD true d .non mh) P:=⟨_,_,rfl,by cases d <;> exact h⟩
theorem Ds (k:Nat) (l u:Int) (t:Th mh n d) (h:P (.bl (btB l u d)) mh):wV (Af (Gk (k+1)) fuel f58 [d,.int l,.int u] mh) P:=by
 refine Aq (Aa6 k) lC.1 lC.2 rfl ?_;show wS (b58 k) [some d,some (.int l),some (.int u)] mh _;unfold b58
 walk_at "x1"
 refine R9 t ⟨_,rfl,λe=>?_,λe=>?_⟩
 ·cases d with
  | int i =>
   walk_at "x1"
   have h:P (.bl (decide (l<=i)&&decide (i<=u))) mh:=h;refine Am (λe=>?_) λe=>?_
   ·walk_at "x1"
    rw [e,gh] at h;exact h
   ·rw [e,jf] at h;exact h
  | bl b =>
   walk_at "x1"
   exact h
  | _=>cases e
 ·cases d <;> first | exact h | cases e
theorem Abq {a b:D}(h1:bdB a=true) (h2:bdB b=true):inD false .non (.tup [a,b]) mh=some (.bl (sV a || sV b),mh):=by
 cases a <;> first | (cases h1;done) | (cases b <;> first | (cases h2;done) | rfl)
theorem Abr {a b:D}(h1:bdB a=true) (h2:bdB b=true):prB (.tup [a,b])=!(vdB a b):=by
 show (bdB a&&(bdB b&&!(vdB a b)))=_;rw [h1,h2];rfl
theorem P0 (k:Nat) (t:Th mh n d) (h:P (.bl (prB d)) mh):wV (Af (Gk (k+1)) fuel f59 [d] mh) P:=by
 refine Aq (Aa7 k) lE.1 lE.2 rfl ?_;show wS (b59 k) [some d,none] mh _;unfold b59;refine Cj (Ij (Ho (Ep (Ez (Fx (Dd (by with_unfolding_all rfl) (Dr t ⟨_,rfl,λe=>?_,λe=>?_⟩)))))))
 ·walk_at "x1"
  have e2:prB d=false:=by cases d <;> first | rfl | cases e
  rw [e2] at h;exact h
 ·cases d with
  | tup ds =>
   obtain ⟨n',rfl,ti⟩:=t.items
   walk_at "x1"
   refine Cd (ds:=ds) (by intro z z';cases z') rfl ?_
   walk_at "x1"
   refine Am (λe1=>?_) λe1=>?_
   ·walk_at "x1"
    have e2:prB (.tup ds)=false:=uV (by
     show (ds.length==2)=false;rw [beq_eq_false_iff_ne];intro z;rw [z] at e1
     exact absurd e1 (by decide))
    rw [e2] at h;exact h
   ·have el:ds.length=2:=by
     by_cases z:ds.length=2
     ·exact z
     ·exact absurd (show ((ds.length:Int)==2)=true by simpa using e1) (by simp;omega)
    obtain ⟨a,b,rfl⟩:∃ a b,ds=[a,b]:=by
     match ds,el with
     | [a,b],_=>exact ⟨a,b,rfl⟩
    refine Ck (Ax (Cj (Dz (Gr (Dd (by with_unfolding_all rfl) ⟨_,rfl,[a,b],λi l h'=>h'=mh/\(∃ x,l=[some (.tup [a,b]),x])/\([a,b].take i).all bdB=true,⟨rfl,⟨none,rfl⟩,rfl⟩,λ_ _ _ _=>⟨rfl,rfl⟩,?_,?_⟩)))))
    ·rintro i x l h' ed ⟨rfl,⟨y,rfl⟩,ha⟩;have hx:=di ed;have et:([a,b].take (i+1)).all bdB=(([a,b].take i).all bdB&&bdB x):=by rw [mj,ed,JM];simp
     have no:bdB x=false->P (.bl false) h':=λex=>by
      have:prB (.tup [a,b])=false:=by
       show (bdB a&&(bdB b&&!(vdB a b)))=false;rcases dg.mp hx with rfl|hx
       ·rw [ex];rfl
       ·rw [jg.mp hx] at ex;rw [ex];simp
      rw [this] at h;exact h
     refine Cw ?_;show wS _ [some (.tup [a,b]),some x] h' _;have tx:=ti x hx;refine Cj (Ij (Ro (Ja (Uw (Dd (by with_unfolding_all rfl) (Dy (Aeh ⟨_,rfl,λe1=>?_,λe1=>?_⟩)))))))
     ·walk_at "x1"
      refine R9 tx ⟨_,rfl,λe2=>?_,λe2=>?_⟩
      ·walk_at "x1"
       exact no (by cases x <;> first | rfl | (cases e1;done) | (cases e2;done))
      ·cases x with
       | int i =>
        walk_at "x1"
        exact ⟨rfl,⟨_,rfl⟩,by rw [et,ha];rfl⟩
       | bl b =>
        walk_at "x1"
        exact no rfl
       | _=>cases e2
     ·walk_at "x1"
      exact ⟨rfl,⟨_,rfl⟩,by rw [et,ha];cases x <;> first | rfl | cases e1⟩
    ·rintro l h' ⟨rfl,⟨y,rfl⟩,ha⟩;have ha:(bdB a&&(bdB b&&true))=true:=ha;rw [Bool.and_true,au] at ha;rw [Abr ha.1 ha.2] at h
     walk_at "x1"
     refine Ls (Abq ha.1 ha.2) ?_;cases a with
     | non =>
      walk_at "x1"
      exact h
     | int x =>
      cases b with
      | non =>
       walk_at "x1"
       exact h
      | int y =>
       walk_at "x1"
       have e:(!(vdB (.int x) (.int y)))=decide (x<=y):=by
        show (!(decide (y < x)))=_
        by_cases z:x<=y
        ·rw [decide_eq_true z,decide_eq_false (by omega)];rfl
        ·rw [decide_eq_false z,decide_eq_true (by omega)];rfl
       rw [e] at h;exact h
      | _=>exact absurd ha.2 (by simp [bdB])
     | _=>exact absurd ha.1 (by simp [bdB])
  | _=>cases e
theorem mZ {i:Nat}{tc:DM Bool}{cs:List (Option Nat)}{ds:List D}{loc:DL.Loc}{Q:D->MH->Prop}{g:D->Bool}(el:loc[i]?=some (some (.tup ds))) (hz:ds.length<=1000000)
  (step:∀ x h {R:Bool->MH->Prop},x∈ds->Ext [] mh h->(∀ h',Ext [] h h'->R (!(g x)) h')->wD tc ((Hv cs loc).set 1 (some x)) h R)
  (at1:∀ x,((Hv cs loc).set 1 (some x))[1]?=some (some x))
  (fin:∀ h,Ext [] mh h->Q (.ref h.length) (h++[.lst (ds.filter λx=>!(g x))])):wD (Bj (Cq (vr i)) cs (Aj 1) tc (vr 1)) loc mh Q:=by
 refine Hq (Gr (Dd el ⟨_,rfl,ds,λi acc h=>acc=(ds.take i).filter (λx=>!(g x))/\i<=ds.length/\Ext [] mh h,hz,⟨rfl,oh _,Ext.refl⟩,λ_ _ _ _=>⟨rfl,rfl⟩,?_,?_,?_⟩))
 ·rintro i acc h ⟨rfl,hi,_⟩;refine ig (KZ _ _) ?_;rw [jj];omega
 ·rintro i d acc h ed ⟨rfl,hi,x⟩;have hl:=(bf.mp ed).1;have et:(ds.take (i+1)).filter (λx=>!(g x))=(ds.take i).filter (λx=>!(g x))++(if (!(g d))=true then [d] else []):=by
   rw [mj,ed,FZ];simp only [Option.toList,JF,List.filter_nil]
  refine Cw (step d h (di ed) x λh' x'=>⟨λe=>?_,λe=>?_⟩)
  ·refine Dd (at1 d) ⟨?_,hl,x.trans x'⟩;rw [et,if_pos e]
  ·exact ⟨by rw [et,e];simp,hl,x.trans x'⟩
 ·rintro acc h ⟨rfl,hi,x⟩;rw [nu];exact fin h x
theorem tB {a b:Nat}{ds:List D}(e1:mh[a]?=some (.lst ds)) (e2:mh[b]?=some (.lst [])) (hd:∀ x∈ds,Th mh 59 x) (h:P (.bl ds.isEmpty) mh):wV (eqD (.ref a) (.ref b) mh) P:=by
 obtain ⟨as,ea,el⟩:=Io (f:=DL.py mh 59) λx hx=>(hd x hx).py
 have p1:py mh 60 (.ref a)=some (.list as):=by
  show (match mh[a]? with | some (.lst o)=>(match Gx (py mh 59) o with | some xs=>some (PyData.list xs) | none=>none) | _=>none)=_;rw [e1];dsimp only;rw [ea]
 have p2:py mh 60 (.ref b)=some (.list []):=by
  show (match mh[b]? with | some (.lst o)=>(match Gx (py mh 59) o with | some xs=>some (PyData.list xs) | none=>none) | _=>none)=_;rw [e2];rfl
 refine uI (k:=ds.isEmpty) ?_ h;unfold eqB;rw [p1,p2];show some (CK (.list as) (.list []))=_;cases ds with
 | nil =>
  cases as with
  | nil=>rfl
  | cons _ _=>cases el
 | cons _ _ =>
  cases as with
  | nil=>cases el
  | cons _ _=>rfl
end
theorem Yq {g:D->Bool}:∀ ds:List D,(ds.filter λx=>!(g x)).isEmpty=ds.all g
 | []=>rfl
 | a::r=>by
  rw [JF,BP,← Yq r];cases g a <;> rfl
noncomputable def allB (m:Nat) (g:D->Bool):D->Bool
 | .tup ds=>(ds.length==m)&&ds.all g
 | _=>false
noncomputable def Abs (k:Nat) (v:D) (g:D->Bool) (mh:MH) (n:Nat):Prop:=∀ (x:D) (h:MH) (mr:DM (List D)) (loc:DL.Loc) {R:D->MH->Prop},Ext [] mh h->Th h n x->loc[2]?=some (some v)->mr loc h=some ([x],h)->(∀ h',Ext [] h h'->R (.bl (g x)) h')->wD (Ff (Gk (k+1)).cal (Gk (k+1)).clo 2 mr) loc h R
theorem G6 {mh:MH}{n:Nat}{d:D}{P:D->MH->Prop}(k m:Nat) {v:D}{g:D->Bool}(hg:Abs k v g mh n) (t:Th mh (n+1) d) (hn:n<=58) (hm:m<=1000) (h:∀ h',Ext [] mh h'->P (.bl (allB m g d)) h'):wV (Af (Gk (k+1)) fuel f60 [d,.int m,v] mh) P:=by
 refine Aq (Aa8 k) lF.1 lF.2 rfl ?_;show wS (b60 k) [some d,some (.int m),some v] mh _;unfold b60;refine Cj (Ij (Ho (Ep (Ez (Fx (Dd (by with_unfolding_all rfl) (Dr t ⟨_,rfl,λe=>?_,λe=>?_⟩)))))))
 ·walk_at "x1"
  have e2:allB m g d=false:=by cases d <;> first | rfl | cases e
  rw [e2] at h;exact h _ Ext.refl
 ·cases d with
  | tup ds =>
   obtain ⟨n',en,ti⟩:=t.items;cases en
   walk_at "x1"
   refine Cd (ds:=ds) (by intro z z';cases z') rfl ?_
   walk_at "x1"
   have hq:((!((ds.length:Int)==(m:Int))):Bool)=!(ds.length==m):=by
    by_cases z:ds.length=m
    ·rw [z];simp
    ·rw [beq_eq_false_iff_ne.mpr z,beq_eq_false_iff_ne.mpr (by omega)]
   rw [hq];have h:∀ h',Ext [] mh h'->P (.bl ((ds.length==m)&&ds.all g)) h':=h;refine Am (λe1=>?_) λe1=>?_
   ·walk_at "x1"
    rw [show (ds.length==m)=false by simpa using e1] at h;exact h _ Ext.refl
   ·have el:(ds.length==m)=true:=by simpa using e1
    rw [el] at h;have lm:ds.length=m:=cj el;refine Ck (Ax (Cj (jB (Uw (mZ (g:=g) (by with_unfolding_all rfl) (by omega) (λx h1 R hx x1 hR=>?_) (λx=>by with_unfolding_all rfl) λh1 x1=>?_)))))
    ·refine Ep (Ez (hg x h1 _ _ x1 ((ti x hx).ext x1) (by with_unfolding_all rfl) rfl λh' x'=>⟨_,rfl,hR _ x'⟩))
    ·walk_at "x1"
     refine tB (ds:=ds.filter λx=>!(g x)) ((Ext.more (W:=[])).old _ _ (by simp) Ah) Ah (λx hx=>?_) ?_
     ·exact ((ti x (JG.mp hx).1).ext ((x1.trans Ext.more).trans Ext.more)).le (by omega)
     ·rw [Yq];exact h _ ((x1.trans Ext.more).trans Ext.more)
  | _=>cases e
noncomputable def lxB:Expr->Expr
 | .Lambda _ b _ _=>b
 | e=>e
noncomputable def lxS:Expr->Scope
 | .Lambda _ _ s _=>s
 | _=>Ag (.Pass ⟨0,0,0,0⟩)
noncomputable def lxP:Expr->Pos
 | .Lambda _ _ _ p=>p
 | _=>⟨0,0,0,0⟩
theorem Sd {sc:SC}{x y:Str}{pl:Nat}{e:Expr}{loc:DL.Loc}{ds:List D}{ci:CloI}{mh:MH}(h1:K7 sc x pl e loc mh=Wa x pl y (lxB e) (lxS e) (lxP e) ds mh) (h2:(T7 (lxB e)).isNone=true) (h3:Hw y (lxB e) (lxS e) (lxP e) none=ci) (h0:mh[pl]?=some (.plq x)):K7 sc x pl e loc mh=some (.clo ci ds,mh):=by
 rw [h1];unfold Wa;rw [h0];dsimp only;rw [if_pos (by rw [h2,beq_self_eq_true];rfl),h3]
section
variable {mh:MH}{n:Nat}{d:D}{P:D->MH->Prop}
theorem Kp {G:Gb}{m:Nat}{ci:CloI}{fs:List D}{x:D}{bC:SM}(e:iSs G m (Jo ci) ci.body=bC) (h1:ci.ps.length=1) (h2:ci.N.length=1) (h3:ci.inn=none) (w:wS bC (some x::fs.map some) mh (Ux P)):wV (Fg G m ci fs [x] mh) P:=by
 obtain ⟨f,l,h,e2,r⟩:=w;have el:([x].map some++iz (ci.N.length - [x].length) none++fs.map some)=some x::fs.map some:=by
  rw [h2];rfl
 cases f with
 | rt d =>
  refine ⟨d,h,?_,r⟩;unfold Fg;rw [if_pos (show [x].length=ci.ps.length from h1.symm),h3];show Hi G m ci fs [x] mh=_;unfold Hi;rw [el,show iSs G m { N:=ci.N++ci.fr,scope:=ci.scope,own:=λy=>!(ci.fr.contains y) } ci.body=bC from e,e2]
 | nx =>
  refine ⟨.non,h,?_,r⟩;unfold Fg;rw [if_pos (show [x].length=ci.ps.length from h1.symm),h3];show Hi G m ci fs [x] mh=_;unfold Hi;rw [el,show iSs G m { N:=ci.N++ci.fr,scope:=ci.scope,own:=λy=>!(ci.fr.contains y) } ci.body=bC from e,e2]
 | _=>exact r.elim
theorem Sg {G:Gb}{m:Nat}{x:Str}{f:FnI}{lm:LmI}{b:SM}{p q:Nat}{ds:List D}(e:Pj G m x f lm=b) (hp:f.ps.length=p) (hN:f.N.length=q) (hl:ds.length=p) (w:wS b (ds.map some++iz (q - ds.length) none) mh (Ux P)):wV (Jh G m x f lm ds mh) P:=by
 obtain ⟨f',l,h,e2,r⟩:=w;cases f' with
 | rt d =>
  refine ⟨d,h,?_,r⟩;unfold Jh;rw [if_pos (by rw [hl,hp]),hN,e,e2]
 | nx =>
  refine ⟨.non,h,?_,r⟩;unfold Jh;rw [if_pos (by rw [hl,hp]),hN,e,e2]
 | _=>exact r.elim
theorem Aei {k:Nat}:Abs (k+1) (.fn "_law_is_pair") prB mh n:=λx h mr loc R x1 t el em hR=>by
 obtain ⟨d,h2,e,q⟩:=P0 k t (P:=R) (hR _ Ext.refl);refine ⟨d,h2,?_,q⟩;unfold Ff;rw [el];show (mr.bnd λds=>Zl (Af (Gk (k+1)) fuel f59 ds)) loc h=_;unfold DM.bnd;rw [em];exact e
theorem Ob {k:Nat}{ci:CloI}{fs:List D}{g:D->Bool}(hc:∀ (x:D) (h:MH) {R:D->MH->Prop},Ext [] mh h->Th h n x->(∀ h',Ext [] h h'->R (.bl (g x)) h')->wV (Fg (Gk k) fuel ci fs [x] h) R):Abs k (.clo ci fs) g mh n:=λx h mr loc R x1 t el em hR=>by
 obtain ⟨d,h2,e,q⟩:=hc x h (R:=R) x1 t hR;refine ⟨d,h2,?_,q⟩;unfold Ff;rw [el];show (mr.bnd λds=>Zl (Fg (Gk k) fuel ci fs ds)) loc h=_;unfold DM.bnd;rw [em];exact e
theorem tE {a b c:D}{H:Nat}{y:Option D}(h0:mh[1]?=some (.plq "_law_is_part")):K7 Px "_law_is_part" lm0.pl Rw [some a,some b,some (.int H),y] mh=some (.clo Rx [.int H],mh) :=
 Sd (y := "_law_one") (by kernel_rfl) (by kernel_rfl) (by kernel_rfl) h0
theorem tH {a b c:D}{H:Nat}{y:Option D}(h0:mh[1]?=some (.plq "_law_is_part")):K7 Px "_law_is_part" lm0.pl Ry [some a,some b,some (.int H),y] mh=some (.clo Rz [.int H],mh) :=
 Sd (y := "_law_one") (by kernel_rfl) (by kernel_rfl) (by kernel_rfl) h0
theorem tK {a b c:D}{H:Nat}(h0:mh[2]?=some (.plq "_law_is_row")):K7 uQ "_law_is_row" lm1.pl Ww [some a,some b,some (.int H)] mh=some (.clo R3 [.int H],mh) :=
 Sd (y := "_law_one") (by kernel_rfl) (by kernel_rfl) (by kernel_rfl) h0
end
section
variable {mh:MH}{n:Nat}{d:D}{P:D->MH->Prop}
theorem Oc {a m:Nat}:((!((a:Int)==(m:Int))):Bool)=!(a==m):=by
 by_cases z:a=m
 ·rw [z];simp
 ·rw [beq_eq_false_iff_ne.mpr z,beq_eq_false_iff_ne.mpr (by omega)]
theorem tL (k H:Nat) {x:D}(t:Th mh n x) (h:P (.bl (btB (-1) ((H:Int) - 1) x)) mh):wV (Fg (Gk (k+2)) fuel Rx [.int H] [x] mh) P:=by
 refine Kp (aL (k+1)) (by decide +kernel) (by decide +kernel) (by kernel_rfl) ?_;show wS (Wu (k+1)) [some x,some (.int H)] mh _;unfold Wu
 walk_at "x1"
 refine Ds k _ _ t ?_
 walk_at "x1"
 exact h
theorem tM (k H:Nat) (hH:H<=6) {x:D}(t:Th mh n x) (h:P (.bl (btB 0 ((2 ^ H:Nat) - 1) x)) mh):wV (Fg (Gk (k+2)) fuel Rz [.int H] [x] mh) P:=by
 refine Kp (aM (k+1)) (by decide +kernel) (by decide +kernel) (by kernel_rfl) ?_;show wS (Wv (k+1)) [some x,some (.int H)] mh _;unfold Wv
 walk_at "x1"
 refine W2 hH ?_
 walk_at "x1"
 refine Ds k _ _ t ?_
 walk_at "x1"
 exact h
theorem U8 (k H:Nat) (t:Th mh n d) (h:P (.bl (Cm H d)) mh):wV (Af (Gk (k+2)) fuel f62 [d,.int H] mh) P:=by
 refine Aq (Aba (k+1)) lH.1 lH.2 rfl ?_;show wS (b62 (k+1)) [some d,some (.int H)] mh _;unfold b62;refine Cj (Ij (Ho (Ep (Ez (Fx (Dd (by with_unfolding_all rfl) (Dr t ⟨_,rfl,λe=>?_,λe=>?_⟩)))))))
 ·walk_at "x1"
  have e2:Cm H d=false:=by cases d <;> first | rfl | cases e
  rw [e2] at h;exact h
 ·cases d with
  | tup ds =>
   obtain ⟨n',en,ti⟩:=t.items
   walk_at "x1"
   refine Cd (ds:=ds) (by intro z z';cases z') rfl ?_
   walk_at "x1"
   rw [show ((!((ds.length:Int)==(3:Int))):Bool)=!(ds.length==3) from Oc (m:=3)];refine Am (λe1=>?_) λe1=>?_
   ·walk_at "x1"
    rw [Aed (d:=.tup ds) (show (ds.length==3)=false by simpa using e1)] at h;exact h
   ·obtain ⟨a,b,c,e3⟩:=sW (d:=.tup ds) (show (ds.length==3)=true by simpa using e1);cases e3;have h:P (.bl (btB 1 12 a&&(prB b&&btB (-1) ((H:Int) - 1) c))) mh:=h;refine Ck (Ax ?_)
    walk_at "x1"
    refine Ds k _ _ (ti a (by simp)) ⟨_,rfl,Am (λe1=>?_) λe1=>?_⟩
    ·rw [e1,gh] at h
     walk_at "x1"
     refine P0 k (ti b (by simp)) ⟨_,rfl,Am (λe2=>?_) λe2=>?_⟩
     ·rw [e2,gh] at h
      walk_at "x1"
      exact Ds k _ _ (ti c (by simp)) h
     ·rw [e2,jf] at h;exact h
    ·rw [e1,jf] at h;exact h
  | _=>cases e
theorem tO (k H:Nat) {x:D}(t:Th mh n x) (h:P (.bl (Cm H x)) mh):wV (Fg (Gk (k+3)) fuel R3 [.int H] [x] mh) P:=by
 refine Kp (aN (k+2)) (by decide +kernel) (by decide +kernel) (by kernel_rfl) ?_;show wS (Wx (k+2)) [some x,some (.int H)] mh _;unfold Wx
 walk_at "x1"
 refine U8 k _ t ?_
 walk_at "x1"
 exact h
theorem nA (k:Nat) (p:Pg) (t:Th mh (n+1) d) (hn:n<=58) (hp:p.room<=10) (h0:mh[2]?=some (.plq "_law_is_row")) (h:∀ h',Ext [] mh h'->P (.bl (Le p d)) h'):wV (Jh (Gk (k+5)) fuel "_law_is_row" f63 lm1 [d,.int p.room,.int p.H] mh) P:=by
 refine Sg (sE (k+4)) lJ.1 lJ.2 rfl ?_;show wS (Abb (k+4)) [some d,some (.int p.room),some (.int p.H)] mh _;unfold Abb;refine Cj (Cj (Ij (Ho (Ep (Ez (Fx (Dd (by with_unfolding_all rfl) (Dr t ⟨_,rfl,λe=>?_,λe=>?_⟩))))))))
 ·walk_at "x1"
  have e2:Le p d=false:=by cases d <;> first | rfl | cases e
  rw [e2] at h;exact h _ Ext.refl
 ·cases d with
  | tup ds =>
   walk_at "x1"
   refine Cd (ds:=ds) (by intro z z';cases z') rfl ?_
   walk_at "x1"
   have h:∀ h',Ext [] mh h'->P (.bl (decide (ds.length<=p.room)&&ds.all (Cm p.H))) h':=h;refine Am (λe1=>?_) λe1=>?_
   ·walk_at "x1"
    rw [decide_eq_true_iff] at e1;rw [decide_eq_false (by omega)] at h;exact h _ Ext.refl
   ·rw [decide_eq_false_iff_not] at e1;have el:ds.length<=p.room:=by omega
    rw [decide_eq_true el] at h;refine Ck (Ax (Ck (Ax ?_)))
    walk_at "x1"
    refine Cd (ds:=ds) (by intro z z';cases z') rfl ?_
    walk_at "x1"
    refine ⟨_,_,tK (a:=.tup ds) (b:=.int p.room) (c:=.non) h0,?_⟩
    walk_at "x1"
    refine G6 (k+3) ds.length (Ob λx h1 R x1 t1 hR=>tO k p.H t1 (hR _ Ext.refl)) t hn (by omega) λh' x'=>?_
    have e3:allB ds.length (Cm p.H) (.tup ds)=ds.all (Cm p.H):=by
     show ((ds.length==ds.length)&&_)=_;rw [beq_self_eq_true,gh]
    rw [e3]
    walk_at "x1"
    exact h _ x'
  | _=>cases e
end
section
variable {mh:MH}{n:Nat}{d:D}{P:D->MH->Prop}
theorem Yr {m:Nat}{l u:Int}{x:D}:allB m (btB l u) x=Jj m l u x:=by cases x <;> rfl
theorem bB {x:D}:allB 3 prB x=Ly x:=by cases x <;> rfl
theorem tQ {a b c x y:Bool}:(((a&&b)&&c)&&x&&y)=(a&&(c&&(x&&(y&&b)))):=by cases a <;> cases b <;> cases c <;> cases x <;> cases y <;> rfl
theorem bD (k H L:Nat) (hH:H<=6) (t:Th mh (n+2) d) (hn:n<=57) (h0:mh[1]?=some (.plq "_law_is_part")) (h:∀ h',Ext [] mh h'->P (.bl (Gg H L d)) h'):wV (Jh (Gk (k+4)) fuel "_law_is_part" f61 lm0 [d,.int L,.int H] mh) P:=by
 refine Sg (rZ (k+3)) lG.1 lG.2 rfl ?_;show wS (Aa9 (k+3)) [some d,some (.int L),some (.int H),none] mh _;unfold Aa9;refine Cj (Cj (Ij (Ho (Ep (Ez (Fx (Dd (by with_unfolding_all rfl) (Dr t ⟨_,rfl,λe=>?_,λe=>?_⟩))))))))
 ·walk_at "x1"
  have e2:Gg H L d=false:=by cases d <;> first | rfl | cases e
  rw [e2] at h;exact h _ Ext.refl
 ·cases d with
  | tup ds =>
   obtain ⟨n',en,ti⟩:=t.items;cases en
   walk_at "x1"
   refine Cd (ds:=ds) (by intro z z';cases z') rfl ?_
   walk_at "x1"
   rw [show ((!((ds.length:Int)==(5:Int))):Bool)=!(ds.length==5) from Oc (m:=5)];refine Am (λe1=>?_) λe1=>?_
   ·walk_at "x1"
    rw [Aee (d:=.tup ds) (show (ds.length==5)=false by simpa using e1)] at h;exact h _ Ext.refl
   ·obtain ⟨a,ns,ms,ss,b,e3⟩:=Aec (d:=.tup ds) (show (ds.length==5)=true by simpa using e1);cases e3;have h:∀ h',Ext [] mh h'->P (.bl (btB (-1) (L:Int) a&&(Ly ns&&(Jj 3 (-1) ((H:Int) - 1) ms&&(Jj 2 0 ((2 ^ H:Nat) - 1) ss&&blB b))))) h':=h;simp only [← tQ] at h;refine Ck (Ax ?_)
    have rest:∀ (v:Bool),(∀ h',Ext [] mh h'->P (.bl (((v&&Ly ns)&&Jj 3 (-1) ((H:Int) - 1) ms)&&Jj 2 0 ((2 ^ H:Nat) - 1) ss)) h')->wS (Ab (Ao (Ca (vr 3) (Ae (Af (Gk (k+3)) fuel f60) (Aa (dop ixD (vr 0) (Zr (.int 1))) (Aa (Zr (.int 3)) (Aa (Zr (.fn "_law_is_pair")) (Zr [])))))) (Aj 3)) Zn) [some (.tup [a,ns,ms,ss,b]),some (.int L),some (.int H),some (.bl v)] mh (seqK (Ab (Ao (Ca (vr 3) (Ae (Af (Gk (k+3)) fuel f60) (Aa (dop ixD (vr 0) (Zr (.int 2))) (Aa (Zr (.int 3)) (Aa (K7 Px "_law_is_part" lm0.pl Rw) (Zr [])))))) (Aj 3)) (Ab (retS (Ca (vr 3) (Ae (Af (Gk (k+3)) fuel f60) (Aa (dop ixD (vr 0) (Zr (.int 3))) (Aa (Zr (.int 2)) (Aa (K7 Px "_law_is_part" lm0.pl Ry) (Zr []))))))) Zn)) (Ux P)):=λv h=>by
     cases v with
     | false =>
      walk_at "x1"
      exact h _ Ext.refl
     | true =>
      simp only [gh] at h
      walk_at "x1"
      refine G6 (k+2) 3 (Aei (k:=k+1)) (ti ns (by simp)) (by omega) (by decide) λm1 x1=>?_
      rw [bB];cases e1:Ly ns with
      | false =>
       simp only [e1,jf] at h
       walk_at "x1"
       exact h _ x1
      | true =>
       simp only [e1,gh] at h
       walk_at "x1"
       refine ⟨_,_,tE (a:=.tup [a,ns,ms,ss,b]) (b:=.int L) (c:=.non) (x1.old _ _ (by simp) h0),?_⟩
       walk_at "x1"
       refine G6 (k+2) 3 (Ob λx h1 R x1 t1 hR=>tL k H t1 (hR _ Ext.refl)) ((ti ms (by simp)).ext x1) (by omega) (by decide) λm2 x2=>?_
       rw [Yr];cases e2:Jj 3 (-1) ((H:Int) - 1) ms with
       | false =>
        simp only [e2,jf] at h
        walk_at "x1"
        exact h _ (x1.trans x2)
       | true =>
        simp only [e2,gh] at h
        walk_at "x1"
        refine ⟨_,_,tH (a:=.tup [a,ns,ms,ss,b]) (b:=.int L) (c:=.non) ((x1.trans x2).old _ _ (by simp) h0),?_⟩
        walk_at "x1"
        refine G6 (k+2) 2 (Ob λx h1 R x1 t1 hR=>tM k H hH t1 (hR _ Ext.refl)) ((ti ss (by simp)).ext (x1.trans x2)) (by omega) (by decide) λm3 x3=>?_
        rw [Yr]
        walk_at "x1"
        exact h _ ((x1.trans x2).trans x3)
    walk_at "x1"
    refine Ds (k+2) _ _ (ti a (by simp)) ⟨_,rfl,Am (λe1=>?_) λe1=>?_⟩
    ·walk_at "x1"
     refine N8 (ti b (by simp)) ?_;refine Cw (Ax ?_);refine rest _ ?_;rw [e1] at h;exact h
    ·refine Cw (Ax ?_);refine rest false ?_;rw [e1] at h;exact h
  | _=>cases e
end
noncomputable def q0:Str:=Ka "_law_is_pattern"
structure Hs (h:MH):Prop where
 c0:h[0]?=some .plc
 c1:h[1]?=some (.plq "_law_is_part")
 c2:h[2]?=some (.plq "_law_is_row")
 c3:h[3]?=some (.plw "_law_is_pattern" none)\/∃ n,h[3]?=some (.plw "_law_is_pattern" (some ((lxP Cy).line,(lxP Cy).col,n)))/\h[n]?=some (.plr q0)
theorem Hs.ext {h h':MH}(s:Hs h) (x:Ext [] h h'):Hs h':=⟨x.old _ _ (by simp) s.c0,x.old _ _ (by simp) s.c1,x.old _ _ (by simp) s.c2,by
 rcases s.c3 with e|⟨n,e1,e2⟩
 ·exact .inl (x.old _ _ (by simp) e)
 ·exact .inr ⟨n,x.old _ _ (by simp) e1,x.old _ _ (by simp) e2⟩⟩
theorem Hs.start:Hs sl0:=⟨rfl,rfl,rfl,.inl rfl⟩
theorem Aej {mh:MH}{a b c d e:D}{f:Option D}{H R:Nat}(s:Hs mh):∃ t h',K7 lO "_law_is_pattern" lm2.pl Cy [some a,some b,some c,some d,some e,f,some (.int H),some (.int R)] mh=some (.clo Il [.ref t,.int R,.int H],h')/\Hs h'/\h'[t]?=some (.plr q0)/\∀ (k:Nat) (ds:List D),mh[k]?=some (.lst ds)->h'[k]?=some (.lst ds):=by
 have e1:K7 lO "_law_is_pattern" lm2.pl Cy [some a,some b,some c,some d,some e,f,some (.int H),some (.int R)] mh=Wa "_law_is_pattern" 3 "_law_ways" (lxB Cy) (lxS Cy) (lxP Cy) [.int R,.int H] mh:=by kernel_rfl
 have e2:(T7 (lxB Cy)).isSome=true:=by kernel_rfl
 have e3:Hw "_law_ways" (lxB Cy) (lxS Cy) (lxP Cy) (some (Ka "_law_is_pattern"))=Il:=by kernel_rfl
 rw [e1];unfold Wa;rcases s.c3 with z|⟨n,z1,z2⟩
 ·have hl:=El z
  refine ⟨mh.length,mh.set 3 (.plw "_law_is_pattern" (some ((lxP Cy).line,(lxP Cy).col,mh.length)))++[.plr q0],?_,?_,?_,?_⟩
  ·rw [z];dsimp only;rw [if_pos (by rw [e2,beq_self_eq_true];rfl),e3];rfl
  ·have keep:∀ (k:Nat) (o:MO),k≠3->mh[k]?=some o->(mh.set 3 (.plw "_law_is_pattern" (some ((lxP Cy).line,(lxP Cy).col,mh.length)))++[.plr q0])[k]?=some o:=λk o hk e=>by
    rw [dw (by rw [iw];exact El e),gk (Ne.symm hk)];exact e
   refine ⟨keep 0 _ (by decide) s.c0,keep 1 _ (by decide) s.c1,keep 2 _ (by decide) s.c2,.inr ⟨mh.length,?_,?_⟩⟩
   ·rw [dw (by rw [iw];exact hl)];exact Ek z
   ·rw [gb (by rw [iw];exact cg _),iw,CT];rfl
  ·rw [gb (by rw [iw];exact cg _),iw,CT];rfl
  ·intro k ds e;have hk:k≠3:=λq=>by subst q;rw [z] at e;cases e
   rw [dw (by rw [iw];exact El e),gk (Ne.symm hk)];exact e
 ·refine ⟨n,mh,?_,s,z2,λ_ _ e=>e⟩;rw [z1];dsimp only;rw [if_pos (by rw [e2,beq_self_eq_true];rfl),if_pos (by rw [beq_self_eq_true,beq_self_eq_true];rfl),e3]
section
variable {mh:MH}{n:Nat}{d:D}{P:D->MH->Prop}
theorem Aek {x:D}{R H t:Nat}(e:mh[t]?=some (.plr q0)):rE (Jo Il) t q0 Ny [some x,some (.int R),some (.int H)] mh=some (.clo Nz [.int R,.int H],mh):=by
 have e1:rE (Jo Il) t q0 Ny [some x,some (.int R),some (.int H)] mh=(match mh[t]? with | some (.plr z)=>if z==q0 then some (.clo Nz [.int R,.int H],mh) else none | _=>none):=by kernel_rfl
 rw [e1,e];dsimp only;rw [if_pos (beq_self_eq_true _)]
theorem Ael (k:Nat) {x:D}{R H t:Nat}:Fg (Gk (k+1)) fuel Il [.ref t,.int R,.int H] [x] mh=(Ae (Af (Gk k) fuel f60) (Aa (vr 0) (Aa (vr 2) (Aa (rE (Jo Il) t q0 Ny) (Zr []))))) [some x,some (.int R),some (.int H)] mh:=by kernel_rfl
theorem Aem (k:Nat) (p:Pg) {x:D}(t:Th mh (n+1) x) (hn:n<=58) (hp:p.room<=10) (h0:mh[2]?=some (.plq "_law_is_row")) (h:∀ h',Ext [] mh h'->P (.bl (Le p x)) h'):wV (Fg (Gk (k+6)) fuel Nz [.int p.room,.int p.H] [x] mh) P:=by
 refine Kp (aO (k+5)) (by decide +kernel) (by decide +kernel) (by kernel_rfl) ?_;show wS (Wy (k+5)) [some x,some (.int p.room),some (.int p.H)] mh _;unfold Wy
 walk_at "x1"
 refine nA k p t hn hp h0 λh' x'=>?_
 walk_at "x1"
 exact h _ x'
theorem nC {p:Pg}{x:D}:allB p.H (Le p) x=Fy p x:=by cases x <;> rfl
theorem nD {p:Pg}{x:D}:allB p.H (Fy p) x=Hu p x:=by cases x <;> rfl
theorem Abt (k:Nat) (p:Pg) (po:p.ok) {x:D}{w:Nat}(t:Th mh (n+2) x) (hn:n<=57) (h0:mh[2]?=some (.plq "_law_is_row")) (hw:mh[w]?=some (.plr q0)) (h:∀ h',Ext [] mh h'->P (.bl (Fy p x)) h'):wV (Fg (Gk (k+8)) fuel Il [.ref w,.int p.room,.int p.H] [x] mh) P:=by
 rw [Ael (k+7)];have go:wD (Ae (Af (Gk (k+7)) fuel f60) (Aa (vr 0) (Aa (vr 2) (Aa (rE (Jo Il) w q0 Ny) (Zr []))))) [some x,some (.int p.room),some (.int p.H)] mh P:=by
  walk_at "x1"
  refine ⟨_,_,Aek hw,?_⟩
  walk_at "x1"
  refine G6 (k+6) p.H (Ob λy h1 R x1 t1 hR=>Aem k p t1 (by omega) po.rm (x1.old _ _ (by simp) h0) hR) t (by omega) (by have:=po.h6;unfold Pg.H;omega) λh' x'=>?_
  rw [nC];exact h _ x'
 exact go
end
section
variable {mh:MH}{n:Nat}{d:D}{P:D->MH->Prop}
noncomputable def zz (p:Pg) (ds:List D):List Bool:=gw (λr x=>Gg p.H (p.len r) x) p.plays ds
theorem uW {p:Pg}{ds:List D}{i r:Nat}{x:D}(e1:p.plays[i]?=some r) (e2:ds[i]?=some x):(zz p ds)[i]?=some (Gg p.H (p.len r) x):=by
 unfold zz;rw [CG,e1,e2]
theorem nF (k:Nat) (p:Pg) (po:p.ok) (t:Th mh (n+4) d) (hn:n<=54) (s:Hs mh) (h:∀ h',Hs h'->P (.bl (Ip p d)) h'):wV (Jh (Gk (k+10)) fuel "_law_is_pattern" f64 lm2 [p.d,d] mh) P:=by
 have h6:p.plays.length<=6:=po.h6;refine Sg (sG (k+9)) lK.1 lK.2 rfl ?_;show wS (Abd (k+9)) [some p.d,some d,none,none,none,none,none,none] mh _;unfold Abd;refine Cj (Cj (Rq (Dd (by with_unfolding_all rfl) ?_)));unfold Pg.d;refine Gs rfl (Ax ?_);show wS _ [some p.d,some d,some (.tup [.int p.l0,.int p.l1]),some (.tup (p.roles.map D.tup)),some (.tup (p.plays.map Cu)),none,none,some (.int p.room)] mh _
 walk_at "x1"
 refine Jf p ?_;refine Cw (Ax ?_);show wS _ [some p.d,some d,some (.tup [.int p.l0,.int p.l1]),some (.tup (p.roles.map D.tup)),some (.tup (p.plays.map Cu)),none,some (.int p.H),some (.int p.room)] mh _;have no:Ip p d=false->P (.bl false) mh:=λe=>by rw [← e];exact h _ s
 refine Cj (Ij (Ho (Ep (Ez (Fx (Dd (by with_unfolding_all rfl) (Dr t ⟨_,rfl,λe=>?_,λe=>?_⟩)))))))
 ·walk_at "x1"
  exact no (by cases d <;> first | rfl | cases e)
 cases d with
 | tup ds =>
  obtain ⟨n',en,ti⟩:=t.items;cases en
  walk_at "x1"
  refine Cd (ds:=ds) (by intro z z';cases z') rfl ?_
  walk_at "x1"
  rw [show ((!((ds.length:Int)==(3:Int))):Bool)=!(ds.length==3) from Oc (m:=3)];refine ⟨λe1=>?_,λe1=>?_⟩
  ·walk_at "x1"
   exact no (Aeg (d:=.tup ds) (show (ds.length==3)=false by simpa using e1))
  obtain ⟨x,y,z,e3⟩:=sW (d:=.tup ds) (show (ds.length==3)=true by simpa using e1);cases e3
  walk_at "x1"
  refine Dr (ti x (by simp)) ⟨_,rfl,λe=>?_,λe=>?_⟩
  ·walk_at "x1"
   refine no ?_;show (Dm p x&&_)=false;have:Dm p x=false:=by cases x <;> first | rfl | cases e
   rw [this];rfl
  cases x with
  | tup xs =>
   obtain ⟨n',en,tx⟩:=(ti (.tup xs) (by simp)).items;cases en
   walk_at "x1"
   refine Cd (ds:=xs) (by intro z z';cases z') rfl ?_
   walk_at "x1"
   rw [Oc];refine Am (λe2=>?_) λe2=>?_
   ·walk_at "x1"
    refine no ?_;show (Dm p (.tup xs)&&_)=false;have:Dm p (.tup xs)=false:=by
     show ((xs.length==p.H)&&_)=false;rw [show (xs.length==p.H)=false by simpa using e2];rfl
    rw [this];rfl
   have el:(xs.length==p.H)=true:=by simpa using e2
   have lx:xs.length=p.plays.length:=cj el;have eP:Dm p (.tup xs)=(zz p xs).all id:=by
    show ((xs.length==p.H)&&_)=_;rw [el,gh];rfl
   have lz:(zz p xs).length=p.plays.length:=by unfold zz;rw [yr,lx,Nat.min_self]
   refine Ck (Ax (Cj (Dz ?_)))
   walk_at "x1"
   refine ⟨_,Ew (B:=p.H) (by show p.plays.length<=_;omega),Bv 0 p.H,λi l h'=>Ext [] mh h'/\(∃ y5,l=[some p.d,some (.tup [.tup xs,y,z]),some (.tup [.int p.l0,.int p.l1]),some (.tup (p.roles.map D.tup)),some (.tup (p.plays.map Cu)),y5,some (.int p.H),some (.int p.room)])/\((zz p xs).take i).all id=true,⟨Ext.refl,⟨none,rfl⟩,rfl⟩,λ_ _ _ _=>⟨rfl,rfl⟩,?_,?_⟩
   ·rintro i v l h' ed ⟨x1,⟨y5,rfl⟩,ha⟩;have li:=(bf.mp ed).1;rw [Az] at li;rw [Df,dj,yq (by exact li)] at ed;cases ed;have li:i < p.plays.length:=li;have er:=bw li;have ex:=bw (show i < xs.length by omega);have et:((zz p xs).take (i+1)).all id=(((zz p xs).take i).all id&&Gg p.H (p.len p.plays[i]) xs[i]):=by rw [mj,uW er ex,JM];simp
    have hr:p.plays[i] < p.roles.length:=po.pl _ (qp _);refine Cw ?_;show wS _ [some p.d,some (.tup [.tup xs,y,z]),some (.tup [.int p.l0,.int p.l1]),some (.tup (p.roles.map D.tup)),some (.tup (p.plays.map Cu)),some (Cu i),some (.int p.H),some (.int p.room)] h' _
    walk_at "x1"
    refine Bm (j:=i) ex ?_
    walk_at "x1"
    refine Bm (j:=i) (d:=Cu p.plays[i]) (by rw [dj,er];rfl) ?_;refine Bm (j:=p.plays[i]) (d:=.tup p.roles[p.plays[i]]) (by rw [dj,bw hr];rfl) ?_
    walk_at "x1"
    refine Cd (ds:=p.roles[p.plays[i]]) (by intro z z';cases z') rfl ?_
    walk_at "x1"
    have elen:p.roles[p.plays[i]].length=p.len p.plays[i]:=by unfold Pg.len;rw [bw hr];rfl
    rw [elen];refine bD (k+5) p.H _ h6 ((tx _ (qp _)).ext x1) (by omega) (x1.old _ _ (by simp) s.c1) λh2 x2=>⟨_,rfl,?_⟩
    cases e5:Gg p.H (p.len p.plays[i]) xs[i] with
    | false =>
     walk_at "x1"
     have ef:Ip p (.tup [.tup xs,y,z])=false:=by
      show (Dm p (.tup xs)&&_)=false;have:Dm p (.tup xs)=false:=by
       rw [eP,QT];exact ⟨_,di (uW er ex),by rw [e5];simp⟩
      rw [this];rfl
     have q:=h _ (s.ext (x1.trans x2));rw [ef] at q;exact q
    | true =>
     walk_at "x1"
     exact ⟨x1.trans x2,⟨_,rfl⟩,by rw [et,ha,e5];rfl⟩
   ·rintro l h' ⟨x1,⟨y5,rfl⟩,ha⟩;rw [Az,wz (by rw [lz];exact cg _)] at ha;have h:∀ h',Hs h'->P (.bl (Hu p y&&Ko p z)) h':=λh2 s2=>by
     have q:=h h2 s2;rw [show Ip p (.tup [.tup xs,y,z])=(Dm p (.tup xs)&&(Hu p y&&Ko p z)) from rfl,eP,ha,gh] at q;exact q
    have s1:=s.ext x1
    walk_at "x1"
    obtain ⟨w,h2,el,s2,hw,kp⟩:=Aej (a:=p.d) (b:=.tup [.tup xs,y,z]) (c:=.tup [.int p.l0,.int p.l1]) (d:=.tup (p.roles.map D.tup)) (e:=.tup (p.plays.map Cu)) (f:=y5) (H:=p.H) (R:=p.room) s1;refine ⟨_,_,el,?_⟩
    walk_at "x1"
    refine G6 (k+8) p.H (Ob λv h1 R x1 t1 hR=>Abt k p po t1 (by omega) (x1.old _ _ (by simp) s2.c2) (x1.old _ _ (by simp) hw) hR) (((ti y (by simp)).ext x1).mono kp) (by omega) (by show p.plays.length<=_;omega) λh3 x3=>⟨_,rfl,?_⟩
    rw [nD];have s3:=s2.ext x3;cases e5:Hu p y with
    | false =>
     walk_at "x1"
     have q:=h _ s3;rw [e5] at q;exact q
    | true =>
     have h:∀ h',Hs h'->P (.bl (Ko p z)) h':=λh2 s2=>by
      have q:=h h2 s2;rw [e5,gh] at q;exact q
     have tz:Th h3 (n+3) z:=(((ti z (by simp)).ext x1).mono kp).ext x3;refine Am (λe=>by cases e) λ_=>Ck (Ax ?_)
     refine Cj (Ij (Ho (Ep (Ez (Fx (Uw (Dd (by with_unfolding_all rfl) (Dy (mQ (Dr tz ⟨_,rfl,λe=>?_,λe=>?_⟩)))))))))) 
     ·walk_at "x1"
      have q:=h _ s3;rw [show Ko p z=false by cases z <;> first | rfl | cases e] at q;exact q
     cases z with
     | tup zs =>
      walk_at "x1"
      refine Cd (ds:=zs) (by intro z z';cases z') rfl ?_
      walk_at "x1"
      rw [show ((!((zs.length:Int)==(2:Int))):Bool)=!(zs.length==2) from Oc (m:=2)];refine Am (λe1=>?_) λe1=>?_
      ·walk_at "x1"
       have q:=h _ s3;rw [Aef (d:=.tup zs) (show (zs.length==2)=false by simpa using e1)] at q;exact q
      obtain ⟨u,v,e3⟩:=Abp (d:=.tup zs) (show (zs.length==2)=true by simpa using e1);cases e3;obtain ⟨n',en,tu⟩:=tz.items;cases en;have h:∀ h',Hs h'->P (.bl (btB 0 p.l0 u&&btB 0 p.l1 v)) h':=h;refine Ck (Ax ?_)
      walk_at "x1"
      refine Ds (k+8) _ _ (tu u (by simp)) ⟨_,rfl,Am (λe1=>?_) λe1=>?_⟩
      ·walk_at "x1"
       refine Ds (k+8) _ _ (tu v (by simp)) ?_;have q:=h _ s3;rw [e1,gh] at q;exact q
      ·have q:=h _ s3;rw [e1,jf] at q;exact q
     | _=>cases e
  | _=>cases e
 | _=>cases e
end
section
variable {mh:MH}{n:Nat}{d:D}{P:D->MH->Prop}
theorem Od {ds:List D}{lo hi:Option Int}(h:∀ es:List D,(∀ x∈es,x∈ds)->es.length<=ds.length->P (.tup es) mh):wV (slD (.tup ds) lo hi mh) P:=by
 unfold slD;dsimp only;split
 ·exact ⟨_,_,rfl,h ds (λ_ h=>h) (cg _)⟩
 ·refine ⟨_,_,rfl,h _ (λx hx=>MK (CV hx)) ?_⟩;unfold DL.cutD;rw [jj,vy];omega
theorem tR {ds:List D}(h:P (.tup ds.reverse) mh):wV (dF (.tup ds) mh) P:=⟨_,_,rfl,h⟩
theorem Ec {ds:List D}(h:∀ x∈ds,Th mh n x):Th mh (n+1) (.tup ds):=by simp only [Th];exact h
theorem Hr {i:Int}:Th mh n (.int i):=by cases n <;> simp [Th]
theorem uX {b:Bool}:Th mh n (.bl b):=by cases n <;> simp [Th]
theorem Sh:Th mh n .non:=by cases n <;> simp [Th]
theorem W7 {x:Str}(h:uc x=true):Th mh n (.str x):=by cases n <;> simpa [Th] using h
theorem W8 {k:Nat}{ds:List D}(e:mh[k]?=some (.lst ds)) (h:∀ x∈ds,Th mh n x):Th mh (n+1) (.ref k):=by simp only [Th];exact ⟨ds,e,h⟩
theorem nG (k:Nat) {ds:List D}(hd:∀ x∈ds,Th mh n x) (hl:ds.length<=1000) (v:Int) (h:∀ x h',Ext [] mh h'->Th h' (n+2) x->P x h'):wV (Af (Gk (k+1)) fuel f65 [.tup ds,.int v] mh) P:=by
 refine Aq (lQ k) Ru.1 Ru.2 rfl ?_;show wS (b65 k) [some (.tup ds),some (.int v),none] mh _;unfold b65
 walk_at "x0"
 refine Pu (ds:=ds) rfl ?_
 walk_at "x0"
 refine Kg (by simp;omega) ?_
 walk_at "x0"
 refine Od λes he le=>?_
 walk_at "x0"
 refine tR ?_
 walk_at "x0"
 refine Od λfs hf lf=>?_
 walk_at "x0"
 refine Kg (by omega) ?_
 walk_at "x0"
 generalize hm1:mh++[MO.lst ds]=m1;have x1:Ext [] mh m1:=by rw [← hm1];exact Ext.more
 have g1:m1[mh.length]?=some (.lst ds):=by rw [← hm1];exact Ah
 generalize hA:[D.ref (List.length mh),D.tup (ds++[D.int 0]),D.tup es,D.tup [],D.non,D.tup ds.reverse,D.tup (ds++fs)]=A;have lA:A.length=7:=by rw [← hA];rfl
 have tA:∀ x∈A,∀ h',Ext [] m1 h'->Th h' (n+2) x:=λx hx h' x'=>by
  have hd':∀ x∈ds,Th h' n x:=λx hx=>(hd x hx).ext (x1.trans x')
  rw [← hA] at hx;simp only [dg,jh,or_false] at hx;rcases hx with rfl|rfl|rfl|rfl|rfl|rfl|rfl
  ·exact (W8 (x'.old _ _ (by simp) g1) hd').up
  ·refine (Ec λy hy=>?_).up;rcases jl.mp hy with z|z
   ·exact hd' y z
   ·rw [jg.mp z];exact Hr
  ·exact (Ec λy hy=>hd' y (he y hy)).up
  ·exact Ec λy hy=>by simp at hy
  ·exact Sh
  ·exact (Ec λy hy=>hd' y (List.mem_reverse.mp hy)).up
  ·refine (Ec λy hy=>?_).up;rcases jl.mp hy with z|z
   ·exact hd' y z
   ·exact hd' y (hf y z)
 refine Kf (xs:=A) ((Ext.more (W:=[])).old _ _ (by simp) Ah) Ah (by rw [lA];decide) ?_
 walk_at "x0"
 refine Kf (xs:=A++[D.tup [D.int 5,D.int 3],D.tup [D.int 3,D.int 5,D.int 7],D.tup [D.int 4]]) ((Ext.more (W:=[])).old _ _ (by simp) Ah) Ah (by rw [bh,lA];decide) ?_
 walk_at "x0"
 obtain ⟨r,hr,er⟩:=Dk v 15 (by decide);rw [show (15:Int)=((15:Nat):Int) from rfl,er];refine Dg Ah (by rw [bh,bh,lA];simpa using hr) λy hy=>?_
 have xx:Ext [] m1 (m1++[MO.lst A]++[MO.lst [D.tup [D.int 5,D.int 3],D.tup [D.int 3,D.int 5,D.int 7],D.tup [D.int 4]]]++[MO.lst (A++[D.tup [D.int 5,D.int 3],D.tup [D.int 3,D.int 5,D.int 7],D.tup [D.int 4]])]++[MO.lst [D.tup [D.bl true,D.int 7],D.tup [D.str "1",D.int 2],D.tup [D.non,D.non],D.int 4,D.tup [D.int 2,D.int 2]]]++[MO.lst (A++[D.tup [D.int 5,D.int 3],D.tup [D.int 3,D.int 5,D.int 7],D.tup [D.int 4]]++[D.tup [D.bl true,D.int 7],D.tup [D.str "1",D.int 2],D.tup [D.non,D.non],D.int 4,D.tup [D.int 2,D.int 2]])]):=((((Ext.more.trans Ext.more).trans Ext.more).trans Ext.more).trans Ext.more)
 walk_at "x0"
 refine h _ _ (x1.trans xx) ?_;rcases jl.mp hy with hy|hy
 ·rcases jl.mp hy with hy|hy
  ·exact tA y hy _ xx
  ·simp only [dg,jh,or_false] at hy;rcases hy with rfl | rfl | rfl <;> exact Ec λz hz=>by
    simp only [dg,jh,or_false] at hz;rcases hz with rfl | rfl | rfl <;> exact Hr
 ·simp only [dg,jh,or_false] at hy;rcases hy with rfl|rfl|rfl|rfl|rfl
  ·exact Ec λz hz=>by
    simp only [dg,jh,or_false] at hz;rcases hz with rfl|rfl
    ·exact uX
    ·exact Hr
  ·exact Ec λz hz=>by
    simp only [dg,jh,or_false] at hz;rcases hz with rfl|rfl
    ·exact W7 (by decide +kernel)
    ·exact Hr
  ·exact Ec λz hz=>by
    simp only [dg,jh,or_false] at hz;rcases hz with rfl | rfl <;> exact Sh
  ·exact Hr
  ·exact Ec λz hz=>by
    simp only [dg,jh,or_false] at hz;rcases hz with rfl | rfl <;> exact Hr
theorem Ys (k:Nat) (t:Th mh n d) (hl:∀ ds,d=.tup ds->ds.length<=1000) (v:Int) (h:∀ x h',Ext [] mh h'->Th h' (n+1) x->P x h'):wV (Af (Gk (k+1)) fuel f65 [d,.int v] mh) P:=by
 by_cases hT:isT d=true
 ·cases d with
  | tup ds =>
   obtain ⟨n',rfl,ti⟩:=t.items;exact nG k ti (hl ds rfl) v h
  | _=>cases hT
 ·refine Aq (lQ k) Ru.1 Ru.2 rfl ?_;show wS (b65 k) [some d,some (.int v),none] mh _;unfold b65;refine Cj (Ij (Ez (Fx (Dd (by with_unfolding_all rfl) (Dr t ⟨_,rfl,λe=>absurd e hT,λ_=>?_⟩)))))
  walk_at "x0"
  obtain ⟨r,hr,er⟩:=Dk v 11 (by decide);rw [show (11:Int)=((11:Nat):Int) from rfl,er];refine Dg Ah (by simpa using hr) λy hy=>?_
  walk_at "x0"
  refine h _ _ Ext.more ?_;simp only [dg,jh,or_false] at hy;rcases hy with rfl | rfl | rfl | rfl | rfl | rfl | rfl | rfl | rfl | rfl | rfl <;> first | exact Hr | exact uX | exact Sh | exact W7 (by decide +kernel) | exact Ec λz hz=>by (rw [jg.mp hz];exact Hr)
end
noncomputable def Sm:Nat->D->Prop
 | _,.non=>True
 | _,.bl _=>True
 | _,.int _=>True
 | n+1,.tup ds=>ds.length<=100/\∀ x∈ds,Sm n x
 | _,_=>False
theorem Sm.th {mh:MH}:∀ {n:Nat}{d:D},Sm n d->Th mh n d:=by
 intro n
 induction n with
 | zero=>intro d t;cases d <;> simp_all [Th,Sm]
 | succ n ih =>
  intro d t;cases d with
  | tup ds=>simp only [Th,Sm] at t ⊢;exact λx hx=>ih (t.2 x hx)
  | _=>simp_all [Th,Sm]
theorem Sm.items {n:Nat}{ds:List D}(t:Sm n (.tup ds)):∃ m,n=m+1/\ds.length<=100/\∀ x∈ds,Sm m x:=by
 cases n with
 | zero=>simp [Sm] at t
 | succ m=>simp only [Sm] at t;exact ⟨m,rfl,t.1,t.2⟩
section
variable {mh:MH}{n:Nat}{d:D}{P:D->MH->Prop}
theorem Abu {ds:List D}(t:Th mh 60 (.tup ds)) (h:P (.bl (!ds.isEmpty)) mh):wV (neD (.tup ds) (.tup []) mh) P:=by
 obtain ⟨m,em,ti⟩:=t.items;cases em;obtain ⟨as,ea,el⟩:=Io (f:=DL.py mh 59) λx hx=>(ti x hx).py
 have p1:py mh 60 (.tup ds)=some (.tuple as):=by
  show (match Gx (DL.py mh 59) ds with | some xs=>some (PyData.tuple xs) | none=>none)=_;rw [ea]
 refine uJ (k:=ds.isEmpty) ?_ h;unfold eqB;rw [p1];show some (CK (.tuple as) (.tuple []))=_;cases ds with
 | nil =>
  cases as with
  | nil=>rfl
  | cons _ _=>cases el
 | cons _ _ =>
  cases as with
  | nil=>cases el
  | cons _ _=>rfl
theorem U9 (k j:Nat):∀ (deep:Nat) {n:Nat}{d:D}{vs:List Int}{mh:MH}{P:D->MH->Prop},Sm n d->n<=50->IsI mh j vs->deep < vs.length->vs.length<=1000->(∀ x h',Ext [j] mh h'->Th h' (n+1) x->P x h')->wV (Af (Gk (k+deep+2)) fuel f66 [d,.ref j,.int deep] mh) P:=by
 intro deep
 induction deep with
 | zero =>
  intro n d vs mh P t hn g lv lw h;refine Aq (lR (k+0+1)) Rv.1 Rv.2 rfl ?_;show wS (b66 (k+0+1)) [some d,some (.ref j),some (.int (0:Nat)),none,none] mh _;unfold b66
  walk_at "x0"
  refine ⟨ty_list g,?_⟩
  walk_at "x0"
  refine R8 g (by omega) (by omega) λh5 x5 l5 g5=>?_
  walk_at "x0"
  refine Ys (k+0) (t.th) (λds e=>by subst e;obtain ⟨_,_,a,_⟩:=t.items;omega) _ λx h' x' tx=>?_
  walk_at "x0"
  exact h x h' (x5.trans x'.weak) tx
 | succ deep ih =>
  intro n d vs mh P t hn g lv lw h;refine Aq (lR (k+(deep+1)+1)) Rv.1 Rv.2 rfl ?_;show wS (b66 (k+(deep+1)+1)) [some d,some (.ref j),some (.int (deep+1:Nat)),none,none] mh _;unfold b66
  walk_at "x0"
  refine ⟨ty_list g,?_⟩
  walk_at "x0"
  refine R8 g (by omega) (by omega) λh5 x5 l5 g5=>?_
  have odd:wS (Ab (retS (Ae (Af (Gk (k+(deep+1)+1)) fuel f65) (Aa (vr 0) (Aa (dop Bb (vr 3) (Zr (.int 5))) (Zr []))))) Zn) [some d,some (.ref j),some (.int (deep+1:Nat)),some (.int vs[0]),none] h5 (Ux P):=by
   walk_at "x0"
   refine Ys (k+(deep+1)) (t.th) (λds e=>by subst e;obtain ⟨_,_,a,_⟩:=t.items;omega) _ λx h' x' tx=>?_
   walk_at "x0"
   exact h x h' (x5.trans x'.weak) tx
  walk_at "x0"
  refine ⟨λ_=>?_,λe=>absurd (of_decide_eq_false e) (λz=>z (by omega))⟩;refine Ro (Ez (Fx (Dd (by with_unfolding_all rfl) (Dr (t.th) ⟨_,rfl,λe2=>?_,λe2=>?_⟩))))
  rotate_left
  ·exact ⟨λz=>(by cases z),λ_=>Ck (Ax odd)⟩
  cases d with
  | tup ds =>
   obtain ⟨m,rfl,ls,ti⟩:=t.items
   walk_at "x0"
   refine Abu ((t.th).le (by omega)) ?_
   walk_at "x0"
   refine ⟨λe3=>?_,λe3=>⟨λz=>(by cases z),λ_=>Ck (Ax odd)⟩⟩;have ne:0 < ds.length:=by
    cases ds with
    | nil=>cases e3
    | cons _ _=>simp
   walk_at "x0"
   refine Am (λe4=>?_) λe4=>Ck (Ax odd)
   walk_at "x0"
   refine Cd (ds:=ds) (by intro z z';cases z') rfl ?_;refine Fb (by omega) ?_;obtain ⟨r,hr,er⟩:=Dk ((vs[0]'(by omega)).fdiv 5) ds.length ne;rw [er]
   walk_at "x0"
   refine Od λes he le=>?_
   walk_at "x0"
   refine Bm (j:=r) (d:=ds[r]) (bw hr) ?_
   walk_at "x0"
   rw [show ((deep+1:Nat):Int) - 1=(deep:Int) by omega];refine ih (ti _ (qp hr)) (by omega) g5 (by rw [BX];omega) (by rw [BX];omega) λx h6 x6 tx=>?_
   walk_at "x0"
   refine Kg (by simp;omega) ?_
   walk_at "x0"
   refine Od λfs hf lf=>?_
   walk_at "x0"
   refine Kg (by simp;omega) ?_
   walk_at "x0"
   refine h _ h6 (x5.trans x6) (Ec λy hy=>?_);rcases jl.mp hy with hy|hy
   ·rcases jl.mp hy with hy|hy
    ·exact ((ti y (he y hy)).th).up
    ·rw [jg.mp hy];exact tx
   ·exact ((ti y (hf y hy)).th).up
  | _=>cases e2
end
theorem All2.at {α β:Type}{R:α->β->Prop}:∀ {a:List α}{b:List β},All2 R a b->∀ (i:Nat) (y:β),b[i]?=some y->∃ x,a[i]?=some x/\R x y
 | _,_,.nil,i,y,e=>by simp at e
 | _,_,.cons r t,0,y,e=>by cases e;exact ⟨_,rfl,r⟩
 | _,_,.cons r t,i+1,y,e=>by
  obtain ⟨x,e1,e2⟩:=All2.at t i y (by simpa using e);exact ⟨x,by simpa using e1,e2⟩
structure PatOk (p:Pg) (g:Gw Pr):Prop where
 ps:g.ps.length=p.H
 pt:∀ (i:Nat) (q:Gp Pr) (r:Nat),g.ps[i]?=some q->p.plays[i]?=some r->(q.ns.length=3/\∀ z∈q.ns,okP z)/\(q.ms.length=3/\∀ m∈q.ms,-1<=m/\m<=(p.H:Int) - 1)/\(q.s0 < 2 ^ p.H/\q.s1 < 2 ^ p.H)/\-1<=q.pl/\q.pl<=(p.len r:Int)
 rs:g.rs.length=p.H
 rw:∀ w∈g.rs,w.length=p.H/\∀ ls∈w,ls.length<=p.room/\∀ z∈ls,(1<=z.1/\z.1<=12)/\okP z.2.1/\-1<=z.2.2/\z.2.2<=(p.H:Int) - 1
 x:0<=g.x/\g.x<=p.l0
 y:0<=g.y/\g.y<=p.l1
theorem Yt {z:Pr}(h:okP z):prB (prD z)=true:=by
 obtain ⟨a,b⟩:=z;cases a with
 | none=>cases b <;> rfl
 | some a =>
  cases b with
  | none=>rfl
  | some b =>
   have:=h a b rfl;show (true&&(true&&!(decide (b < a))))=true;rw [decide_eq_false (by omega)];rfl
theorem Gh {l u i:Int}(h1:l<=i) (h2:i<=u):btB l u (.int i)=true:=by
 show (decide (l<=i)&&decide (i<=u))=true;rw [decide_eq_true h1,decide_eq_true h2];rfl
theorem Va {p:Pg}{g:Gw Pr}(o:PatOk p g):Ip p (gwD prD g)=true:=by
 show (Dm p (.tup (g.ps.map (gpD prD)))&&(Hu p (.tup (g.rs.map (rwD prD)))&&(btB 0 p.l0 (.int g.x)&&btB 0 p.l1 (.int g.y))))=true;rw [Gh o.x.1 o.x.2,Gh o.y.1 o.y.2];have e1:Dm p (.tup (g.ps.map (gpD prD)))=true:=by
  show (((g.ps.map (gpD prD)).length==p.H)&&(zz p (g.ps.map (gpD prD))).all id)=true;rw [aq,o.ps,beq_self_eq_true,gh,kj];intro b hb;obtain ⟨i,hi,e⟩:=wj hb;have eb:(zz p (g.ps.map (gpD prD)))[i]?=some b:=by rw [bw hi,e]
  unfold zz at eb;rw [CG] at eb;split at eb
  ·rename_i r x er ex;cases eb;rw [dj] at ex;cases eq:g.ps[i]? with
   | none=>rw [eq] at ex;cases ex
   | some q =>
    rw [eq] at ex;cases ex;obtain ⟨⟨a1,a2⟩,⟨b1,b2⟩,⟨c1,c2⟩,d1,d2⟩:=o.pt i q r eq er;show (btB (-1) (p.len r:Int) (.int q.pl)&&((((q.ns.map prD).length==3)&&(q.ns.map prD).all prB)&&((((q.ms.map D.int).length==3)&&(q.ms.map D.int).all (btB (-1) ((p.H:Int) - 1)))&&((true&&(btB 0 ((2 ^ p.H:Nat) - 1) (Cu q.s0)&&(btB 0 ((2 ^ p.H:Nat) - 1) (Cu q.s1)&&true)))&&true))))=true
    rw [Gh d1 d2,aq,a1,aq,b1,show (q.ns.map prD).all prB=true by
     rw [ug,kj];exact λz hz=>Yt (a2 z hz),show (q.ms.map D.int).all (btB (-1) ((p.H:Int) - 1))=true by
     rw [ug,kj];exact λz hz=>Gh (b2 z hz).1 (b2 z hz).2,show btB 0 ((2 ^ p.H:Nat) - 1) (Cu q.s0)=true from Gh (by omega) (by omega),show btB 0 ((2 ^ p.H:Nat) - 1) (Cu q.s1)=true from Gh (by omega) (by omega)]
    rfl
  ·cases eb
 have e2:Hu p (.tup (g.rs.map (rwD prD)))=true:=by
  show (((g.rs.map (rwD prD)).length==p.H)&&(g.rs.map (rwD prD)).all (Fy p))=true;rw [aq,o.rs,beq_self_eq_true,gh,ug,kj];intro w hw;obtain ⟨l1,l2⟩:=o.rw w hw;show (((w.map (lsD prD)).length==p.H)&&(w.map (lsD prD)).all (Le p))=true;rw [aq,l1,beq_self_eq_true,gh,ug,kj];intro ls hl;obtain ⟨m1,m2⟩:=l2 ls hl;show (decide ((ls.map (glD prD)).length<=p.room)&&(ls.map (glD prD)).all (Cm p.H))=true;rw [aq,decide_eq_true m1,gh,ug,kj];intro z hz;obtain ⟨⟨z1,z2⟩,z3,z4,z5⟩:=m2 z hz;show (btB 1 12 (.int z.1)&&(prB (prD z.2.1)&&btB (-1) ((p.H:Int) - 1) (.int z.2.2)))=true;rw [Gh z1 z2,Yt z3,Gh z4 z5];rfl
 rw [e1,e2];rfl
theorem nH {p:Pg}{ps:List Pt}{rs:Rows}{x y:Int}{g:Gw Pr}(l1:ps.length=p.H) (o1:mC p.H p.roles p.plays ps) (l2:rs.length=p.H) (o2:W0 p.H p.room rs) (hx:0<=x/\x<=p.l0) (hy:0<=y/\y<=p.l1)
  (h1:All2 (RP RA) (ps.map toG) g.ps) (h2:All2 (All2 (All2 (RL RA))) rs g.rs) (h3:(g.x,g.y)=(x,y)):PatOk p g:=by
 have e3:g.x=x:=congrArg (·.1) h3;have e4:g.y=y:=congrArg (·.2) h3;refine ⟨by rw [← h1.len,aq];exact l1,λi q r eq er=>?_,by rw [← h2.len];exact l2,λw hw=>?_,by rw [e3];exact hx,by rw [e4];exact hy⟩
 ·obtain ⟨u,eu,b1,b2,b3⟩:=h1.at i q eq;rw [dj] at eu;cases ep:ps[i]? with
  | none=>rw [ep] at eu;cases eu
  | some v =>
   rw [ep] at eu;cases eu;obtain ⟨a1,a2,a3,⟨a4,a5⟩,a6,a7⟩:=o1 i v r ep er;have c1:q.pl=v.pl:=congrArg (·.1) b1;have c3:q.s0=v.s0:=congrArg (·.2.2.1.1) b1;have c4:q.s1=v.s1:=congrArg (·.2.2.1.2) b1;have c2:q.ms=v.ms:=b2;refine ⟨⟨by rw [← b3.len];exact a1,λz hz=>?_⟩,⟨by rw [c2];exact a2,by rw [c2];exact a3⟩,⟨by rw [c3];exact a4,by rw [c4];exact a5⟩,by rw [c1];exact a6,by rw [c1];exact a7⟩;obtain ⟨_,_,z⟩:=b3.mem_r z hz;exact z.2
 ·obtain ⟨u,hu,r1⟩:=h2.mem_r w hw;obtain ⟨m1,m2⟩:=o2 u hu;refine ⟨by rw [← r1.len];exact m1,λls hl=>?_⟩;obtain ⟨v,hv,r2⟩:=r1.mem_r ls hl;obtain ⟨n1,n2⟩:=m2 v hv;refine ⟨by rw [← r2.len];exact n1,λz hz=>?_⟩;obtain ⟨t,ht,z1,z2,z3⟩:=r2.mem_r z hz;obtain ⟨k1,k2,k3⟩:=n2 t ht;exact ⟨by rw [z1];exact k1,z3.2,by rw [z2];exact k2,by rw [z2];exact k3⟩
theorem All2.self {α β:Type}{R:α->β->Prop}{f:α->β}(h:∀ x,R x (f x)):∀ l:List α,All2 R l (l.map f)
 | []=>.nil
 | a::r=>.cons (h a) (All2.self h r)
theorem Yu (w:Gw Int):All2 (RP RA) w.ps (zpW gPt w w).ps/\All2 (All2 (All2 (RL RA))) w.rs (zpW gPt w w).rs:=by
 have ra:∀ n:Int,RA n (gPt n n):=λn=>⟨⟨λl e=>by cases e;omega,λl e=>by cases e;omega⟩,λl u e=>by cases e;omega⟩
 refine ⟨?_,?_⟩
 ·show All2 (RP RA) w.ps (gw (zpP gPt) w.ps w.ps);rw [xj];refine All2.self (λq=>⟨rfl,rfl,?_⟩) _;show All2 RA q.ns (gw gPt q.ns q.ns);rw [xj];exact All2.self ra _
 ·show All2 _ w.rs (gw (gw (gw (zpL gPt))) w.rs w.rs);rw [xj];refine All2.self (λa=>?_) _;rw [xj];refine All2.self (λb=>?_) _;rw [xj];exact All2.self (λc=>⟨rfl,rfl,ra _⟩) _
theorem Jt {n:Nat}{i:Int}:Sm n (.int i):=by cases n <;> simp [Sm]
theorem Fd {n:Nat}{ds:List D}(h:ds.length<=100) (h2:∀ x∈ds,Sm n x):Sm (n+1) (.tup ds):=by simp only [Sm];exact ⟨h,h2⟩
theorem Sm.up:∀ {n:Nat}{d:D},Sm n d->Sm (n+1) d:=by
 intro n
 induction n with
 | zero=>intro d t;cases d <;> simp_all [Sm]
 | succ n ih =>
  intro d t;cases d with
  | tup ds=>simp only [Sm] at t ⊢;exact ⟨t.1,λx hx=>ih (t.2 x hx)⟩
  | _=>simp_all [Sm]
theorem uY {z:Pr}:Sm 1 (prD z):=by
 refine Fd (by simp) λx hx=>?_
 obtain ⟨a,b⟩:=z;simp only [dg,jh,or_false] at hx;rcases hx with rfl|rfl
 ·cases a <;> simp [ob,Sm]
 ·cases b <;> simp [ob,Sm]
theorem nJ {α:Type}{e:α->D}(he:∀ a,Sm 1 (e a)) {H:Nat}(hH:H<=6) {w:Gw α}(o:w.ok H):Sm 6 (gwD e w):=by
 refine Fd (by simp) λx hx=>?_
 simp only [dg,jh,or_false] at hx;rcases hx with rfl|rfl|rfl
 ·refine Fd (by rw [aq,o.ps];omega) λx hx=>?_
  obtain ⟨q,hq,rfl⟩:=gj.mp hx;refine Fd (by simp) λx hx=>?_
  simp only [dg,jh,or_false] at hx;rcases hx with rfl|rfl|rfl|rfl|rfl
  ·exact Jt
  ·refine Fd (by rw [aq,o.ns q hq];decide) λx hx=>?_
   obtain ⟨z,_,rfl⟩:=gj.mp hx;exact (he z).up
  ·refine Fd (by rw [aq,o.ms q hq];decide) λx hx=>?_
   obtain ⟨z,_,rfl⟩:=gj.mp hx;exact Jt
  ·refine Fd (by simp) λx hx=>?_
   simp only [dg,jh,or_false] at hx;rcases hx with rfl | rfl <;> exact Jt
  ·simp [Sm]
 ·refine Fd (by rw [aq,o.rs];omega) λx hx=>?_
  obtain ⟨r,hr,rfl⟩:=gj.mp hx;refine Fd (by rw [aq,o.rw r hr];omega) λx hx=>?_
  obtain ⟨l,hl,rfl⟩:=gj.mp hx;refine Fd (by rw [aq];have:=o.ls r hr l hl;omega) λx hx=>?_
  obtain ⟨z,hz,rfl⟩:=gj.mp hx;refine Fd (by simp) λx hx=>?_
  simp only [dg,jh,or_false] at hx;rcases hx with rfl|rfl|rfl
  ·exact Jt
  ·exact he _
  ·exact Jt
 ·refine Fd (by simp) λx hx=>?_
  simp only [dg,jh,or_false] at hx;rcases hx with rfl | rfl <;> exact Jt
theorem tU {b:Bool}{mh:MH}{P:D->MH->Prop}(h:P (.bl false) mh):wV (neD (.bl b) (.bl b) mh) P:=uJ (k:=true) (by cases b <;> rfl) h
theorem Yv {mh:MH}{P:D->MH->Prop}(h:P (.bl false) mh):wV (isD true (.bl true) (.bl true) mh) P:=⟨_,_,rfl,h⟩
theorem tV {mh:MH}{d:D}(t:Sm 6 d):Th mh 7 d:=(t.th).up
theorem Abv (ns:List Int) (hns:ns.length<=63):wV (Af (Gk (12+1)) fuel f67 [.rol (ns.map D.int)] sl0) λd _=>d=.bl true:=by
 refine Aq (Abe 12) lM.1 lM.2 rfl ?_;show wS (b67 12) [some (.rol (ns.map D.int)),none,none,none,none,none,none,none,none] sl0 _;have hs0:Hs sl0:=Hs.start;generalize sl0=m0 at hs0;unfold b67
 walk_at "x0"
 refine G4 11 ns 0 _ λv0=>?_
 obtain ⟨H0,hH0,eH0⟩:=Dk v0 4 (by decide);have eH0:v0.fmod 4=(H0:Int):=eH0
 walk_at "x0"
 rw [eH0];have eH:(1:Int)+(H0:Int)=((H0+1:Nat):Int):=by omega
 rw [eH];refine G4 11 ns 0 _ λv1=>?_
 obtain ⟨R0,hR0,eR0⟩:=Dk (v1.fdiv 4) 3 (by decide);have eR0:(v1.fdiv 4).fmod 3=(R0:Int):=eR0
 walk_at "x0"
 rw [eR0];have eR:(1:Int)+(R0:Int)=((R0+1:Nat):Int):=by omega
 rw [eR];refine G4 11 ns 1 _ λc1=>?_
 walk_at "x0"
 refine U3 9 c1 (H:=H0+1) (R:=R0+1) (L:=6) (by omega) (by omega) (by omega) (by omega) (by decide) _ λroom c0 c1' parts plays m1 r1 r2 hc0 hc1 lp ll hp x1=>?_
 obtain ⟨rm,rfl⟩:∃ rm:Nat,room=(rm:Int):=⟨room.toNat,by omega⟩;obtain ⟨l0,rfl⟩:∃ l0:Nat,c0=(l0:Int):=⟨c0.toNat,by omega⟩;obtain ⟨l1,rfl⟩:∃ l1:Nat,c1'=(l1:Int):=⟨c1'.toNat,by omega⟩;generalize hHH:H0+1=H at *;have h1H:1<=H:=by omega
 have hH:H<=6:=by omega
 have hs1:=hs0.ext x1
 let p:Pg:=⟨rm,l0,l1,parts,plays⟩
 have pH:p.H=H:=ll;have po:p.ok:=⟨by show 1<=plays.length;omega,by show plays.length<=6;omega,λr hr=>by show r < parts.length;rw [lp];exact hp r hr,by show rm<=10;omega⟩
 walk_at "x0"
 refine Dz ?_
 walk_at "x0"
 refine Cd (by intro z z';cases z') rfl ?_
 walk_at "x0"
 rw [aq];refine Ls (d:=.int (Mf 62 [(ns.length:Int)])) (h:=m1) rfl ?_
 walk_at "x0"
 refine Ls (d:=.int (Nf 5 [Mf 62 [(ns.length:Int)]])) (h:=m1) rfl ?_
 walk_at "x0"
 generalize hM:Nf 5 [Mf 62 [(ns.length:Int)]]=M;have bM:5<=M/\M<=62:=by
  rw [Ad3,Ad2] at hM;subst hM;split <;> split <;> omega
 have eRg:Zz [.int 2,.int M,.int 3]=some (.seq (Ey 2 3 (J7 2 M 3))):=by
  show (if (0 < (3:Int)/\(3:Int) < 1000)/\(-1000000<=(2:Int)/\(2:Int)<=1000000)/\(-1000000<=M/\M<=1000000) then some (Src.seq (Ey 2 3 (J7 2 M 3))) else none)=_;rw [if_pos ⟨⟨by decide,by decide⟩,⟨by decide,by decide⟩,by omega,by omega⟩]
 refine ⟨_,eRg,Ey 2 3 (J7 2 M 3),λ_ l h=>(∃ x4 x5 x6 x7 x8,l=[some (.rol (ns.map D.int)),some (.int (H:Nat)),some (.int ((R0+1:Nat):Int)),some p.d,x4,x5,x6,x7,x8])/\Hs h,⟨⟨none,none,none,none,none,rfl⟩,hs1⟩,λ_ _ _ _=>⟨rfl,rfl⟩,?_,?_⟩
 ·rintro i d l m2 ed ⟨⟨x4,x5,x6,x7,x8,rfl⟩,s2⟩;obtain ⟨i',_,rfl⟩:=gj.mp (di ed);have ei:(2:Int)+(i':Int) * 3=((2+i' * 3:Nat):Int):=by omega
  have ei1:((2+i' * 3:Nat):Int)+1=((2+i' * 3+1:Nat):Int):=by omega
  have ei2:((2+i' * 3:Nat):Int)+2=((2+i' * 3+2:Nat):Int):=by omega
  rw [ei]
  walk_at "x0"
  refine G4 11 ns _ m2 λc2=>?_
  walk_at "x0"
  refine aU 9 c2 (H:=H) (R:=R0+1) h1H hH rm (by omega) (by omega) l0 l1 (by omega) (by omega) parts plays lp ll hp m2 λps rs x y m3 lps ops lrs rk bx bb y3=>?_
  have s3:=s2.ext y3;rw [Aea];have ow:Gw.ok H (⟨ps.map toG,rs,x,y⟩:Gw Int):=by
   refine ⟨by rw [aq];exact lps,λq hq=>?_,λq hq=>?_,lrs,λr hr=>(rk r hr).1,λr hr l hl=>ig ((rk r hr).2 l hl).1 (by omega)⟩
   ·obtain ⟨v,hv,rfl⟩:=gj.mp hq;obtain ⟨j,hj,e⟩:=wj hv;exact (ops j v plays[j] (by rw [bw hj,e]) (bw _)).1
   ·obtain ⟨v,hv,rfl⟩:=gj.mp hq;obtain ⟨j,hj,e⟩:=wj hv;exact (ops j v plays[j] (by rw [bw hj,e]) (bw _)).2.1
  walk_at "x0"
  rw [ei1];refine G4 11 ns _ m3 λc3=>?_
  walk_at "x0"
  refine mL 9 H _ hH ow c3 m3 λA m4 r1' r2' r3' y4=>?_
  have s4:=s3.ext y4;have oA:PatOk p A:=nH (p:=p) (by rw [pH];exact lps) (by rw [pH];exact ops) (by rw [pH];exact lrs) (by rw [pH];exact rk) bx bb r1' r2' r3';have oW:PatOk p (zpW gPt ⟨ps.map toG,rs,x,y⟩ ⟨ps.map toG,rs,x,y⟩):=nH (p:=p) (by rw [pH];exact lps) (by rw [pH];exact ops) (by rw [pH];exact lrs) (by rw [pH];exact rk) bx bb (Yu (⟨ps.map toG,rs,x,y⟩:Gw Int)).1 (Yu (⟨ps.map toG,rs,x,y⟩:Gw Int)).2 rfl;have okA:A.ok H:=⟨by rw [← pH];exact oA.ps,λq hq=>?_,λq hq=>?_,by rw [← pH];exact oA.rs,λr hr=>by rw [← pH];exact (oA.rw r hr).1,λr hr l hl=>ig ((oA.rw r hr).2 l hl).1 (by show rm<=2;omega)⟩
  rotate_left
  ·obtain ⟨v,hv,z1,z2,z3⟩:=r1'.mem_r q hq;rw [← z3.len];exact ow.ns v hv
  ·obtain ⟨v,hv,z1,z2,z3⟩:=r1'.mem_r q hq;rw [z2];exact ow.ms v hv
  have smW:Sm 6 (gwD D.int (⟨ps.map toG,rs,x,y⟩:Gw Int)):=nJ (λ_=>Jt) hH ow;have smA:Sm 6 (gwD prD A):=nJ (λ_=>uY) hH okA;have smO:Sm 6 (gwD prD (zpW gPt (⟨ps.map toG,rs,x,y⟩:Gw Int) ⟨ps.map toG,rs,x,y⟩)):=nJ (λ_=>uY) hH (Ad5 (g:=gPt) ow ow rfl);generalize hw:(⟨ps.map toG,rs,x,y⟩:Gw Int)=w at *
  clear hw r1' r2' r3' ops rk bx bb lps lrs
  walk_at "x0"
  refine Lf 4 p po (smA.th) λm5 y5=>?_
  rw [Va oA]
  walk_at "x0"
  refine Yv ?_
  walk_at "x0"
  refine sU 7 H w hH ow m5 ((s4.ext y5).c0) λm6 y6=>?_
  walk_at "x0"
  refine Lf 4 p po (smO.th) λm7 y7=>?_
  rw [Va oW]
  walk_at "x0"
  refine Yv ?_;have s7:=((s4.ext y5).ext y6).ext y7
  walk_at "x0"
  rw [ei2];refine G4 11 ns _ m7 λc4=>?_
  have fin:∀ (z:D) (h':MH),Hs h'->Th h' 7 z->wS (Ab (ifS (Ar (dop neD (Ae (Af (Gk 12) fuel f36) (Aa (vr 3) (Aa (vr 8) (Zr [])))) (Ae (Jh (Gk 12) fuel "_law_is_pattern" f64 lm2) (Aa (vr 3) (Aa (vr 8) (Zr [])))))) (Ab (retS (Zr (.bl false))) Zn) Zn) Zn) [some (.rol (ns.map D.int)),some (.int (H:Nat)),some (.int ((R0+1:Nat):Int)),some p.d,some (.int ((2+i' * 3:Nat):Int)),some (gwD D.int w),some (gwD prD A),some (.int c4),some z] h' (λf l h=>f=.nx/\(∃ x4 x5 x6 x7 x8,l=[some (.rol (ns.map D.int)),some (.int (H:Nat)),some (.int ((R0+1:Nat):Int)),some p.d,x4,x5,x6,x7,x8])/\Hs h):=λz h' sz tz=>by
   walk_at "x0"
   refine Lf 4 p po tz λm8 y8=>?_
   walk_at "x0"
   refine nF 2 p po (n:=3) (tz.ext y8) (by decide) (sz.ext y8) λm9 s9=>?_
   walk_at "x0"
   refine tU ?_
   walk_at "x0"
   exact ⟨rfl,⟨_,_,_,_,_,rfl⟩,s9⟩
  walk_at "x0"
  obtain ⟨ds,eds,lds,ids⟩:∃ ds,gwD prD A=.tup ds/\ds.length<=100/\∀ x∈ds,Sm 5 x:=by
   obtain ⟨m,em,a,b⟩:=Sm.items (ds:=[.tup (A.ps.map (gpD prD)),.tup (A.rs.map (rwD prD)),.tup [.int A.x,.int A.y]]) smA;cases em;exact ⟨_,rfl,a,b⟩
  refine Pu (ds:=ds) (by rw [eds];rfl) ?_
  walk_at "x0"
  rw [eds] at fin smA ⊢;refine Od λes he le=>?_
  walk_at "x0"
  obtain ⟨r,hr,er⟩:=Dk (c4.fdiv 2) 8 (by decide);rw [show (8:Int)=((8:Nat):Int) from rfl,er];refine Dg Ah (by simpa using hr) λz hz=>?_
  have g0:(m7++[MO.lst []])[m7.length]?=some (.lst []):=Ah;have g1:(m7++[MO.lst []]++[MO.lst ds])[(m7++[MO.lst []]).length]?=some (.lst ds):=Ah
  generalize hm8:m7++[MO.lst []]++[MO.lst ds]++[MO.lst [D.non,D.int 7,gwD D.int w,D.ref (List.length m7),D.tup [],D.ref (List.length (m7++[MO.lst []])),D.tup es,D.str "world"]]=m8;have y8:Ext [] m7 m8:=by rw [← hm8];exact (Ext.more.trans Ext.more).trans Ext.more
  have k0:m8[m7.length]?=some (.lst []):=by rw [← hm8];exact ((Ext.more (W:=[])).trans Ext.more).old _ _ (by simp) g0
  have k1:m8[(m7++[MO.lst []]).length]?=some (.lst ds):=by rw [← hm8];exact (Ext.more (W:=[])).old _ _ (by simp) g1
  have s8:=s7.ext y8;have tz:Th m8 7 z:=by
   simp only [dg,jh,or_false] at hz;rcases hz with rfl|rfl|rfl|rfl|rfl|rfl|rfl|rfl
   ·exact Sh
   ·exact Hr
   ·exact tV smW
   ·exact W8 k0 λ_ q=>by simp at q
   ·exact Ec λ_ q=>by simp at q
   ·exact W8 k1 λx hx=>((ids x hx).th).up
   ·exact Ec λx hx=>((ids x (he x hx)).th).up
   ·exact W7 (by decide +kernel)
  clear hm8 g0 g1 k0 k1 hz
  walk_at "x0"
  refine Am (λe=>?_) λe=>?_
  ·walk_at "x0"
   refine Js (by decide) (by decide) (by decide) ?_;rw [Wz]
   walk_at "x0"
   refine Jb 10 (c4.fdiv 2) 7 (by decide) 1000000 (by decide) (by decide) m8 λvs jd m9 lvs _ y9 g9 hj=>?_
   walk_at "x0"
   refine U9 5 jd 5 smA (by decide) g9 (by rw [lvs];decide) (by rw [lvs];decide) λz2 m10 y10 tz2=>?_
   refine Cw (Ax (Ck (Ax ?_)));refine Mr (fin z2 m10 (s8.ext (Ld y9 y10 hj)) tz2) ?_;rintro f l h ⟨rfl,e2,e3⟩;exact ⟨e2,e3⟩
  ·refine Ck (Ax ?_);refine Mr (fin z m8 s8 tz) ?_;rintro f l h ⟨rfl,e2,e3⟩;exact ⟨e2,e3⟩
 ·rintro l h ⟨⟨x4,x5,x6,x7,x8,rfl⟩,_⟩
  walk_at "x0"
  exact rfl
noncomputable def depth:Nat:=13
theorem main (ns:List Int) (h:ns.length<=63):∃ mh',Af (GkN Tt depth) fuel f67 [.rol (ns.map D.int)] sl0=some (.bl true,mh'):=by
 obtain ⟨d,h',e,rfl⟩:=Abv ns h;exact ⟨h',e⟩
end Lw
open PySem PySem.W PyProof.Rows
namespace PySem.W.Fast
def tw14797198408429664765:Unit:=()
def tw2882792751666423793:Unit:=()
def tw7441150470068516766:Unit:=()
def tw8131393122206754655:Unit:=()
def tw9393668112092578217:Unit:=()
def tw3976245977997418214:Unit:=()
def tw18373563177689899995:Unit:=()
def tw12028742080655346166:Unit:=()
def tw18251364090108722948:Unit:=()
def tw5643521279548341118:Unit:=()
def tw18229510773780844706:Unit:=()
def tw13641572066663591749:Unit:=()
def tw13022550843509692722:Unit:=()
def tw14194280226526739536:Unit:=()
def tw6804230709443150399:Unit:=()
def tw2305263077015295806:Unit:=()
def tw15051871132656991974:Unit:=()
def tw4591253760259724283:Unit:=()
def tw9404738184431432021:Unit:=()
def tw1261932325092470444:Unit:=()
def tw8157028374662771479:Unit:=()
def tw6499963129102836332:Unit:=()
def tw11524246701870978322:Unit:=()
def tw8612209626461248886:Unit:=()
def tw5662327123110702940:Unit:=()
def tw560365282209683683:Unit:=()
def tw8366862211604372690:Unit:=()
def tw1519906637595878316:Unit:=()
def tw14717263519404017921:Unit:=()
def tw16863896784809030148:Unit:=()
def tw8821120656746450249:Unit:=()
def tw8476174258220452082:Unit:=()
def tw11850607411245058886:Unit:=()
def tw13212169754920439119:Unit:=()
def tw4019440300513197115:Unit:=()
def tw5256871058047474709:Unit:=()
def tw15369970308730969289:Unit:=()
def tw13948049290829267685:Unit:=()
def tw4277824957460529874:Unit:=()
def tw4618514394623177124:Unit:=()
def tw14961259134232055578:Unit:=()
def tw5578782577445423233:Unit:=()
def tw15123368858717790057:Unit:=()
def tw18281815405917608313:Unit:=()
def tw17273731247768395476:Unit:=()
def tw12751623273122381025:Unit:=()
def tw13559244388048639176:Unit:=()
def tw16263125911576361:Unit:=()
def tw13163827625184055180:Unit:=()
def tw16000567330101383860:Unit:=()
def tw14387158028537327886:Unit:=()
def tw6601422385010239690:Unit:=()
def tw8056511735421894693:Unit:=()
def tw14038059390031200383:Unit:=()
def tw10850311688021757261:Unit:=()
def tw13675665543071876041:Unit:=()
def tw1102975860053742657:Unit:=()
def tw4126492689757855511:Unit:=()
def tw12179546623837808321:Unit:=()
def tw4837264690584109835:Unit:=()
def tw2091839427954762327:Unit:=()
def tw2688071958946957814:Unit:=()
def tw10635108880172547613:Unit:=()
def tw13767337844768133220:Unit:=()
def tw2562952095893343368:Unit:=()
def tw13477766545240969077:Unit:=()
def tw12921631354199271332:Unit:=()
def tw14511827527627268790:Unit:=()
def tw1748577149658726209:Unit:=()
def tw7464775770694861106:Unit:=()
def tw1134974788136995993:Unit:=()
def tw5842509039523262980:Unit:=()
def tw7540549088035758499:Unit:=()
def tw7964685118175963155:Unit:=()
def tw13360014473237387927:Unit:=()
def tw6888578539075272577:Unit:=()
def tw11932008384931298154:Unit:=()
def tw2646208640818546502:Unit:=()
def tw7998012756273144168:Unit:=()
def tw11046111733452983448:Unit:=()
def tw6090979553458704540:Unit:=()
def tw15173544786208575565:Unit:=()
def tw7232970821251620832:Unit:=()
def tw9351441105379304200:Unit:=()
def tw11949034566259702311:Unit:=()
def tw7375629301437182667:Unit:=()
def tw13029028956162760667:Unit:=()
def tw3967201946321493044:Unit:=()
def tw6789511218552416666:Unit:=()
def tw3039247541175596951:Unit:=()
def tw8050086259870229343:Unit:=()
def tw11086103010290978730:Unit:=()
def tw12625931310187589971:Unit:=()
def tw1459153666666445764:Unit:=()
def tw14576862002893755562:Unit:=()
def tw11273671896064963721:Unit:=()
def tw8381018743085610123:Unit:=()
def tw15800304600839891161:Unit:=()
def tw13617222407124941015:Unit:=()
def tw12745580182361938733:Unit:=()
def tw1590065495338390306:Unit:=()
def tw16595431924489439393:Unit:=()
def tw6281853587539406278:Unit:=()
def tw17918897420028128228:Unit:=()
def tw17049646968253170831:Unit:=()
def tw2213019643964253414:Unit:=()
def tw5283130789570958640:Unit:=()
def tw9912306666019919678:Unit:=()
def tw16488483977567353073:Unit:=()
def tw12533483745734099037:Unit:=()
def tw14754641199936712058:Unit:=()
def tw7878920847662749344:Unit:=()
def tw2108427745305451678:Unit:=()
def tw16463922517822851677:Unit:=()
def tw11013348870280208364:Unit:=()
def tw14428904807027375005:Unit:=()
def tw5460266271820585719:Unit:=()
def tw161496723751332856:Unit:=()
def tw7098592151060829990:Unit:=()
def tw18117356181860038501:Unit:=()
def tw11920147161691230449:Unit:=()
def tw4204691667138515150:Unit:=()
def tw17340780389372199496:Unit:=()
def tw17908478799280098239:Unit:=()
def tw3942432713747208264:Unit:=()
def tw13830160180158188715:Unit:=()
def tw6561128640359625686:Unit:=()
def tw16329520361031919516:Unit:=()
def tw17505092725686496727:Unit:=()
def tw8451336481488804820:Unit:=()
def tw1967584159767527317:Unit:=()
def tw1353607460938323157:Unit:=()
def tw8395715272524963930:Unit:=()
def tw3413751623002935673:Unit:=()
def tw16325629752193056964:Unit:=()
def tw12652165909635509504:Unit:=()
def tw14681139085568455418:Unit:=()
def tw1594408754295684181:Unit:=()
def tw3058388413516182591:Unit:=()
def tw6308241474363042339:Unit:=()
def tw4788556691061564416:Unit:=()
def tw266276212443024782:Unit:=()
def tw2283516242767510284:Unit:=()
def tw10526544662493676409:Unit:=()
def tw2809542735345449673:Unit:=()
def tw3671911177752417397:Unit:=()
def tw2328960595423896428:Unit:=()
def tw9745762106468244627:Unit:=()
def tw8890293037503289375:Unit:=()
def tw5623265622269072188:Unit:=()
def tw537252453452649526:Unit:=()
def tw5002833276024546075:Unit:=()
def tw18245992766819728530:Unit:=()
def tw16366247325989183245:Unit:=()
def tw1563088730221354995:Unit:=()
def tw15387525107916591385:Unit:=()
def tw15296309831867459746:Unit:=()
def tw14282360012857283559:Unit:=()
def tw9480178444889064:Unit:=()
def tw8462962850810318088:Unit:=()
def tw6963335405201945413:Unit:=()
def tw5966106196007810870:Unit:=()
def tw5355690667377045412:Unit:=()
def tw5124193427667706531:Unit:=()
def tw4237128223688759845:Unit:=()
def tw4050796643344257084:Unit:=()
def tw2896497535788750386:Unit:=()
def tw2665918698560562162:Unit:=()
def tw2255466740246467393:Unit:=()
def tw2193655032022366947:Unit:=()
def tw1858921921042546033:Unit:=()
def tw18386195972165367284:Unit:=()
def tw1826557938355943275:Unit:=()
def tw18185898817531711749:Unit:=()
def tw17777730270309962081:Unit:=()
def tw17283590245719677060:Unit:=()
def tw16499175016961719127:Unit:=()
def tw16109595251493580438:Unit:=()
def tw14995101744493059299:Unit:=()
def tw12510789760958970538:Unit:=()
def tw11380357388229468882:Unit:=()
def tw10176714224318246117:Unit:=()
def tw4156460456680243492:Unit:=()
def tw5085761529469902361:Unit:=()
def tw4460058586375684696:Unit:=()
def tw13930123931621575089:Unit:=()
def tw15877742000473172618:Unit:=()
def tw14496442271071098593:Unit:=()
def tw12191069253565611321:Unit:=()
def tw10088724083205751243:Unit:=()
def tw11239930137461988231:Unit:=()
def tw856445518477141911:Unit:=()
def tw15204681973610085626:Unit:=()
def tw16648932413007523583:Unit:=()
def tw18361262410249787894:Unit:=()
def tw12971625656709613076:Unit:=()
def tw8555146315509932540:Unit:=()
def tw8550254615784035771:Unit:=()
def tw3881463132465479906:Unit:=()
def tw3452236986475823139:Unit:=()
def tw11350595475453402422:Unit:=()
def tw16550984839204570600:Unit:=()
end PySem.W.Fast
set_option maxRecDepth 100000 in
set_option maxHeartbeats 0 in
theorem PySem.Challenge.cw_letterall_k49_patterns_told_holds : PySem.Challenge.rw_letterall_k49_patterns_told.Holds := by
 w_on; o_law; z_head; (case hw => w_witness2)
 k_fill
 refine DL.gU (λ_ => by kernel_rfl) (DL.Ads (l := PySem.Challenge.rw_letterall_k49_patterns_told) (Tt := Lw.Tt) (I := Lw.f67) (x := "_law_script") Lw.depth Lw.sl0 rfl rfl (λw h Y => Y) ⟨rfl, by decide, by decide⟩ (by kernel_rfl) (by decide +kernel) ?T Lw.main)
 case T =>
  intro w mg h KX G;refine' Lw.tbN KX G ?qla0 ?qll0 ?qlx0 ?qlc0 ?qlv0 ?qlp0 ?qlh0 ?qla1 ?qll1 ?qlx1 ?qlc1 ?qlv1 ?qlp1 ?qlh1 ?qla2 ?qll2 ?qlx2 ?qlc2 ?qlv2 ?qlp2 ?qlh2 ?qla3 ?qll3 ?qlx3 ?qlc3 ?qlv3 ?qlp3 ?qlh3 ?qlb ?qlm ?ql6 ?ql7 ?qnd ?rf ?rb ?rc
  (case qla0 | qll0 => k_is)
  (case qlx0 => exact rfl)
  (case qlc0 => k_is)
  (case qlv0 => exact rfl)
  (case qlp0 => k_is)
  (case qlh0 => (first | kernel_rfl | k_is))
  (case qla1 | qll1 => k_is)
  (case qlx1 => exact rfl)
  (case qlc1 => k_is)
  (case qlv1 => exact rfl)
  (case qlp1 => k_is)
  (case qlh1 => (first | kernel_rfl | k_is))
  (case qla2 | qll2 => k_is)
  (case qlx2 => exact rfl)
  (case qlc2 => k_is)
  (case qlv2 => exact rfl)
  (case qlp2 => k_is)
  (case qlh2 => (first | kernel_rfl | k_is))
  (case qla3 | qll3 => k_is)
  (case qlx3 => exact rfl)
  (case qlc3 => k_is)
  (case qlv3 => exact rfl)
  (case qlp3 => k_is)
  (case qlh3 => (first | kernel_rfl | k_is))
  (case qlb | qlm => k_is)
  (case ql6 => decide)
  (case ql7 => decide)
  (case qnd => decide)
  (case rf => (repeat (apply DL.gW; (focus k_is); (focus k_is); (focus k_is); (focus k_is); (focus rfl))); exact trivial)
  (case rb => (repeat (apply DL.gZ; (focus k_is))); exact trivial)
  (case rc => (repeat (apply DL.gY; (focus k_is); (focus kernel_rfl))); exact trivial)
#print axioms PySem.Challenge.cw_letterall_k49_patterns_told_holds
