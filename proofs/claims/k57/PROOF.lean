import PyProof.Rows.All
import Wide.All
import OpenK.AllK
import Wide.FinOn
import Lean
import PyProof.EqAt
import PyProof.EqKinds
import PyProof.TupleCall
import KE.BitLaws
import PySem.Challenge.RW_letterall_k57_counting_on
open PySem.W renaming Frag→aj, nsIn→dg, keepIn→iw, tabObj→jb, findIn→kh, cellsFrom_some→mj, emptyDict→ni, instObj→qy, plainGet→uc, callWith_K→um, kia_one→ux, hasDictIn→vg, codeIn→vy, fnOf→wj, codeHdIn→wu, mg_of→yc, plainOver→yg, kla_fn→yh, codeHd_of_K→yx, makesIn→zc, isFn→zu, plainGet_of→GD, callWith_K0→GF, lookIn→GJ, codeRec_of→GX, kla_makeFunctionHit→HJ, methodObj→IW, specialIn→JD, kla_makeFunction→KY, takerIn→MJ, alongIn→MP, fnX→NP, methodCall_KW→PJ, kla_callFunE→QL, kla_codeExpr→QM, ownIn→QW, clsIn→QX, pyHash_slot→QZ, envX→UJ, kitx_list→VH
open PySem renaming wpAny_bind→ak, wpAny_pure→bf, mem_of_lookup→gm, sizeLine_eq→ji, wpAny_callSpecial?_slot→jt, wpAny_field→jx, wpAny_newObj_type→jy, wpAny_Call_Name_kw→lq, Spec→lu, wpAny_truthy_bool→mq, wpAny_mono→nq, wpAny_call_entry→qb, wpAny_seqItems→qg, wpAny_holding→sy, wpAny_setField_rec→uq, wpAny_passesOwn→uw, wpAny_newFunctionEnv_cells→uy, call_meets→vq, strKind→xu, wpAny_pyIter_tuple→yd, wpAny_specialOf→zb, wpAny_loadPart'→zf, wpAny_binaryOp_repeat_ref→zm, wpAny_typeOf→zy, wpAny_isInstance→CT, wpAny_execs_cons→CV, typeIs_int→CZ, codeAny_call_function→DP, wpAny_rule→EY, pushCells_keeps→FN, codeAny_builtin→FQ, wpAny_updateSeq_pair→FT, wpAny_ite_split→GC, wpAny_letGo→GQ, wpAny_setItem_heap→GZ, wpAny_standAt→HW, wpAny_onRaise→IK, eqIsQuiet_byValue→IV, wpAny_pyIter_list→JB, wpAny_pyHash_str→JM, beq_builtin_none→JN, codeAny_mono→JP, noFill_tuple_add→JS, wpAny_comprehension_free→JT, call_meetsIn→KH, wpAny_execs_nil→MF, wpAny_mkInt→MT, wpAny_Call_method_late→NK, builtinLookup_eq_fast→PX, TriplesOk_snoc→QD, seq_tuple_add→QR, wpAny_in_heap→QS, wpAny_attempt→QV, call_enumerate_list→RN, Within→RT, codeAny_func→SJ, concat_meets→SN, seqIndex_neg→TF, tupleKind_room_in1→TQ, callType_new→TY, wpAny_sequenceKey→VD, wpAny_pyIter_enum→VJ, seqIndex_of→VR, wpAny_Name→WD, wpAny_load→WK, typeIs_int→WM, strKind_is→WN
open PySem.Heap renaming get?_push_of_some→ao, get?_push_size→bh, size_push→ir, SameBut→vz, get?_update_other→CN, get?_update_self→DQ, get?_push_ne→VN
open Bool renaming and_eq_true→aq, false_ne_true→iu, not_eq_true'→ql, false_eq_true→uh, true_and→yt, or_eq_true→zp, or_eq_false_iff→FZ, and_true→HN, or_false→HY, and_self→QT
open List renaming replicate→au, size_toArray→cg, mem_cons_of_mem→cu, getElem?_eq_some_iff→dh, length_append→dj, map_cons→dm, mem_cons_self→dw, length_cons→fj, length_map→fu, getElem?_map→gb, getElem?_append_left→gh, mem_append_right→gk, mem_cons→gn, getElem?_eq_getElem→gq, range→gw, getElem?_append_right→ig, mem_of_getElem?→iy, lookup_cons→iz, mem_map→jc, getElem?_set_ne→jk, nodup_cons→jn, replicate_succ→jq, mem_append→ju, mem_singleton→jw, length_singleton→kj, find?_cons→lg, append_nil→oh, map_append→pq, lookup→qe, length_range→qp, length_set→qu, of_mem_zip→qz, flatten_cons→rm, append_assoc→su, nodup_append→vh, getElem?_inj→vm, prefix_refl→wk, countP_cons→wz, getElem?_replicate→xq, all_cons→xr, getElem?_set_self→ye, length_take→yp, any_cons→yr, filterMap_cons→yu, forIn_cons→za, zipWith→BK, foldl→BR, reverse_cons→BZ, getElem?_set→CG, all_eq_true→DK, length_replicate→DN, getElem?_eq_none→DR, contains_iff_mem→DX, mem_append_left→DY, length_nil→FJ, forIn_nil→GK, getElem?_zip_eq_some→JL, getElem?_take_of_lt→JQ, isEmpty_iff→KD, pairwise_singleton→KZ, getElem?_cons_succ→LC, nil_append→MK, zip_append→MN, getElem_of_mem→RG, getElem?_range→RJ, mem_filterMap→RV, map_nil→SX, zip_cons_cons→UG, take_sublist→VB
open LawfulBEq renaming eq_of_beq→bw
open Nat renaming le_refl→bx, ne_of_lt→cj, lt_of_lt_of_le→di, le_trans→jg, lt_succ_self→jh, lt_irrefl→jj, ne_of_gt→jo, lt_succ_of_lt→jz, le_succ→qw, zero_le→qx, add_sub_cancel→ur, le_of_lt→zq, lt_add_of_pos_right→BW, le_add_right→CW, lt_of_le_of_lt→HF, zero_add→JV, add_lt_add_left→RP, le_succ_of_le→VG
open PySem.Builtin.SmallTypes renaming nextOf→jd, ownedTupleIsFree→qi, ownedTupleHandOut→BL
open PySem.PyData renaming eqvAll→je, eqv→jf, strOk→jl, canLayAll0→qm, depthAll→qt, canLay0→ud, str→FP
open PySem.Obj renaming mapSeq→lz, data_mapFields→TV
open Option renaming map_some→ou, isSome_iff_exists→wg, map_eq_some_iff→NZ, none→PB, isSome_some→TJ, isSome_map→VF
open PySem.Builtin.Tuple renaming tupleExact→qd, tupleTooMany→xg, tupleItemsOf→yq, tupleHashOf→JF
open PySem.F renaming plainAttrs_list→qj, slot_tuple_iterator_next→vf, slot_int_rmul→yj, slot_dict_get→yo, args_tuple_add_2→zx, plainAttrs_tuple→BP, entry_tuple_add→BV, slot_list_count→BX, slot_tuple_add→CK, entry_dict_get→CQ, slot_zip_next→FW, args_tuple_iterator_next_1→GP, entry_tuple_iterator_next→HB, args_list_count_2→JG, slot_tuple_count→JW, entry_list_count→JX, args_tuple_mul_2→KC, slot_tuple_index→KQ, type_tuple_index→KR, args_int_rmul_2→LK, entry_tuple_mul→LQ, args_dict_get_2→LR, entry_int_rmul→NQ, slot_tuple_mul→NT, slot_enumerate_next→PK, fills_int_mul→PL, slot_list_pop→QB, type_list_pop→QC, args_object_init_2→QH, slot_NoneType_hash→QK, plain_list_iadd→VL, args_zip_next_1→VP
open PySem.Builtin.Range renaming rangeSize→tu, small→yw
open PyProof.Rows renaming subscriptTail_builtinR→ug, assignInOrder_cons→GR, entry_tuple_getitem→RB, args_tuple_getitem→SQ, assignInOrder_nil→UL, boot_range→WL
open PySem.Builtin.List renaming listExtendWith→uo, listTooLong→BJ, listLengthHint→HD, listSameRef→KJ, listItems→OD
open PySem.Builtin.Slice renaming slicePlaces→vo, sliceAdjust→zj, sliceApplied→HX
open Array renaming length_toList→xj, getElem?_eq_getElem→JK, forIn_toList→RQ, find?_toList→RW
open Int renaming toNat_natCast→CJ, fmod_nonneg_of_pos→OJ
open PySem.Calls renaming callWith_builtin→CP, Name_function_global→HS, call_function_entry→JH, evalArgs_plain→QG, spliced_cons→RZ, spliced_nil→UW
open Option.some renaming injEq→JC
open PySem.SeqAt renaming list_countAt→JZ
open PySem.Around renaming frames_deeper→QF, under_plainId→QJ, under→RX
open PySem.Heap.SameBut renaming update→RM
set_option bootstrap.genMatcherCode false
set_option compiler.extract_closed false
noncomputable section
set_option Elab.async false
set_option linter.all false
set_option maxRecDepth 100000
set_option maxHeartbeats 8000000
namespace L2
open PySem PySem.Spec PyProof.Rows
noncomputable def isB:PyData->Bool
 | .bool _=>true
 | _=>false
noncomputable def isI:PyData->Bool
 | .int _=>true
 | _=>false
noncomputable def isT:PyData->Bool
 | .tuple _=>true
 | _=>false
noncomputable def kSh:List PyData->Bool
 | [a,b]=>!isB a&&(if isT a then !isI b else !isB b)
 | [a,b,c,d,e]=>!isB a&&(!isB b&&(!isB c&&(!isB d&&!isI e)))
 | xs=>xs.all λx=>!isB x
mutual
noncomputable def kCl:PyData->Bool
 | .int _=>true
 | .str _=>true
 | .bool _=>true
 | .tuple xs=>kSh xs&&Di xs
 | _=>false
noncomputable def Di:List PyData->Bool
 | []=>true
 | x::r=>kCl x&&Di r
end
theorem Dq {xs:List PyData}(h:kCl (.tuple xs)=true):kSh xs=true/\Di xs=true:=by
 rw [kCl,aq] at h;exact h
mutual
noncomputable def Ml (w:World):PyData->Int
 | .int i=>hashInt i
 | .str x=>hashStr w x
 | .bool b=>reduceHash (if b then 1 else 0)
 | .tuple xs=>reduceHash (JF (Ke w xs))
 | _=>0
noncomputable def Ke (w:World):List PyData->List Int
 | []=>[]
 | x::r=>Ml w x::Ke w r
end
mutual
noncomputable def kDr:PyData->Nat
 | .tuple xs=>fJ xs+1
 | _=>1
noncomputable def fJ:List PyData->Nat
 | []=>0
 | x::r=>kDr x+fJ r
end
section
variable {prog:Program}{w:World}{E:Value->Shared->Prop}
mutual
theorem Yw:∀ (k:PyData) (v:Value) (as:List Addr) (A:Around) (s:Shared) (Q:Int->Shared->Prop),kCl k=true->Reads s.heap v k as->A.units+k.depth < cLine->Q (Ml w k) { s with toks:=s.toks+kDr k }->wpAny (model prog w) A (pyHash v) Q E s
 | .int i,_,_,A,s,Q,_,r,_,h=>by cases r;exact wpAny_pyHash_int (by simpa [Ml,kDr] using h)
 | .str x,_,_,A,s,Q,_,r,_,h=>by cases r;exact JM (by simpa [Ml,kDr] using h)
 | .bool b,_,_,A,s,Q,_,r,hu,h=>by
  cases r
  refine QZ (T := "bool") rfl F.slot_bool_hash entry_int_hash (args_int_hash _) (JN _) (.inr (by omega)) ?_;cases b
  ·exact (show wpAny _ _ (do ret (← mkInt 0)) _ _ s from ak (MT (bf ⟨_,_,rfl,by simpa [Ml,kDr] using h⟩)))
  ·exact (show wpAny _ _ (do ret (← mkInt 1)) _ _ s from ak (MT (bf ⟨_,_,rfl,by simpa [Ml,kDr] using h⟩)))
 | .tuple xs,_,as,A,s,Q,hk,r,hu,h=>by
  cases r with
  | @tuple a o vs n _ _ e c d ra =>
   have hk:Di xs=true:=(Dq hk).2;simp only [PyData.depth] at hu
   refine QZ (T := "tuple") ⟨_,e,c⟩ F.slot_tuple_hash F.entry_tuple_hash (F.args_tuple_hash_1 _) (JN _) (.inr (by omega)) ?_;show wpAny _ _ (yq (.ref a) >>= _) _ _ s;refine ak (wpAny_tupleItemsOf e d ?_);refine ak ?_;rw [← RQ];refine Yx xs vs.toList as A.in1 s #[] _ hk ra (by simp only [Around.in1_units];omega) λb hb=>?_
   show wpAny _ _ (retInt (JF b.toList)) _ _ _;rw [hb];refine ak (MT (bf ⟨_,_,rfl,?_⟩))
   simpa [Ml,kDr,Nat.add_assoc] using h
 | .none,_,_,_,_,_,hk,_,_,_ | .list _,_,_,_,_,_,hk,_,_,_ | .dict _,_,_,_,_,_,hk,_,_,_=>by simp [kCl] at hk
theorem Yx:∀ (xs:List PyData) (vs:List Value) (as:List Addr) (A:Around) (s:Shared) (b:Array Int) (Q:Array Int->Shared->Prop),Di xs=true->ReadsAll s.heap vs xs as->A.units+qt xs < cLine ->
  (∀ b':Array Int,b'.toList=b.toList++Ke w xs->Q b' { s with toks:=s.toks+fJ xs }) ->
  wpAny (model prog w) A (forIn vs b λx r=>do let h ← pyHash x;pure PUnit.unit;pure (ForInStep.yield (r.push h))) Q E s
 | [],_,_,A,s,b,Q,_,r,_,h=>by cases r;exact bf (by simpa [fJ] using h b (by simp [Ke]))
 | x::xs,_,_,A,s,b,Q,hk,r,hu,h=>by
  cases r with
  | @cons v vs _ _ as bs r1 r2 =>
   have hk:(kCl x&&Di xs)=true:=by simpa [Di] using hk
   rw [aq] at hk;simp only [qt] at hu;rw [za];refine ak (ak (Yw x _ _ A s _ hk.1 r1 (by omega) ?_));refine ak (bf (bf ?_));refine Yx xs vs bs A { s with toks:=s.toks+kDr x } _ Q hk.2 r2 (by omega) λb' hb=>?_
   have:=h b' (by rw [hb];simp [Ke])
   simpa [fJ,Nat.add_assoc] using this
end
end
mutual
theorem fK {h:Heap}:∀ (x y:PyData) (v:Value) (as bs:List Addr),kCl x=true->kCl y=true->Reads h v x as->Reads h v y bs->x=y
 | .int _,_,_,_,_,_,_,r,q=>by cases r;cases q;rfl
 | .str _,_,_,_,_,_,_,r,q=>by cases r;cases q;rfl
 | .bool _,_,_,_,_,_,_,r,q=>by cases r;cases q;rfl
 | .tuple xs,y,_,_,_,c1,c2,r,q=>by
  cases r with
  | @tuple a o vs n _ as e c d ra =>
   cases q with
   | @tuple _ _ _ _ ys _ e' c' d' ra' =>
    rw [e] at e';cases e';rw [d] at d';cases d';rw [Yy xs ys _ _ _ (Dq c1).2 (Dq c2).2 ra ra']
   | list e' c' d' ra'=>rw [e] at e';cases e';rw [c] at c';exact absurd c' (by decide)
   | dict e' c' d' ra' rb'=>rw [e] at e';cases e';rw [c] at c';exact absurd c' (by decide)
 | .none,_,_,_,_,hk,_,_,_ | .list _,_,_,_,_,hk,_,_,_ | .dict _,_,_,_,_,hk,_,_,_=>by simp [kCl] at hk
theorem Yy {h:Heap}:∀ (xs ys:List PyData) (vs:List Value) (as bs:List Addr),Di xs=true->Di ys=true->ReadsAll h vs xs as->ReadsAll h vs ys bs->xs=ys
 | [],_,_,_,_,_,_,r,q=>by cases r;cases q;rfl
 | x::xs,_,_,_,_,c1,c2,r,q=>by
  cases r with
  | cons r1 r2=>cases q with
   | @cons _ _ y ys _ _ q1 q2 =>
    have c1:(kCl x&&Di xs)=true:=by simpa [Di] using c1
    have c2:(kCl y&&Di ys)=true:=by simpa [Di] using c2
    rw [aq] at c1 c2;rw [fK x y _ _ _ c1.1 c2.1 r1 q1,Yy xs ys _ _ _ c1.2 c2.2 r2 q2]
end
mutual
theorem Uo {h h':Heap}{d:Addr}{o:Obj}{es ep}(hd:h.get? d=some o) (od:o.data=.dict es ep) (sb:vz d h h'):∀ (x:PyData) (v:Value) (as:List Addr),kCl x=true->Reads h v x as->Reads h' v x as
 | .int _,_,_,_,r=>by cases r;exact .int _ _
 | .str _,_,_,_,r=>by cases r;exact .str _ _
 | .bool _,_,_,_,r=>by cases r;exact .bool _
 | .tuple xs,_,_,c1,r=>by
  cases r with
  | @tuple a o' vs n _ as e c q ra =>
   have ne:a≠d:=λz=>by
    rw [z,hd] at e;cases e;rw [od] at q;cases q
   exact .tuple ((sb.2 a ne).trans e) c q (Qn hd od sb xs _ _ (Dq c1).2 ra)
 | .none,_,_,hk,_ | .list _,_,_,hk,_ | .dict _,_,_,hk,_=>by simp [kCl] at hk
theorem Qn {h h':Heap}{d:Addr}{o:Obj}{es ep}(hd:h.get? d=some o) (od:o.data=.dict es ep) (sb:vz d h h'):∀ (xs:List PyData) (vs:List Value) (as:List Addr),Di xs=true->ReadsAll h vs xs as->ReadsAll h' vs xs as
 | [],_,_,_,r=>by cases r;exact .nil
 | x::xs,_,_,c1,r=>by
  have c1:(kCl x&&Di xs)=true:=by simpa [Di] using c1
  rw [aq] at c1;cases r with
  | cons r1 r2=>exact .cons (Uo hd od sb x _ _ c1.1 r1) (Qn hd od sb xs _ _ c1.2 r2)
end
theorem Ae9:∀ {x y:PyData},jf x y=true->isT x=isT y:=λ{x y} h=>by
 cases x <;> cases y <;> first | rfl | (simp [jf] at h;done)
theorem Ac3:∀ {x y:PyData},jf x y=true->isI x=false->isI y=false->isB x=isB y:=λ{x y} h h1 h2=>by
 cases x <;> cases y <;> first | rfl | (cases h1;done) | (cases h2;done) | (simp [jf] at h;done)
theorem Ob:∀ (xs ys:List PyData),je xs ys=true->xs.all (λx=>!isB x)=true->ys.all (λx=>!isB x)=true->xs.map isB=ys.map isB
 | [],[],_,_,_=>rfl
 | [],_::_,e,_,_=>by simp [je] at e
 | _::_,[],e,_,_=>by simp [je] at e
 | x::xs,y::ys,e,h1,h2=>by
  have e:(jf x y&&je xs ys)=true:=by simpa [je] using e
  rw [aq] at e;rw [xr,aq,ql] at h1 h2;rw [dm,dm,h1.1,h2.1,Ob xs ys e.2 h1.2 h2.2]
theorem fL:∀ (xs ys:List PyData),je xs ys=true->xs.length=ys.length
 | [],[],_=>rfl
 | [],_::_,e=>by simp [je] at e
 | _::_,[],e=>by simp [je] at e
 | x::xs,y::ys,e=>by
  have e:(jf x y&&je xs ys)=true:=by simpa [je] using e
  rw [aq] at e;rw [fj,fj,fL xs ys e.2]
theorem Ac4 (xs ys:List PyData) (e:je xs ys=true) (h1:kSh xs=true) (h2:kSh ys=true):xs.map isB=ys.map isB:=by
 have l:=fL xs ys e
 match xs,ys,l with
 | [],[],_=>rfl
 | [_],[_],_=>exact Ob _ _ e h1 h2
 | [_,_,_],[_,_,_],_=>exact Ob _ _ e h1 h2
 | [_,_,_,_],[_,_,_,_],_=>exact Ob _ _ e h1 h2
 | _::_::_::_::_::_::_,_::_::_::_::_::_::_,_=>exact Ob _ _ e h1 h2
 | [a,b],[c,d],_ =>
  simp only [je,HN,aq] at e;simp only [kSh,aq,ql] at h1 h2;obtain ⟨e1,e2⟩:=e;obtain ⟨a1,a2⟩:=h1;obtain ⟨b1,b2⟩:=h2;rw [← Ae9 e1] at b2;have:isB b=isB d:=by
   split at a2
   ·rename_i hc;rw [if_pos hc] at b2;exact Ac3 e2 (by simpa using a2) (by simpa using b2)
   ·rename_i hc;rw [if_neg hc] at b2;rw [(by simpa using a2:isB b=false),(by simpa using b2:isB d=false)]
  simp [a1,b1,this]
 | [a,b,c,d,f],[a',b',c',d',f'],_ =>
  simp only [je,HN,aq] at e;simp only [kSh,aq,ql] at h1 h2;obtain ⟨_,_,_,_,e5⟩:=e;obtain ⟨a1,a2,a3,a4,a5⟩:=h1;obtain ⟨b1,b2,b3,b4,b5⟩:=h2;simp [a1,a2,a3,a4,b1,b2,b3,b4,Ac3 e5 a5 b5]
mutual
theorem fM:∀ (x y:PyData),kCl x=true->kCl y=true->isB x=isB y->jf x y=true->x=y
 | .int _,y,_,c2,b,e=>by
  cases y <;> first | (simp [kCl] at c2;done) | (cases b;done) | (simp [jf] at e;done) | (simp [jf] at e;rw [e])
 | .str _,y,_,c2,b,e=>by
  cases y <;> first | (simp [kCl] at c2;done) | (cases b;done) | (simp [jf] at e;done) | (simp [jf] at e;rw [e])
 | .bool _,y,_,c2,b,e=>by
  cases y <;> first | (simp [kCl] at c2;done) | (cases b;done) | (simp [jf] at e;done) | (simp [jf] at e;rw [e])
 | .tuple xs,.tuple ys,c1,c2,_,e=>by
  have e:je xs ys=true:=by simpa [jf] using e
  rw [Yz xs ys (Dq c1).2 (Dq c2).2 (Ac4 xs ys e (Dq c1).1 (Dq c2).1) e]
 | .tuple xs,.int _,_,_,_,e=>by simp [jf] at e
 | .tuple xs,.str _,_,_,_,e=>by simp [jf] at e
 | .tuple xs,.bool _,_,_,b,_=>by cases b
 | .tuple xs,.none,_,c2,_,_ | .tuple xs,.list _,_,c2,_,_ | .tuple xs,.dict _,_,c2,_,_=>by simp [kCl] at c2
 | .none,_,hk,_,_,_ | .list _,_,hk,_,_,_ | .dict _,_,hk,_,_,_=>by simp [kCl] at hk
theorem Yz:∀ (xs ys:List PyData),Di xs=true->Di ys=true->xs.map isB=ys.map isB->je xs ys=true->xs=ys
 | [],[],_,_,_,_=>rfl
 | [],_::_,_,_,_,e=>by simp [je] at e
 | _::_,[],_,_,_,e=>by simp [je] at e
 | x::xs,y::ys,c1,c2,b,e=>by
  have c1:(kCl x&&Di xs)=true:=by simpa [Di] using c1
  have c2:(kCl y&&Di ys)=true:=by simpa [Di] using c2
  have e:(jf x y&&je xs ys)=true:=by simpa [je] using e
  rw [aq] at c1 c2 e;rw [dm,dm] at b;injection b with b1 b2
  rw [fM x y c1.1 c2.1 b1 e.1,Yz xs ys c1.2 c2.2 b2 e.2]
end
section
variable {prog:Program}{w:World}{E:Value->Shared->Prop}{A:Around}
mutual
theorem Uq:∀ (x:PyData) (n:Nat) (v:Value) (as:List Addr) (s:Shared) (Q:Bool->Shared->Prop),kCl x=true->Reads s.heap v x as->x.depth<=n->Q true s->wpAny (model prog w) A (eqIsQuiet n v) Q E s
 | .int _,n,_,_,s,Q,_,r,_,h=>by cases r;rw [IV n rfl];exact bf h
 | .str _,n,_,_,s,Q,_,r,_,h=>by cases r;rw [IV n rfl];exact bf h
 | .bool _,n,_,_,s,Q,_,r,_,h=>by cases r;rw [IV n rfl];exact bf h
 | .tuple xs,0,_,_,s,Q,c1,r,hn,h=>by simp [PyData.depth] at hn
 | .tuple xs,n+1,_,as,s,Q,c1,r,hn,h=>by
  cases r with
  | @tuple a o vs m _ _ e c q ra =>
   have hT:s.TypeIs (.ref a) "tuple":=⟨o,e,c⟩
   have hn:qt xs<=n:=by simpa [PyData.depth] using hn
   unfold eqIsQuiet;refine ak (zb hT F.slot_tuple_eq.lookup ?_)
   show wpAny _ _ (isInstance (.ref a) (.type "tuple") >>= _) _ _ s;refine ak (CT hT isSubtype_tuple_tuple ?_);simp only [Bool.not_true,uh,if_false];refine ak (qg e q ?_);refine ak ?_;show wpAny _ _ (forIn vs _ _) _ _ s;rw [← RQ];refine Qo xs n vs.toList as s _ (Dq c1).2 ra hn ?_;exact bf h
 | .none,_,_,_,_,_,hk,_,_,_ | .list _,_,_,_,_,_,hk,_,_,_ | .dict _,_,_,_,_,_,hk,_,_,_=>by simp [kCl] at hk
theorem Qo:∀ (xs:List PyData) (n:Nat) (vs:List Value) (as:List Addr) (s:Shared) (Q:Option Bool×Unit->Shared->Prop),Di xs=true->ReadsAll s.heap vs xs as->qt xs<=n->Q (none,()) s ->
  wpAny (model prog w) A (forIn vs ((none,()):Option Bool×Unit) λy r=>do if !(← eqIsQuiet n y) then pure (ForInStep.done (some false,())) else pure (ForInStep.yield (none,()))) Q E s
 | [],_,_,_,s,Q,_,r,_,h=>by cases r;exact bf h
 | x::xs,n,_,_,s,Q,c1,r,hn,h=>by
  have c1:(kCl x&&Di xs)=true:=by simpa [Di] using c1
  rw [aq] at c1;simp only [qt] at hn;cases r with
  | @cons v vs _ _ as bs r1 r2 =>
   rw [za];refine ak (ak (Uq x n v _ s _ c1.1 r1 (by omega) ?_));simp only [Bool.not_true,uh,if_false];refine bf ?_;exact Qo xs n vs bs s Q c1.2 r2 (by omega) h
end
end
noncomputable instance:DecidableEq PyData:=λa b=>Classical.propDecidable (a=b)
noncomputable def IsK (h:Heap) (k:PyData) (a:Addr):Prop:=kCl k=true/\k.canLay0=true/\k.depth<=8/\∃ as,Reads h (.ref a) k as
noncomputable def Ib (prog:Program) (w:World):HeapKind prog w PyData where
 is:=IsK
 hash:=Ml w
 draws:=kDr
 room:=λA=>A.units+8 < cLine
 inj:=λx y=>by
  obtain ⟨c1,_,_,_,r1⟩:=x;obtain ⟨c2,_,_,_,r2⟩:=y;exact fK _ _ _ _ _ c1 c2 r1 r2
 keeps:=λx ho hd hs=>by
  obtain ⟨c1,l1,d1,as,r1⟩:=x;exact ⟨c1,l1,d1,as,Uo ho hd hs _ _ _ c1 r1⟩
 pyHash:=λhu x h=>by
  obtain ⟨c1,l1,d1,as,r1⟩:=x;exact Yw _ _ _ _ _ _ c1 r1 (by omega) h
 eqBool:=λ{A E s x y a b Q} hu hx hy h=>by
  obtain ⟨c1,l1,d1,as,r1⟩:=hx;obtain ⟨c2,l2,d2,bs,r2⟩:=hy;refine PySem.SeqAt.eqBoolOverData prog w A E s _ _ x y as bs Q r1 r2 l1 l2 (by omega) ?_;have e:jf x y=decide (x=y):=by
   by_cases z:x=y
   ·rw [decide_eq_true z,z];exact SeqAt.eqv_refl y l2
   ·rw [decide_eq_false z];cases q:jf x y with
    | false=>rfl
    | true=>exact absurd (fM x y c1 c2 (by cases r1 <;> cases r2 <;> rfl) q) z
  rw [e];exact h
 quiet:=λx h=>by
  obtain ⟨c1,l1,d1,as,r1⟩:=x;exact Uq _ _ _ _ _ _ c1 r1 d1 h
noncomputable abbrev Key:=Sum Int Str
noncomputable def Qp:Key->Value->Bool
 | .inl k,v=>Value.isInt k v
 | .inr x,v=>Value.isStrOf x v
noncomputable def Afa (w:World):Key->Int
 | .inl k=>hashInt k
 | .inr x=>hashStr w x
theorem Bl:∀ {k:Key}{v:Value},Qp k v=true->(∃ i t,k=Sum.inl i/\v=Value.int i t)\/(∃ x t,k=Sum.inr x/\v=Value.str x t)
 | .inl i,v,h=>by
  obtain ⟨t,e⟩:=Value.isInt_shape (k:=i) (v:=v) h;exact .inl ⟨i,t,rfl,e⟩
 | .inr x,v,h=>by
  obtain ⟨t,e⟩:=Value.isStrOf_shape (x:=x) (v:=v) h;exact .inr ⟨x,t,rfl,e⟩
theorem aZ (i:Int) (t:Tok):Qp (.inl i) (.int i t)=true:=by simp [Qp,Value.isInt]
theorem bA (x:Str) (t:Tok):Qp (.inr x) (.str x t)=true:=by simp [Qp,Value.isStrOf]
theorem yL (a b:Int):decide ((Sum.inl a:Key)=Sum.inl b)=(a==b):=by
 by_cases e:a=b
 ·subst e;simp
 ·have h:¬ (Sum.inl a:Key)=Sum.inl b:=λq=>e (Sum.inl.inj q)
  rw [decide_eq_false h];exact (beq_eq_false_iff_ne.mpr e).symm
theorem yM (a b:Str):decide ((Sum.inr a:Key)=Sum.inr b)=decide (a=b):=by
 by_cases e:a=b
 ·subst e;simp
 ·have h:¬ (Sum.inr a:Key)=Sum.inr b:=λq=>e (Sum.inr.inj q)
  rw [decide_eq_false h,decide_eq_false e]
theorem yN (a:Int) (b:Str):decide ((Sum.inl a:Key)=Sum.inr b)=false:=decide_eq_false (λq=>nomatch q)
theorem yO (a:Str) (b:Int):decide ((Sum.inr a:Key)=Sum.inl b)=false:=decide_eq_false (λq=>nomatch q)
noncomputable def Bs (prog:Program) (w:World):PySem.KeyKind prog w Key where
 is:=Qp
 hash:=Afa w
 inj:=λv a b ha hb=>by
  rcases Bl ha with ⟨i,t,rfl,rfl⟩|⟨x,t,rfl,rfl⟩
  ·rcases Bl hb with ⟨j,u,rfl,e⟩|⟨y,u,rfl,e⟩
   ·injection e with e1 _;rw [e1]
   ·exact nomatch e
  ·rcases Bl hb with ⟨j,u,rfl,e⟩|⟨y,u,rfl,e⟩
   ·exact nomatch e
   ·injection e with e1 _;rw [e1]
 byValue:=λk v h=>by
  rcases Bl h with ⟨i,t,rfl,rfl⟩ | ⟨x,t,rfl,rfl⟩ <;> rfl
 pyHash:=λhv h=>by
  rcases Bl hv with ⟨i,t,rfl,rfl⟩|⟨x,t,rfl,rfl⟩
  ·exact wpAny_pyHash_int h
  ·exact JM h
 eqBool:=λhu hv h=>by
  rcases Bl hu with ⟨i,t,rfl,rfl⟩|⟨x,t,rfl,rfl⟩
  ·rcases Bl hv with ⟨j,u,rfl,rfl⟩|⟨y,u,rfl,rfl⟩
   ·rw [yL] at h;exact wpAny_eqBool_int h
   ·rw [yN] at h;exact SeqAt.EqAt.int_str i t y u _ _ _ _ h
  ·rcases Bl hv with ⟨j,u,rfl,rfl⟩|⟨y,u,rfl,rfl⟩
   ·rw [yO] at h;exact SeqAt.EqAt.str_int x t j u _ _ _ _ h
   ·rw [yM] at h;exact wpAny_eqBool_str h
 «strs»:=λk x t v h=>by
  rcases Bl h with ⟨i,u,rfl,e⟩|⟨y,u,rfl,e⟩
  ·exact nomatch e
  ·injection e with e1 _
   subst e1;cases v <;> rfl
theorem Ur (prog:Program) (w:World) (i:Int) (t:Tok):(Bs prog w).is (.inl i) (.int i t)=true:=aZ i t
theorem Us (prog:Program) (w:World) (x:Str) (t:Tok):(Bs prog w).is (.inr x) (.str x t)=true:=bA x t
inductive V where
 | non | bl (b:Bool) | int (i:Int) | str (x:Str) | byt (b:Array UInt8) | flt (b:UInt64) | ref (a:Addr) | ty (n:String)
 deriving DecidableEq
noncomputable def RelV:V->Value->Prop
 | .non,u=>u=Value.none
 | .bl b,u=>u=Value.bool b
 | .int i,u=>∃ t,u=Value.int i t
 | .str x,u=>∃ t,u=Value.str x t
 | .byt b,u=>∃ t,u=Value.bytes b t
 | .flt b,u=>∃ t,u=Value.float b t
 | .ref a,u=>u=Value.ref a
 | .ty n,u=>u=Value.type n
noncomputable abbrev Vals:List V->List Value->Prop:=Paired RelV
theorem Vals.length {xs:List V}{us:List Value}(r:Vals xs us):xs.length=us.length:=Paired.length r
theorem Vals.get:∀ {xs:List V}{us:List Value}{i:Nat}{x:V},Vals xs us->xs[i]?=some x->∃ u,us[i]?=some u/\RelV x u
 | _,_,_,_,.nil,e=>by simp at e
 | _,_,0,_,.cons r _,e=>by simp at e;subst e;exact ⟨_,rfl,r⟩
 | _,_,i+1,x,.cons _ t,e=>by
  obtain ⟨u,h1,h2⟩:=Vals.get (i:=i) (x:=x) t (by simpa using e);exact ⟨u,by simpa using h1,h2⟩
theorem Vals.set {x:V}{u:Value}(r:RelV x u):∀ {xs:List V}{us:List Value}(i:Nat),Vals xs us->Vals (xs.set i x) (us.set i u)
 | _,_,_,.nil=>.nil
 | _,_,0,.cons _ t=>.cons r t
 | _,_,i+1,.cons q t=>.cons q (Vals.set r i t)
theorem Vals.append:∀ {xs ys:List V}{us ws:List Value},Vals xs us->Vals ys ws->Vals (xs++ys) (us++ws)
 | _,_,_,_,.nil,s=>s
 | _,_,_,_,.cons r t,s=>.cons r (Vals.append t s)
theorem Vals.take:∀ {xs:List V}{us:List Value}(n:Nat),Vals xs us->Vals (xs.take n) (us.take n)
 | _,_,0,_=>.nil
 | _,_,_+1,.nil=>.nil
 | _,_,n+1,.cons r t=>.cons r (Vals.take n t)
theorem Vals.drop:∀ {xs:List V}{us:List Value}(n:Nat),Vals xs us->Vals (xs.drop n) (us.drop n)
 | _,_,0,r=>r
 | _,_,_+1,.nil=>.nil
 | _,_,n+1,.cons _ t=>Vals.drop n t
noncomputable def Jv:Option V->Option Value->Prop
 | some v,some u=>RelV v u
 | none,none=>True
 | _,_=>False
noncomputable def KV {κ:Type}:List (κ×V)->List (κ×Value)->Prop:=Paired λ(p:κ×V) (q:κ×Value)=>p.1=q.1/\RelV p.2 q.2
noncomputable def kV:Key->V
 | .inl i=>.int i
 | .inr x=>.str x
inductive HO where
 | lst (xs:List V)
 | tup (xs:List V)
 | dK (kvs:List (Key×V)) | dT (kvs:List (List Key×V)) | dN (kvs:List (PyData×Addr×V))
 | set (S:Int->Bool) (n:Nat)
 | ins (C dx:Addr) (fs:List (Str×V))
 | own (x:Addr)
 | xd (fs:List (Str×V))
 | met (f x:Addr)
 | rng (lo hi:Int)
 | frz (o:Obj) (u:HO)
 | tbl (ps:Array Value)
 | ext (φ:Heap->Prop)
noncomputable abbrev Hp:=Addr->Option HO
noncomputable def upd (H:Hp) (a:Addr) (o:HO):Hp:=λb=>if b=a then some o else H b
theorem Ag {H:Hp}{a:Addr}{o:HO}:upd H a o a=some o:=by unfold upd;rw [if_pos rfl]
theorem Ad {H:Hp}{a b:Addr}{o:HO}(h:b≠a):upd H a o b=H b:=by unfold upd;rw [if_neg h]
theorem qO {H:Hp}{a:Addr}{o u:HO}:upd (upd H a o) a u=upd H a u:=by
 funext b;unfold upd;split <;> rfl
theorem Fw {H:Hp}{a b:Addr}{o u:HO}(h:H a=some o) (h':H b=some u) (d:o≠u):a≠b:=by
 intro e;subst e;rw [h] at h';exact d (Option.some.inj h')
theorem Ae {H:Hp}{a b:Addr}{o:HO}(h:H a=some o) (h':H b=none):a≠b:=by
 intro e;subst e;rw [h] at h';cases h'
section
variable (P:Program) (w:World)
noncomputable def K9 (h:Heap) (a:Addr) (its:Array Value):Prop:=∃ o,h.get? a=some o/\o.cls=.type "tuple"/\o.dict=none/\∃ n,o.data=.seq its n
theorem K9.to {h:Heap}{a:Addr}{its:Array Value}(x:K9 h a its):IsTup h a its:=let ⟨o,e,c,_,n,d⟩:=x;⟨o,e,c,n,d⟩
theorem K9.new (h:Heap) (its:Array Value):K9 (h.push { cls:=.type "tuple",data:=.seq its }) h.objs.size its:=⟨_,bh _ rfl,rfl,rfl,_,rfl⟩
noncomputable def Bx (H:Hp) (h:Heap) (a:Addr):HO->Prop
 | .lst xs=>xs.length<=sizeLine/\∃ (its:List Value) (n:Nat),Vals xs its/\h.get? a=some { cls:=.type "list",data:=.seq its.toArray n }
 | .tup xs=>xs.length<=sizeLine/\∃ its:List Value,Vals xs its/\K9 h a its.toArray
 | .dK kvs=>kvs.length<=sizeLine/\(a==sysModules)=false/\∃ vs,KV kvs vs/\h.DictOf (Bs P w) a vs
 | .dT kvs=>kvs.length<=sizeLine/\(a==sysModules)=false/\∃ xs:List (List Key×Addr×Value),
   Paired (λ(p:List Key×V) (q:List Key×Addr×Value)=>p.1=q.1/\H q.2.1=some (.tup (p.1.map kV))/\RelV p.2 q.2.2) kvs xs /\
   ∃ o es ep,h.get? a=some o/\o.ExactDict/\o.data=.dict es ep/\es.toList=xs.map (entryOfKey (tupleKind (Bs P w)))/\(xs.map (·.1)).Nodup
 | .dN kvs=>kvs.length<=sizeLine/\(a==sysModules)=false/\∃ xs:List (PyData×Addr×Value),
   Paired (λ(p:PyData×Addr×V) (q:PyData×Addr×Value)=>p.1=q.1/\p.2.1=q.2.1/\RelV p.2.2 q.2.2) kvs xs /\
   ∃ o es ep,h.get? a=some o/\o.ExactDict/\o.data=.dict es ep/\es.toList=xs.map (entryOfKey (Ib P w))/\(xs.map (·.1)).Nodup
 | .set S n=>h.SetOf (intKind P w) a S n
 | .ins C dx fs=>H dx=some (.own a)/\fs.length<=1000/\dx≠a/\h.get? a=some (qy C dx) /\
   ∃ mA,h.Ns1 dx mA/\(∀ f,Jv (fs.lookup f) (mA f))/\RT mA (fs.map (·.1))
 | .own _=>∃ o,h.get? a=some o
 | .xd fs=>∃ mA,h.Ns1 a mA/\∀ f,Jv (fs.lookup f) (mA f)
 | .rng lo hi=>∃ t u v,h.get? a=some { cls:=.type "range",data:=.fields #[.int lo t,.int hi u,.int 1 v] }
 | .frz o u=>h.get? a=some o/\Bx H h a u
 | .tbl ps=>h.get? a=some { cls:=.none,data:=.fields ps }
 | .met f x=>h.get? a=some (IW (.ref f) (.ref x))
 | .ext φ=>φ h/\(∃ o,h.get? a=some o)/\∀ h1 h2:Heap,φ h1->(∀ o,h1.get? a=some o->h2.get? a=some o)->φ h2
noncomputable def HOk (H:Hp) (h:Heap):Prop:=∀ a o,H a=some o->Bx P w H h a o
end
section
variable {P:Program}{w:World}{H H':Hp}{h h':Heap}{a:Addr}{o:HO}
theorem Bx.lt (x:Bx P w H h a o):a < h.objs.size:=by
 cases o with
 | lst xs=>obtain ⟨_,_,_,_,e⟩:=x;exact Heap.lt_size e
 | tup xs=>obtain ⟨_,_,_,p⟩:=x;exact p.to.lt
 | dK kvs=>obtain ⟨_,_,_,_,o,_,_,e,_⟩:=x;exact Heap.lt_size e
 | dT kvs=>obtain ⟨_,_,_,_,o,_,_,e,_⟩:=x;exact Heap.lt_size e
 | dN kvs=>obtain ⟨_,_,_,_,o,_,_,e,_⟩:=x;exact Heap.lt_size e
 | set S n=>obtain ⟨o,_,_,_,e,_⟩:=x;exact Heap.lt_size e
 | ins C dx fs=>obtain ⟨_,_,_,e,_⟩:=x;exact Heap.lt_size e
 | own y=>obtain ⟨_,e⟩:=x;exact Heap.lt_size e
 | xd fs=>obtain ⟨_,⟨_,_,_,e,_⟩,_⟩:=x;exact Heap.lt_size e
 | rng lo hi=>obtain ⟨_,_,_,e⟩:=x;exact Heap.lt_size e
 | frz ob u=>obtain ⟨e,_⟩:=x;exact Heap.lt_size e
 | tbl ps=>exact Heap.lt_size (show h.get? a=some _ from x)
 | met f y=>exact Heap.lt_size (show h.get? a=some _ from x)
 | ext φ=>obtain ⟨_,⟨_,e⟩,_⟩:=x;exact Heap.lt_size e
theorem Paired.mapP {α β:Type}{F G:α->β->Prop}:∀ {l₁:List α}{l₂:List β},Paired F l₁ l₂->(∀ a b,F a b->G a b)->Paired G l₁ l₂
 | _,_,.nil,_=>.nil
 | _,_,.cons r t,f=>.cons (f _ _ r) (Paired.mapP t f)
theorem Bx.stay (x:Bx P w H h a o) (k:∀ b u,(b=a\/H b=some (.own a))->h.get? b=some u->h'.get? b=some u)
  (ho:∀ b,H b=some (.own a)->H' b=some (.own a)) (ht:∀ b xs,H b=some (.tup xs)->H' b=some (.tup xs)):Bx P w H' h' a o:=by
 induction o with
 | lst xs=>obtain ⟨z,its,n,r,e⟩:=x;exact ⟨z,its,n,r,k _ _ (.inl rfl) e⟩
 | tup xs=>obtain ⟨z,its,r,ob,e,c⟩:=x;exact ⟨z,its,r,ob,k _ _ (.inl rfl) e,c⟩
 | dK kvs=>obtain ⟨z,y,vs,r,ob,es,ep,e,c⟩:=x;exact ⟨z,y,vs,r,ob,es,ep,k _ _ (.inl rfl) e,c⟩
 | dT kvs =>
  obtain ⟨z,y,xs,r,ob,es,ep,e,c⟩:=x;exact ⟨z,y,xs,Paired.mapP r λp q z=>⟨z.1,ht _ _ z.2.1,z.2.2⟩,ob,es,ep,k _ _ (.inl rfl) e,c⟩
 | dN kvs=>obtain ⟨z,y,xs,r,ob,es,ep,e,c⟩:=x;exact ⟨z,y,xs,r,ob,es,ep,k _ _ (.inl rfl) e,c⟩
 | set S n=>obtain ⟨ob,es,ep,t,e,c⟩:=x;exact ⟨ob,es,ep,t,k _ _ (.inl rfl) e,c⟩
 | ins C dx fs =>
  obtain ⟨d,z,ne,e,mA,⟨od,es,ep,e2,c⟩,r⟩:=x;exact ⟨ho _ d,z,ne,k _ _ (.inl rfl) e,mA,⟨od,es,ep,k _ _ (.inr d) e2,c⟩,r⟩
 | own y=>obtain ⟨ob,e⟩:=x;exact ⟨ob,k _ _ (.inl rfl) e⟩
 | xd fs=>obtain ⟨mA,⟨od,es,ep,e,c⟩,r⟩:=x;exact ⟨mA,⟨od,es,ep,k _ _ (.inl rfl) e,c⟩,r⟩
 | rng lo hi=>obtain ⟨t,u,v,e⟩:=x;exact ⟨t,u,v,k _ _ (.inl rfl) e⟩
 | frz ob u ih=>obtain ⟨e,q⟩:=x;exact ⟨k _ _ (.inl rfl) e,ih q⟩
 | tbl ps =>
  have e:h.get? a=some { cls:=.none,data:=.fields ps }:=x;show h'.get? a=some { cls:=.none,data:=.fields ps };exact k a _ (.inl rfl) e
 | met f y =>
  have e:h.get? a=some (IW (.ref f) (.ref y)):=x;show h'.get? a=some (IW (.ref f) (.ref y));exact k a _ (.inl rfl) e
 | ext φ=>obtain ⟨p,⟨o,e⟩,st⟩:=x;exact ⟨st _ _ p λo q=>k _ _ (.inl rfl) q,⟨o,k _ _ (.inl rfl) e⟩,st⟩
theorem HOk.lt (x:HOk P w H h) (e:H a=some o):a < h.objs.size:=(x a o e).lt
theorem HOk.fresh (x:HOk P w H h) (e:h.objs.size<=a):H a=none:=by
 cases q:H a with
 | none=>rfl
 | some u=>exact absurd (di (x.lt q) e) (jj _)
theorem HOk.kept (x:HOk P w H h) (k:∀ b u,h.get? b=some u->h'.get? b=some u):HOk P w H h':=λa o e =>
 (x a o e).stay (λb u _ q=>k b u q) (λ_ q=>q) λ_ _ q=>q
theorem HOk.laid (x:HOk P w H h) (k:∀ b u,h.get? b=some u->h'.get? b=some u) (hp:h.objs.size<=a) (new:Bx P w (upd H a o) h' a o):HOk P w (upd H a o) h':=λb u e=>by
 have hn:=x.fresh hp
 by_cases hb:b=a
 ·subst hb;rw [Ag] at e;cases e;exact new
 ·rw [Ad hb] at e;exact (x b u e).stay (λc v _ q=>k c v q) (λc q=>by rw [Ad (Ae q hn)];exact q) λc xs q=>by rw [Ad (Ae q hn)];exact q
end
noncomputable def Rd (H:Hp) (a:Addr) (u:HO):Prop:=H a=some u\/∃ o,H a=some (.frz o u)
theorem Rd.of {H:Hp}{a:Addr}{u:HO}(h:H a=some u):Rd H a u:=.inl h
theorem Rd.ok {P:Program}{w:World}{H:Hp}{h:Heap}{a:Addr}{u:HO}(r:Rd H a u) (x:HOk P w H h):Bx P w H h a u:=by
 rcases r with r|⟨o,r⟩
 ·exact x a u r
 ·obtain ⟨_,q⟩:=x a _ r;exact q
noncomputable def Mut:Option HO->Prop
 | some (.lst _)=>True
 | some (.dK _)=>True
 | some (.dT _)=>True
 | some (.dN _)=>True
 | some (.set _ _)=>True
 | some (.ins _ _ _)=>True
 | some (.ext _)=>True
 | _=>False
section
variable {P:Program}{w:World}{H:Hp}{h h':Heap}{x e:Addr}{o':HO}
theorem HOk.write (ok:HOk P w H h) (mu:Mut (H x)) (he:e=x\/H e=some (.own x)) (k:∀ b u,b≠e->h.get? b=some u->h'.get? b=some u) (heo:∃ u,h'.get? e=some u)
  (new:Bx P w (upd H x o') h' x o'):HOk P w (upd H x o') h':=λb u q=>by
 have nown:∀ c y,H c=some (.own y)->c≠x:=λc y r z=>by subst z;rw [r] at mu;exact mu
 have ntup:∀ c xs,H c=some (.tup xs)->c≠x:=λc xs r z=>by subst z;rw [r] at mu;exact mu
 by_cases hb:b=x
 ·subst hb;rw [Ag] at q;cases q;exact new
 ·rw [Ad hb] at q
  by_cases hbe:b=e
  ·have q':H b=some (.own x):=by
    rcases he with z|z
    ·exact absurd (hbe.trans z) hb
    ·rw [hbe];exact z
   rw [q] at q';cases q';obtain ⟨v,hv⟩:=heo;exact ⟨v,by rw [hbe];exact hv⟩
  ·refine (ok b u q).stay (λc v hc r=>k c v ?_ r) (λc r=>by rw [Ad (nown c b r)];exact r) λc xs r=>by rw [Ad (ntup c xs r)];exact r
   rcases hc with rfl|hc
   ·exact hbe
   ·rintro rfl;rcases he with z|z
    ·exact nown c b hc z
    ·rw [hc] at z;cases z;exact hb rfl
end
structure Un (fs ex:List Addr) (H H':Hp) (h h':Heap):Prop where
 keep:∀ b o,h.get? b=some o->H b=none->b ∉ fs->b ∉ ex->h'.get? b=some o
 slot:∀ b o,h.get? b=some o->H b=none->b∈fs->b ∉ ex->∃ sl,h'.get? b=some { o with slots:=sl }
 free:∀ b o,h.get? b=some o->H b=none->b ∉ ex->H' b=none
 there:∀ b o,h.get? b=some o->b ∉ ex->∃ o',h'.get? b=some o'
 tups:∀ b xs,H b=some (.tup xs)->H' b=some (.tup xs)
 frzs:∀ b o u,H b=some (.frz o u)->H' b=some (.frz o u)
 tbls:∀ b ps,H b=some (.tbl ps)->∃ more,H' b=some (.tbl (ps++more))
section
variable {fs fs' ex ex':List Addr}{H H1 H2:Hp}{h h1 h2 h':Heap}{a x e:Addr}{o:HO}
theorem Un.any (u:Un fs ex H H1 h h1) {b:Addr}{ob:Obj}(q:h.get? b=some ob) (n:H b=none) (hx:b ∉ ex):∃ sl,h1.get? b=some { ob with slots:=sl }:=by
 by_cases hb:b∈fs
 ·exact u.slot b ob q n hb hx
 ·exact ⟨ob.slots,u.keep b ob q n hb hx⟩
theorem Un.kept (k:∀ b u,h.get? b=some u->h'.get? b=some u):Un fs ex H H h h' :=
 ⟨λb ob q _ _ _=>k b ob q,λb ob q _ _ _=>⟨ob.slots,k b ob q⟩,λ_ _ _ n _=>n,λb ob q _=>⟨ob,k b ob q⟩,λ_ _ q=>q,λ_ _ _ q=>q,λ_ ps q=>⟨#[],by rw [q];simp⟩⟩
theorem Un.refl:Un fs ex H H h h:=Un.kept λ_ _ q=>q
theorem Un.laid (k:∀ b u,h.get? b=some u->h'.get? b=some u) (hp:h.objs.size<=a) (hn:H a=none):Un fs ex H (upd H a o) h h' where
 keep:=λb u q _ _ _=>k b u q
 slot:=λb u q _ _ _=>⟨u.slots,k b u q⟩
 free:=λb u q n _=>by rw [Ad (cj (di (Heap.lt_size q) hp))];exact n
 there:=λb u q _=>⟨u,k b u q⟩
 tups:=λb xs q=>by rw [Ad (Ae q hn)];exact q
 frzs:=λb u xs q=>by rw [Ad (Ae q hn)];exact q
 tbls:=λb ps q=>⟨#[],by rw [Ad (Ae q hn),q];simp⟩
theorem Un.write (mu:Mut (H x)) (he:e=x\/H e=some (.own x)) (k:∀ b u,b≠e->h.get? b=some u->h'.get? b=some u) (heo:∃ u,h'.get? e=some u):Un fs ex H (upd H x o) h h':=by
 have hx:∀ b,H b=none->b≠x:=λb n z=>by subst z;rw [n] at mu;exact mu
 have hb:∀ b,H b=none->b≠e:=λb n z=>by
  subst z;rcases he with r|r
  ·exact hx b n r
  ·rw [n] at r;cases r
 have hm:∀ b u,H b=some u->¬ Mut (some u)->b≠x:=λb u q nm z=>by subst z;rw [q] at mu;exact nm mu
 refine ⟨λb u q n _ _=>k b u (hb b n) q,λb u q n _ _=>⟨u.slots,k b u (hb b n) q⟩,λb u q n _=>by rw [Ad (hx b n)];exact n,λb u q _=>?_,
  λb xs q=>by rw [Ad (hm b _ q λz=>z)];exact q,λb u xs q=>by rw [Ad (hm b _ q λz=>z)];exact q,λb ps q=>⟨#[],by rw [Ad (hm b _ q λz=>z),q];simp⟩⟩
 by_cases hbe:b=e
 ·subst hbe;exact heo
 ·exact ⟨u,k b u hbe q⟩
end
noncomputable def trk (h:Heap) (H:Hp):List Addr:=(gw h.objs.size).filter λa=>(H a).isSome
noncomputable def Rw (h:Heap) (H:Hp):Heap:=PySem.W.hideAll h (trk h H)
theorem bB (h:Heap) (H:Hp):(Rw h H).objs.size=h.objs.size:=PySem.W.hideAll_size _ _
theorem fO {h:Heap}{H:Hp}{b:Addr}{o:Obj}(e:h.get? b=some o) (n:H b=none):(Rw h H).get? b=some o :=
 PySem.W.hideAll_get _ e λhm=>by
  have q:(H b).isSome=true:=(List.mem_filter.mp hm).2;rw [n] at q;simp at q
theorem qP {h:Heap}{H:Hp}{b:Addr}{o:Obj}(e:(Rw h H).get? b=some o):h.get? b=some o/\H b=none:=by
 have e':h.get? b=some o:=PySem.W.of_hideAll (trk h H) e;refine ⟨e',?_⟩;cases q:H b with
 | none=>rfl
 | some x =>
  have hm:b∈trk h H:=List.mem_filter.mpr ⟨List.mem_range.mpr (Heap.lt_size e'),by simp [q]⟩;have z:(Rw h H).get? b=none:=PySem.W.hideAll_none (trk h H) hm;rw [z] at e;cases e
structure Mod (K:aj) (mg:Str->Option Value) (base:Heap):Prop where
 kin:K.In base
 glob:base.Ns mainGlobals mg
 blt:∃ mb,base.Ns builtinsNs mb/\∀ x:Str,x ≠ "__name__"->mb x=bootBuiltins x
 nolimit:base.NoLimit
structure Cx where
 prog:Program
 w:World
 K:aj
 mg:Str->Option Value
 base:Heap
 A:Around
 N:List Str
 s₀:Shared
 H₀:Hp
 env:Env
 outer:List Env
 stack:List Env
 ex:List Addr
 fn:Str->Bool
 calm:Bool
 pn:List (Addr×Obj)
 xe:Value->Shared->Prop
noncomputable def frs (l:List Env):List Addr:=l.filterMap (·.frame)
noncomputable abbrev Cx.fs (X:Cx):List Addr:=frs X.outer
noncomputable def Vis (sc:Scope) (x:Str):Prop:=sc.names.lookup x=some .local\/sc.names.lookup x=some .cell\/sc.names.lookup x=some .free
noncomputable def Loc (sc:Scope) (x:Str):Prop:=sc.names.lookup x=some .local\/sc.names.lookup x=some .cell
noncomputable def Look (env:Env) (h:Heap) (m:Str->Option Value) (x:Str) (u:Value):Prop :=
 (env.kindOf x=some .local/\m x=some u)\/((env.kindOf x=some .cell\/env.kindOf x=some .free)/\∃ c,env.cells.lookup x=some c/\h.IsCell c (some u))
structure Cx.Ok (X:Cx):Prop where
 mod:Mod X.K X.mg X.base
 kind:X.env.scope.kind=.function
 glob:X.env.globals=mainGlobals
 blt:X.env.builtins=builtinsNs
 above:X.s₀.heap.objs.size<=X.env.locals
 inj:∀ x y c,X.env.cells.lookup x=some c->X.env.cells.lookup y=some c->x=y
 has:∀ x,(X.env.kindOf x=some .cell\/X.env.kindOf x=some .free)->∃ c,X.env.cells.lookup x=some c
 cab:∀ x c,X.fn x=true->X.env.cells.lookup x=some c->X.s₀.heap.objs.size<=c
 hd:X.calm=true->X.A.handled=none
 frames:X.A.frames=some X.stack
 stk:X.stack=X.outer\/(X.stack=X.env::X.outer/\X.env.frame=some X.env.locals)
 exf:∀ b∈X.ex,b≠X.env.locals/\∀ x c,X.env.cells.lookup x=some c->c≠b
 bs:∀ b o,X.base.get? b=some o->X.s₀.heap.get? b=some o/\X.H₀ b=none
 bsz:X.base.objs.size<=X.s₀.heap.objs.size
 noex:∀ b o,X.base.get? b=some o->b ∉ X.ex
 exfs:∀ b∈X.ex,b ∉ X.fs
 funs:X.s₀.heap.FunFrames X.base X.outer
 frf:∀ b∈X.fs,X.H₀ b=none
structure Inv (X:Cx) (pins:List (Addr×Obj)) (σ:List (Option V)) (H:Hp) (s:Shared):Prop where
 ok:X.Ok
 os:s.os=X.s₀.os
 bare:AllBare s.gens
 base:Un X.fs X.ex X.H₀ H X.s₀.heap s.heap
 loc:∃ m,s.heap.Ns X.env.locals m/\∀ (i:Nat) (x:Str) (v:V),X.N[i]?=some x->σ[i]?=some (some v)->Vis X.env.scope x->∃ u,RelV v u/\Look X.env s.heap m x u
 cell:∀ x c,X.env.cells.lookup x=some c->∃ v,s.heap.IsCell c v
 free:H X.env.locals=none
 freeC:∀ x c,X.env.cells.lookup x=some c->H c=none\/(X.fn x=false/\∃ o u,H c=some (.frz o u))
 pin:∀ p∈X.pn++pins,s.heap.get? p.1=some p.2/\H p.1=none/\p.1≠X.env.locals/\p.1 ∉ X.fs/\∀ v,p.2.data≠.cell v
 hok:HOk X.prog X.w H s.heap
 len:σ.length=X.N.length
section
variable {X:Cx}{pins:List (Addr×Obj)}{σ:List (Option V)}{H H':Hp}{s:Shared}{h':Heap}
theorem Cx.Ok.nofr (ok:X.Ok) {b:Addr}{o:Obj}(e:X.base.get? b=some o):b ∉ X.fs:=λhb=>by
 have:=(ok.funs.mem hb).1;rw [e] at this;cases this
theorem Inv.bs (I:Inv X pins σ H s):∀ b o,X.base.get? b=some o->s.heap.get? b=some o/\H b=none:=λb o e =>
 ⟨I.base.keep b o (I.ok.bs b o e).1 (I.ok.bs b o e).2 (I.ok.nofr e) (I.ok.noex b o e),I.base.free b o (I.ok.bs b o e).1 (I.ok.bs b o e).2 (I.ok.noex b o e)⟩
theorem Inv.bk (I:Inv X pins σ H s):∀ b o,X.base.get? b=some o->s.heap.get? b=some o:=λb o e=>(I.bs b o e).1
theorem Inv.mod (I:Inv X pins σ H s):Mod X.K X.mg X.base:=I.ok.mod
theorem Inv.kIn (I:Inv X pins σ H s):X.K.In s.heap:=I.ok.mod.kin.keeps I.bk
theorem Inv.lt (I:Inv X pins σ H s):X.env.locals < s.heap.objs.size:=let ⟨_,hn,_⟩:=I.loc;hn.lt
theorem Inv.sz (I:Inv X pins σ H s):X.s₀.heap.objs.size<=s.heap.objs.size:=jg I.ok.above (zq I.lt)
theorem Inv.nofs (I:Inv X pins σ H s) {a:Addr}(h:s.heap.objs.size<=a):a ∉ X.fs:=λhb=>by
 obtain ⟨_,o,ho,_⟩:=I.ok.funs.mem hb;exact absurd (di (Heap.lt_size ho) (jg I.sz h)) (jj _)
theorem Inv.cne (I:Inv X pins σ H s):∀ x c,X.env.cells.lookup x=some c->c≠X.env.locals:=λx c e z=>by
 obtain ⟨v,o,ho,hd⟩:=I.cell x c e;obtain ⟨m,⟨o',es,ep,ho',hd',_⟩,_⟩:=I.loc;rw [z,ho'] at ho;cases ho;rw [hd'] at hd;cases hd
theorem Inv.funs (I:Inv X pins σ H s):s.heap.FunFrames X.base X.outer:=by
 have all:∀ (l:List Env),(∀ b∈frs l,b∈X.fs)->X.s₀.heap.FunFrames X.base l->s.heap.FunFrames X.base l:=by
  intro l
  induction l with
  | nil=>intro _ _;trivial
  | cons env r ih =>
   intro hs hl;obtain ⟨hk,⟨L,o,hf,hn,ho,hd⟩,hr⟩:=hl;have hL:L∈X.fs:=hs L (by unfold frs;rw [yu,hf];exact dw);obtain ⟨sl,e⟩:=I.base.slot L o ho (I.ok.frf L hL) hL λz=>I.ok.exfs L z hL
   exact ⟨hk,⟨L,_,hf,hn,e,hd⟩,ih (λb hb=>hs b (by unfold frs;rw [yu,hf];exact cu _ hb)) hr⟩
 exact all X.outer (λ_ hb=>hb) I.ok.funs
theorem Inv.stack (I:Inv X pins σ H s):s.heap.FunFrames X.base X.stack:=by
 rcases I.ok.stk with e|⟨e,hf⟩
 ·rw [e];exact I.funs
 ·rw [e];obtain ⟨m,hn,_⟩:=I.loc;refine .cons (by rw [I.ok.kind];decide) hf hn ?_ I.funs;exact Heap.get?_none_of_le (jg I.ok.bsz I.ok.above)
theorem Inv.stkSub (I:Inv X pins σ H s):∀ b∈frs X.stack,b∈X.env.locals::X.fs:=λb hb=>by
 rcases I.ok.stk with e|⟨e,hf⟩
 ·rw [e] at hb;exact cu _ hb
 ·rw [e] at hb;unfold frs at hb;rw [yu,hf] at hb;exact hb
theorem Inv.stkFree (I:Inv X pins σ H s):∀ b∈frs X.stack,H b=none:=λb hb=>by
 rcases gn.mp (I.stkSub b hb) with e|hb
 ·rw [e];exact I.free
 ·obtain ⟨_,o,ho,_⟩:=I.ok.funs.mem hb;exact I.base.free b o ho (I.ok.frf b hb) λz=>I.ok.exfs b z hb
theorem Inv.step {g':Array GenState}{t':Nat}{d':Drawn}{ch:List Addr}(I:Inv X pins σ H s)
  (hch:∀ b∈ch,(b∈X.ex\/X.s₀.heap.objs.size<=b)/\b≠X.env.locals/\(∀ x c,X.env.cells.lookup x=some c->c≠b)/\∀ p∈X.pn++pins,p.1≠b)
  (keep:∀ b o,b≠X.env.locals->b ∉ X.fs->b ∉ ch->s.heap.get? b=some o->H b=none->h'.get? b=some o)
  (slot:∀ b o,b≠X.env.locals->b∈X.fs->b ∉ ch->s.heap.get? b=some o->H b=none->∃ sl,h'.get? b=some { o with slots:=sl }) (free:∀ b o,b ∉ ch->s.heap.get? b=some o->H b=none->H' b=none)
  (there:∀ b o,b ∉ ch->s.heap.get? b=some o->∃ o',h'.get? b=some o')
  (tups:∀ b xs,H b=some (.tup xs)->H' b=some (.tup xs)) (frzs:∀ b o u,H b=some (.frz o u)->H' b=some (.frz o u)) (tbls:∀ b ps,H b=some (.tbl ps)->∃ more,H' b=some (.tbl (ps++more)))
  (ns:∀ m,s.heap.Ns X.env.locals m->h'.Ns X.env.locals m) (hok:HOk X.prog X.w H' h') (hg:AllBare g') :
  Inv X pins σ H' { s with heap:=h',gens:=g',drawn:=d',toks:=t' }:=by
 have neL:∀ b o,X.s₀.heap.get? b=some o->b≠X.env.locals:=λb o e=>cj (di (Heap.lt_size e) I.ok.above)
 have neC:∀ b o,X.s₀.heap.get? b=some o->b ∉ X.ex->b ∉ ch:=λb o e hx hb=>by
  rcases (hch b hb).1 with z|z
  ·exact hx z
  ·exact absurd (di (Heap.lt_size e) z) (jj _)
 have cellK:∀ x c,X.env.cells.lookup x=some c->∀ v,s.heap.IsCell c v->h'.IsCell c v:=by
  rintro x c e v ⟨o,ho,hd⟩;have nch:c ∉ ch:=λz=>(hch c z).2.2.1 x c e rfl
  rcases I.freeC x c e with fc|⟨_,oz,uz,fz⟩
  ·by_cases hc:c∈X.fs
   ·obtain ⟨sl,q⟩:=slot c o (I.cne x c e) hc nch ho fc;exact ⟨_,q,hd⟩
   ·exact ⟨o,keep c o (I.cne x c e) hc nch ho fc,hd⟩
  ·obtain ⟨e1,_⟩:=I.hok c _ fz;obtain ⟨e2,_⟩:=hok c _ (frzs c _ _ fz);rw [ho] at e1;cases e1;exact ⟨_,e2,hd⟩
 refine ⟨I.ok,I.os,hg,⟨λb o e n hb hx=>?_,λb o e n hb hx=>?_,λb o e n hx=>?_,λb o e hx=>?_,λb xs e=>tups b xs (I.base.tups b xs e),λb o xs e=>frzs b o xs (I.base.frzs b o xs e),λb ps e=>?_⟩,?_,λx c e=>?_,?_,λx c e=>?_,λp hp=>?_,hok,I.len⟩
 ·exact keep b o (neL b o e) hb (neC b o e hx) (I.base.keep b o e n hb hx) (I.base.free b o e n hx)
 ·obtain ⟨sl,e1⟩:=I.base.slot b o e n hb hx;obtain ⟨sl',e2⟩:=slot b _ (neL b o e) hb (neC b o e hx) e1 (I.base.free b o e n hx);exact ⟨sl',e2⟩
 ·obtain ⟨o',e1⟩:=I.base.there b o e hx;exact free b o' (neC b o e hx) e1 (I.base.free b o e n hx)
 ·obtain ⟨o',e1⟩:=I.base.there b o e hx;exact there b o' (neC b o e hx) e1
 ·obtain ⟨m1,e1⟩:=I.base.tbls b ps e;obtain ⟨m2,e2⟩:=tbls b _ e1;exact ⟨m1++m2,by rw [e2,Array.append_assoc]⟩
 ·obtain ⟨m,hn,hl⟩:=I.loc;refine ⟨m,ns m hn,λi x v e1 e2 e3=>?_⟩;obtain ⟨u,r,l⟩:=hl i x v e1 e2 e3;refine ⟨u,r,?_⟩;rcases l with l|⟨k,c,e,z⟩
  ·exact .inl l
  ·exact .inr ⟨k,c,e,cellK x c e _ z⟩
 ·obtain ⟨v,z⟩:=I.cell x c e;exact ⟨v,cellK x c e v z⟩
 ·obtain ⟨m,⟨o,_,_,ho,_⟩,_⟩:=I.loc;exact free _ o (λz=>(hch _ z).2.1 rfl) ho I.free
 ·obtain ⟨v,o,ho,hd⟩:=I.cell x c e;rcases I.freeC x c e with fc|⟨fx,oz,uz,fz⟩
  ·exact .inl (free c o (λz=>(hch c z).2.2.1 x c e rfl) ho fc)
  ·exact .inr ⟨fx,oz,uz,frzs c _ _ fz⟩
 ·obtain ⟨e,n,ne,nf,d⟩:=I.pin p hp;have nch:p.1 ∉ ch:=λz=>(hch p.1 z).2.2.2 p hp rfl
  exact ⟨keep p.1 p.2 ne nf nch e n,free p.1 p.2 nch e n,ne,nf,d⟩
theorem Inv.un {t':Nat}(I:Inv X pins σ H s) (u:Un X.fs [] H H' s.heap h') (hok:HOk X.prog X.w H' h'):Inv X pins σ H' { s with heap:=h',toks:=t' }:=by
 obtain ⟨m,⟨o,es,ep,ho,r⟩,_⟩:=id I.loc;obtain ⟨sl,hL⟩:=u.any ho I.free (by simp)
 exact I.step (g':=s.gens) (d':=s.drawn) (ch:=[]) (λ_ z=>nomatch z) (λb o _ hb _ e n=>u.keep b o e n hb (by simp)) (λb o _ hb _ e n=>u.slot b o e n hb (by simp)) (λb o _ e n=>u.free b o e n (by simp)) (λb o _ e=>u.there b o e (by simp)) u.tups u.frzs u.tbls (λm' hm=>by
  obtain ⟨o',es',ep',ho',r'⟩:=hm;rw [ho] at ho';cases ho'
  exact ⟨_,es',ep',hL,r'⟩) hok I.bare
theorem Inv.call {g':Array GenState}{t':Nat}{d':Drawn}{ch:List Addr}(I:Inv X pins σ H s) (u:Un (frs X.stack) ch H H' s.heap h') (hok:HOk X.prog X.w H' h') (hg:AllBare g')
  (hch:∀ b∈ch,(b∈X.ex\/X.s₀.heap.objs.size<=b)/\b≠X.env.locals/\(∀ x c,X.env.cells.lookup x=some c->c≠b)/\∀ p∈X.pn++pins,p.1≠b) :
  Inv X pins σ H' { s with heap:=h',gens:=g',drawn:=d',toks:=t' }:=by
 obtain ⟨m,⟨o,es,ep,ho,r⟩,_⟩:=id I.loc;obtain ⟨sl,hL⟩:=u.any ho I.free λz=>(hch _ z).2.1 rfl
 exact I.step (ch:=ch) hch (λb o hL hb hc e n=>u.keep b o e n (λz=>(gn.mp (I.stkSub b z)).elim hL hb) hc) (λb o _ _ hc e n=>u.any e n hc) (λb o hc e n=>u.free b o e n hc) (λb o hc e=>u.there b o e hc) u.tups u.frzs u.tbls (λm' hm=>by
  obtain ⟨o',es',ep',ho',r'⟩:=hm;rw [ho] at ho';cases ho'
  exact ⟨_,es',ep',hL,r'⟩) hok hg
theorem Inv.turned {t':Nat}{it:Addr}(I:Inv X pins σ H s) (k:∀ b o,b≠it->s.heap.get? b=some o->h'.get? b=some o) (hn:H it=none) (hL:it≠X.env.locals)
  (h1:it∈X.ex\/X.s₀.heap.objs.size<=it) (h2:∀ x c,X.env.cells.lookup x=some c->c≠it) (h3:∀ p∈X.pn++pins,p.1≠it):Inv X pins σ H { s with heap:=h',toks:=t' }:=by
 have nit:∀ b u,H b=some u->b≠it:=λb u e z=>by rw [z,hn] at e;cases e
 refine I.step (g':=s.gens) (d':=s.drawn) (ch:=[it]) (λb hb=>?_) (λb o _ _ hc e _=>k b o (λz=>hc (by simp [z])) e) (λb o _ _ hc e _=>⟨o.slots,k b o (λz=>hc (by simp [z])) e⟩) (λ_ _ _ _ n=>n)
  (λb o hc e=>⟨o,k b o (λz=>hc (by simp [z])) e⟩) (λ_ _ e=>e) (λ_ _ _ e=>e) (λb ps e=>⟨#[],by rw [e];simp⟩) (λm hm=>?_) (λb u e=>?_) I.bare
 ·have e:b=it:=by simpa using hb
  subst e;exact ⟨h1,hL,h2,h3⟩
 ·obtain ⟨o,es,ep,ho,r⟩:=hm;exact ⟨o,es,ep,k _ o (Ne.symm hL) ho,r⟩
 ·refine (I.hok b u e).stay (λc v hc q=>k c v ?_ q) (λ_ q=>q) λ_ _ q=>q
  rcases hc with z|z
  ·rw [z];exact nit b u e
  ·exact nit c _ z
theorem Inv.tok (I:Inv X pins σ H s) (t:Nat):Inv X pins σ H { s with toks:=t }:=I.un (h':=s.heap) (t':=t) Un.refl I.hok
theorem Inv.kept {t':Nat}(I:Inv X pins σ H s) (k:∀ b u,s.heap.get? b=some u->h'.get? b=some u):Inv X pins σ H { s with heap:=h',toks:=t' }:=I.un (Un.kept k) (I.hok.kept k)
theorem Inv.laid {a:Addr}{o:HO}{t':Nat}(I:Inv X pins σ H s) (k:∀ b u,s.heap.get? b=some u->h'.get? b=some u) (hp:s.heap.objs.size<=a) (new:Bx X.prog X.w (upd H a o) h' a o) :
  Inv X pins σ (upd H a o) { s with heap:=h',toks:=t' }:=I.un (Un.laid k hp (I.hok.fresh hp)) (I.hok.laid k hp new)
theorem Inv.write {x e:Addr}{o:HO}{t':Nat}(I:Inv X pins σ H s) (mu:Mut (H x)) (he:e=x\/H e=some (.own x)) (k:∀ b u,b≠e->s.heap.get? b=some u->h'.get? b=some u) (heo:∃ u,h'.get? e=some u)
  (new:Bx X.prog X.w (upd H x o) h' x o):Inv X pins σ (upd H x o) { s with heap:=h',toks:=t' }:=I.un (Un.write mu he k heo) (I.hok.write mu he k heo new)
theorem Inv.weak {σ':List (Option V)}(I:Inv X pins σ H s) (hl:σ'.length=σ.length) (w:∀ (i:Nat) v,σ'[i]?=some (some v)->σ[i]?=some (some v)):Inv X pins σ' H s :=
 ⟨I.ok,I.os,I.bare,I.base,let ⟨m,hn,hl'⟩:=I.loc;⟨m,hn,λi x v e1 e2 e3=>hl' i x v e1 (w i v e2) e3⟩,I.cell,I.free,I.freeC,I.pin,I.hok,hl.trans I.len⟩
theorem Inv.pins_of {pins':List (Addr×Obj)}(I:Inv X pins σ H s) (h:∀ p∈pins',s.heap.get? p.1=some p.2/\H p.1=none/\p.1≠X.env.locals/\p.1 ∉ X.fs/\∀ v,p.2.data≠.cell v):Inv X pins' σ H s :=
 ⟨I.ok,I.os,I.bare,I.base,I.loc,I.cell,I.free,I.freeC,λp hp=>(ju.mp hp).elim (λz=>I.pin p (DY _ z)) (h p),I.hok,I.len⟩
theorem Ut {N:List Str}(hN:N.Nodup) {i j:Nat}{x:Str}(a:N[i]?=some x) (b:N[j]?=some x):i=j:=by
 obtain ⟨h1,e1⟩:=dh.mp a;obtain ⟨h2,e2⟩:=dh.mp b;exact (List.getElem_inj hN).mp (e1.trans e2.symm)
theorem bC {M:Model}{A:Around}{E:Value->Shared->Prop}{i:Nat}{x:Str}{v:V}{u:Value}{Q:Unit->Shared->Prop}(I:Inv X pins σ H s) (hN:X.N.Nodup) (hi:X.N[i]?=some x) (hx:Loc X.env.scope x) (r:RelV v u)
  (h:∀ s',Inv X pins (σ.set i (some v)) H s'->(∃ a,vz a s.heap s'.heap/\(a=X.env.locals\/X.env.cells.lookup x=some a))->Q () s') (hf:X.fn x=true\/X.env.scope.names.lookup x=some .local:=by first | exact .inl rfl | exact .inr rfl | assumption):wpAny M A (storeName X.env x u) Q E s:=by
 obtain ⟨m,hn,hl⟩:=id I.loc;have hcls:(X.env.scope.kind==.class || (X.env.scope.kind==.module&&X.env.locals != X.env.globals))=false:=by rw [I.ok.kind];rfl
 have hiσ:i < σ.length:=by rw [I.len];exact (dh.mp hi).1
 have cne:=I.cne;have tracked:∀ {a:Addr} {h':Heap},(∃ o,s.heap.get? a=some o/\H a=none)->vz a s.heap h'->HOk X.prog X.w H h':=λ{a h'} ha hs b ob e=>by
  obtain ⟨_,_,hfree⟩:=ha;refine (I.hok b ob e).stay (λc w' hc q=>(hs.2 c ?_).trans q) (λ_ q=>q) λ_ _ q=>q
  rintro rfl;rcases hc with rfl|hc
  ·rw [hfree] at e;cases e
  ·rw [hfree] at hc;cases hc
 rcases hx with hk|hk
 ·refine wpAny_storeName_local hk hn (λh' hn' hs=>?_) hcls;obtain ⟨oL,_,_,hoL,_⟩:=id hn;refine h _ ⟨I.ok,I.os,I.bare,⟨λb o e n hb hx=>?_,λb o e n hb hx=>?_,I.base.free,λb o e hx=>?_,I.base.tups,I.base.frzs,I.base.tbls⟩,⟨_,hn',λj y v' e1 e2 e3=>?_⟩,λy c e=>?_,I.free,I.freeC,λp hp=>?_,tracked ⟨oL,hoL,I.free⟩ hs,by simpa using I.len⟩ ⟨_,hs,.inl rfl⟩
  ·exact (hs.2 b (cj (di (Heap.lt_size e) I.ok.above))).trans (I.base.keep b o e n hb hx)
  ·obtain ⟨sl,e1⟩:=I.base.slot b o e n hb hx;exact ⟨sl,(hs.2 b (cj (di (Heap.lt_size e) I.ok.above))).trans e1⟩
  ·obtain ⟨o',e1⟩:=I.base.there b o e hx;exact ⟨o',(hs.2 b (cj (di (Heap.lt_size e) I.ok.above))).trans e1⟩
  ·by_cases hj:j=i
   ·subst hj;rw [hi] at e1;cases e1;rw [ye hiσ] at e2;cases e2;exact ⟨u,r,.inl ⟨hk,by simp⟩⟩
   ·rw [jk (Ne.symm hj)] at e2;obtain ⟨u',r',q⟩:=hl j y v' e1 e2 e3;refine ⟨u',r',?_⟩;rcases q with ⟨k,e⟩|⟨k,c,e,z⟩
    ·refine .inl ⟨k,?_⟩;have:y≠x:=λe=>hj (Ut hN e1 (e ▸ hi))
     simp [this,e]
    ·exact .inr ⟨k,c,e,z.sameBut hs (cne y c e)⟩
  ·obtain ⟨w',z⟩:=I.cell y c e;exact ⟨w',z.sameBut hs (cne y c e)⟩
  ·obtain ⟨e,n,ne,nf,d⟩:=I.pin p hp;exact ⟨(hs.2 p.1 ne).trans e,n,ne,nf,d⟩
 ·have hfn:X.fn x=true:=by
   rcases hf with z|z
   ·exact z
   ·rw [z] at hk;cases hk
  obtain ⟨c,hc⟩:=I.ok.has x (.inl hk);obtain ⟨w',z⟩:=I.cell x c hc;refine wpAny_storeName_cell I.ok.kind hk hc z (λh' hc' hs=>?_);obtain ⟨oc,hoc,hocd⟩:=id z;refine h { s with heap:=h' } ⟨I.ok,I.os,I.bare,⟨λb o e n hb hx=>?_,λb o e n hb hx=>?_,I.base.free,λb o e hx=>?_,I.base.tups,I.base.frzs,I.base.tbls⟩,⟨m,hn.sameBut hs (Ne.symm (cne x c hc)),λj y v' e1 e2 e3=>?_⟩,λy c' e=>?_,I.free,I.freeC,λp hp=>?_,tracked ⟨oc,hoc,(I.freeC x c hc).resolve_right λz=>by rw [hfn] at z;cases z.1⟩ hs,by simpa using I.len⟩ ⟨c,hs,.inr hc⟩
  ·exact (hs.2 b (cj (di (Heap.lt_size e) (I.ok.cab x c hfn hc)))).trans (I.base.keep b o e n hb hx)
  ·obtain ⟨sl,e1⟩:=I.base.slot b o e n hb hx;exact ⟨sl,(hs.2 b (cj (di (Heap.lt_size e) (I.ok.cab x c hfn hc)))).trans e1⟩
  ·obtain ⟨o',e1⟩:=I.base.there b o e hx;exact ⟨o',(hs.2 b (cj (di (Heap.lt_size e) (I.ok.cab x c hfn hc)))).trans e1⟩
  ·by_cases hj:j=i
   ·subst hj;rw [hi] at e1;cases e1;rw [ye hiσ] at e2;cases e2;exact ⟨u,r,.inr ⟨.inl hk,c,hc,hc'⟩⟩
   ·rw [jk (Ne.symm hj)] at e2;obtain ⟨u',r',q⟩:=hl j y v' e1 e2 e3;refine ⟨u',r',?_⟩;rcases q with q|⟨k,c',e,z'⟩
    ·exact .inl q
    ·refine .inr ⟨k,c',e,z'.sameBut hs ?_⟩;rintro rfl;exact hj (Ut hN e1 (I.ok.inj _ _ _ e hc ▸ hi))
  ·by_cases hcc:c'=c
   ·subst hcc;exact ⟨_,hc'⟩
   ·obtain ⟨w2,z2⟩:=I.cell y c' e;exact ⟨w2,z2.sameBut hs hcc⟩
  ·obtain ⟨e,n,ne,nf,d⟩:=I.pin p hp;refine ⟨(hs.2 p.1 ?_).trans e,n,ne,nf,d⟩;intro q;rw [q,hoc] at e;have q':oc=p.2:=Option.some.inj e;exact d w' (by rw [← q'];exact hocd)
theorem Kf {M:Model}{A:Around}{E:Value->Shared->Prop}{i:Nat}{x:Str}{v:V}{u:Value}{Q:Unit->Shared->Prop}(I:Inv X pins σ H s) (hN:X.N.Nodup) (hi:X.N[i]?=some x) (hx:Loc X.env.scope x) (r:RelV v u)
  (h:∀ s',Inv X pins (σ.set i (some v)) H s'->Q () s') (hf:X.fn x=true\/X.env.scope.names.lookup x=some .local:=by first | exact .inl rfl | exact .inr rfl | assumption):wpAny M A (storeName X.env x u) Q E s :=
 bC I hN hi hx r (λs' I' _=>h s' I') hf
theorem Inv.call' {s':Shared}{ch:List Addr}(I:Inv X pins σ H s) (ho:s'.os=s.os) (u:Un (frs X.stack) ch H H' s.heap s'.heap) (hok:HOk X.prog X.w H' s'.heap) (hg:AllBare s'.gens)
  (hch:∀ b∈ch,(b∈X.ex\/X.s₀.heap.objs.size<=b)/\b≠X.env.locals/\(∀ x c,X.env.cells.lookup x=some c->c≠b)/\∀ p∈X.pn++pins,p.1≠b):Inv X pins σ H' s':=by
 obtain ⟨h',g',d',t',o'⟩:=s';have e:o'=s.os:=ho;subst e;exact I.call (g':=g') (t':=t') (d':=d') u hok hg hch
end
noncomputable abbrev XK:=Value->Option Addr->Hp->Prop
noncomputable abbrev St:=List (Option V)
noncomputable abbrev VK:=V->Hp->Prop
noncomputable abbrev TE:=St->Hp->VK->Prop
noncomputable abbrev TT:=St->Hp->(Bool->Hp->Prop)->Prop
noncomputable abbrev TA:=St->Hp->(List V->Hp->Prop)->Prop
structure Ends where
 nx:St->Hp->Prop
 rt:VK
 bk:St->Hp->Prop:=λ_ _=>False
 ct:St->Hp->Prop:=λ_ _=>False
noncomputable abbrev TS:=Ends->St->Hp->Prop
noncomputable def EP (X:Cx) (pins:List (Addr×Obj)) (σ:St) (Q:VK) (u:Value) (s':Shared):Prop:=∃ v H',Inv X pins σ H' s'/\RelV v u/\Q v H'
noncomputable def TP (X:Cx) (pins:List (Addr×Obj)) (σ:St) (Q:Bool->Hp->Prop) (b:Bool) (s':Shared):Prop:=∃ H',Inv X pins σ H' s'/\Q b H'
noncomputable def AP (X:Cx) (pins:List (Addr×Obj)) (σ:St) (Q:List V->Hp->Prop) (us:List Value) (s':Shared):Prop:=∃ vs H',Inv X pins σ H' s'/\Vals vs us/\Q vs H'
noncomputable def SP (X:Cx) (pins:List (Addr×Obj)) (D:Ends) (f:Flow) (s':Shared):Prop :=
 match f with
 | .next=>∃ σ' H',Inv X pins σ' H' s'/\D.nx σ' H'
 | .brk=>∃ σ' H',Inv X pins σ' H' s'/\D.bk σ' H'
 | .cont=>∃ σ' H',Inv X pins σ' H' s'/\D.ct σ' H'
 | .ret u=>∃ v σ' H',Inv X pins σ' H' s'/\RelV v u/\D.rt v H'
noncomputable def PE (X:Cx) (e:Expr) (t:TE):Prop :=
 ∀ (pins:List (Addr×Obj)) (s:Shared) (σ:St) (H:Hp) (Q:VK),Inv X pins σ H s->t σ H Q->wpAny (model X.prog X.w) X.A (eval e X.env) (EP X pins σ Q) X.xe s
noncomputable def PT (X:Cx) (e:Expr) (t:TT):Prop :=
 ∀ (pins:List (Addr×Obj)) (s:Shared) (σ:St) (H:Hp) (Q:Bool->Hp->Prop),Inv X pins σ H s->t σ H Q->wpAny (model X.prog X.w) X.A (isTrue e X.env (eval e X.env)) (TP X pins σ Q) X.xe s
noncomputable def PW (X:Cx) (e:Expr) (t:TT):Prop :=
 ∀ (whole:Sem Value) (pins:List (Addr×Obj)) (s:Shared) (σ:St) (H:Hp) (Q:Bool->Hp->Prop),Inv X pins σ H s->t σ H Q->wpAny (model X.prog X.w) X.A (isTrue e X.env whole) (TP X pins σ Q) X.xe s
theorem PW.pt {X:Cx}{e:Expr}{t:TT}(h:PW X e t):PT X e t:=h _
noncomputable def PA (X:Cx) (es:List Expr) (t:TA):Prop :=
 ∀ (pos:Pos) (pins:List (Addr×Obj)) (s:Shared) (σ:St) (H:Hp) (Q:List V->Hp->Prop),Inv X pins σ H s->t σ H Q->wpAny (model X.prog X.w) X.A (spliced (backTo pos (starEach es X.env))) (AP X pins σ Q) X.xe s
noncomputable def PS (X:Cx) (st:Stmt) (t:TS):Prop :=
 ∀ (pins:List (Addr×Obj)) (s:Shared) (σ:St) (H:Hp) (D:Ends),Inv X pins σ H s->t D σ H->wpAny (model X.prog X.w) X.A (exec st X.env) (SP X pins D) X.xe s
noncomputable def PSs (X:Cx) (st:List Stmt) (t:TS):Prop :=
 ∀ (pins:List (Addr×Obj)) (s:Shared) (σ:St) (H:Hp) (D:Ends),Inv X pins σ H s->t D σ H->wpAny (model X.prog X.w) X.A (execs st X.env) (SP X pins D) X.xe s
theorem thn {α:Type}{t:Sem α}{Q Q':α->Shared->Prop}{M:Model}{A:Around}{E:Value->Shared->Prop}{s:Shared}(h:wpAny M A t Q E s) (hQ:∀ a s,Q a s->Q' a s):wpAny M A t Q' E s:=nq h hQ λ_ _ x=>x
section
variable {X:Cx}
noncomputable def bD (i:Nat):TE:=λσ H Q=>∃ v,σ[i]?=some (some v)/\Q v H
noncomputable def tC (v:V):TE:=λ_ H Q=>Q v H
theorem Hf {i:Nat}{x:Str}{pos:Pos}(hN:X.N[i]?=some x) (hv:Vis X.env.scope x) (hd:(x==("__debug__":Str))=false:=by decide) (hcd:(x==("__classdict__":Str))=false:=by decide):PE X (.Name x pos) (bD i):=by
 intro pins s σ H Q I h;obtain ⟨v,e,h⟩:=h;obtain ⟨m,hn,hl⟩:=I.loc;obtain ⟨u,r,l⟩:=hl i x v hN e hv;have fin:EP X pins σ Q u s:=⟨v,H,I,r,h⟩;rcases l with ⟨hk,hm⟩|⟨hk,c,hc,hcell⟩
 ·exact WD (wpAny_loadName_local I.ok.kind hk hn hm fin) hd
 ·rcases hk with hk|hk
  ·exact WD (wpAny_loadName_cell I.ok.kind hk hc hcell fin) hd
  ·exact WD (wpAny_loadName_free I.ok.kind hk hc hcell fin hcd) hd
theorem yP {i j pos}:PE X (.Constant (.int i) j pos) (tC (.int i)):=λ_ _ _ H _ I h=>wpAny_Constant_int ⟨.int i,H,I.tok _,⟨_,rfl⟩,h⟩
theorem Ac5 {b j pos}:PE X (.Constant (.bool b) j pos) (tC (.bl b)):=λ_ _ _ H _ I h=>Constant_bool ⟨.bl b,H,I,rfl,h⟩
theorem yQ {j pos}:PE X (.Constant .none j pos) (tC .non):=λ_ _ _ H _ I h=>Constant_none ⟨.non,H,I,rfl,h⟩
theorem yR {x j pos}:PE X (.Constant (.str x) j pos) (tC (.str x)):=λ_ _ _ H _ I h=>Calls.Constant_str ⟨.str x,H,I.tok _,⟨_,rfl⟩,h⟩
noncomputable def Gl (X:Cx) (x:Str):Prop:=X.env.kindOf x=some .globalImplicit
theorem Kg {E:Value->Shared->Prop}{pins:List (Addr×Obj)}{s:Shared}{σ:St}{H:Hp}{x:Str}{u:Value}{pos:Pos}{Q:Value->Shared->Prop}(I:Inv X pins σ H s) (hg:Gl X x) (hm:X.mg x=some u) (h:Q u s)
  (hd:(x==("__debug__":Str))=false:=by decide):wpAny (model X.prog X.w) X.A (eval (.Name x pos) X.env) Q E s :=
 HS I.ok.kind hg (Calls.loadGlobal_global (by rw [I.ok.glob];exact I.mod.glob.keeps I.bk) hm h) hd
theorem Ie {E:Value->Shared->Prop}{pins:List (Addr×Obj)}{s:Shared}{σ:St}{H:Hp}{x:Str}{u:Value}{pos:Pos}{Q:Value->Shared->Prop}(I:Inv X pins σ H s) (hg:Gl X x) (hm:X.mg x=none) (hv:bootBuiltins x=some u) (h:Q u s)
  (hn:x ≠ "__name__":=by decide) (hd:(x==("__debug__":Str))=false:=by decide):wpAny (model X.prog X.w) X.A (eval (.Name x pos) X.env) Q E s:=by
 obtain ⟨mb,h1,h2⟩:=I.mod.blt;exact HS I.ok.kind hg (Calls.loadGlobal_builtin (by rw [I.ok.glob];exact I.mod.glob.keeps I.bk) hm (by rw [I.ok.blt];exact h1.keeps I.bk) ((h2 x hn).trans hv) h) hd
theorem Hg {x:Str}{v:V}{u:Value}{pos:Pos}(hg:Gl X x) (hm:X.mg x=some u) (r:RelV v u) (hd:(x==("__debug__":Str))=false:=by decide):PE X (.Name x pos) (tC v) :=
 λ_ _ _ H _ I h=>Kg I hg hm ⟨v,H,I,r,h⟩ hd
theorem qQ {x:Str}{v:V}{u:Value}{pos:Pos}(hg:Gl X x) (hm:X.mg x=none) (hv:bootBuiltins x=some u) (r:RelV v u) (hn:x ≠ "__name__":=by decide) (hd:(x==("__debug__":Str))=false:=by decide):PE X (.Name x pos) (tC v) :=
 λ_ _ _ H _ I h=>Ie I hg hm hv ⟨v,H,I,r,h⟩ hn hd
variable {a b:Expr}{ta tb:TE}{pos:Pos}
theorem RelV.none_iff {x:V}{v:Value}(r:RelV x v):(v==Value.none)=decide (x=.non):=by
 cases x with
 | non=>cases r;rfl
 | bl _=>cases r;rfl
 | int _=>obtain ⟨t,rfl⟩:=r;rfl
 | str _=>obtain ⟨t,rfl⟩:=r;rfl
 | byt _=>obtain ⟨t,rfl⟩:=r;rfl
 | flt _=>obtain ⟨t,rfl⟩:=r;rfl
 | ref _=>cases r;rfl
 | ty _=>cases r;rfl
variable {tA tB':TT}{rest:List Expr}
noncomputable def Afb (t u:TT):TT:=λσ H Q=>t σ H λc H1=>if c=true then u σ H1 Q else Q false H1
noncomputable def tOr (t u:TT):TT:=λσ H Q=>t σ H λc H1=>if c=true then Q true H1 else u σ H1 Q
noncomputable def Afc (t:TT):TT:=λσ H Q=>t σ H λc H1=>Q (!c) H1
theorem qR (ha:PT X a tA):PW X (.BoolOp .And [a] pos) tA:=by
 intro wh pins s σ H Q I h;refine isTrue_and (thn (ha pins s σ H Q I h) λc s1 e=>?_);cases c with
 | true=>exact isTrue_and_nil e
 | false=>exact e
theorem yS (ha:PT X a tA):PW X (.BoolOp .Or [a] pos) tA:=by
 intro wh pins s σ H Q I h;refine isTrue_or (thn (ha pins s σ H Q I h) λc s1 e=>?_);cases c with
 | false=>exact isTrue_or_nil e
 | true=>exact e
theorem yU (ha:PT X a tA) (hb:PW X (.BoolOp .And (b::rest) pos) tB'):PW X (.BoolOp .And (a::b::rest) pos) (Afb tA tB'):=by
 intro wh pins s σ H Q I h;refine isTrue_and (thn (ha pins s σ H _ I h) ?_);rintro c s1 ⟨H1,I1,q1⟩;cases c with
 | true=>exact hb wh pins s1 σ H1 Q I1 q1
 | false=>exact ⟨H1,I1,q1⟩
theorem Ac6 (ha:PT X a tA) (hb:PW X (.BoolOp .Or (b::rest) pos) tB'):PW X (.BoolOp .Or (a::b::rest) pos) (tOr tA tB'):=by
 intro wh pins s σ H Q I h;refine isTrue_or (thn (ha pins s σ H _ I h) ?_);rintro c s1 ⟨H1,I1,q1⟩;cases c with
 | true=>exact ⟨H1,I1,q1⟩
 | false=>exact hb wh pins s1 σ H1 Q I1 q1
theorem yV (ha:PT X a tA):PT X (.UnaryOp .Not a pos) (Afc tA):=by
 intro pins s σ H Q I h;exact isTrue_not (ha pins s σ H (λc H1=>Q (!c) H1) I h)
noncomputable def Ac7 (ta tb:TE):TE:=λσ H Q=>ta σ H λx H1=>∃ c,x=.bl c/\if c=true then tb σ H1 Q else Q (.bl false) H1
noncomputable def Afd (ta tb:TE):TE:=λσ H Q=>ta σ H λx H1=>∃ c,x=.bl c/\if c=true then Q (.bl true) H1 else tb σ H1 Q
noncomputable def Ac8 (ta:TE):TE:=λσ H Q=>ta σ H λx H1=>∃ c,x=.bl c/\Q (.bl (!c)) H1
theorem yW {op}{t:TE}(h:PE X a t):PE X (.BoolOp op [a] pos) t:=λpins s σ H Q I hw=>BoolOp_one (h pins s σ H Q I hw)
theorem yX (ha:PE X a ta) (hb:PE X (.BoolOp .And (b::rest) pos) tb):PE X (.BoolOp .And (a::b::rest) pos) (Ac7 ta tb):=by
 intro pins s σ H Q I h;refine BoolOp_and (thn (ha pins s σ H _ I h) ?_);rintro v s1 ⟨x,H1,I1,r1,q1⟩;obtain ⟨c,rfl,q1⟩:=q1;cases r1;refine mq ?_;cases c with
 | true=>exact hb pins s1 σ H1 Q I1 q1
 | false=>exact ⟨.bl false,H1,I1,rfl,q1⟩
theorem Ac9 (ha:PE X a ta) (hb:PE X (.BoolOp .Or (b::rest) pos) tb):PE X (.BoolOp .Or (a::b::rest) pos) (Afd ta tb):=by
 intro pins s σ H Q I h;refine BoolOp_or (thn (ha pins s σ H _ I h) ?_);rintro v s1 ⟨x,H1,I1,r1,q1⟩;obtain ⟨c,rfl,q1⟩:=q1;cases r1;refine mq ?_;cases c with
 | false=>exact hb pins s1 σ H1 Q I1 q1
 | true=>exact ⟨.bl true,H1,I1,rfl,q1⟩
theorem yZ (ha:PE X a ta):PE X (.UnaryOp .Not a pos) (Ac8 ta):=by
 intro pins s σ H Q I h;refine UnaryOp_ (thn (ha pins s σ H _ I h) ?_);rintro v s1 ⟨x,H1,I1,r1,q1⟩;obtain ⟨c,rfl,q1⟩:=q1;cases r1;exact not_of (mq ⟨.bl (!c),H1,I1,rfl,q1⟩)
noncomputable def tIf (t:TT) (ta tb:TE):TE:=λσ H Q=>t σ H λc H1=>if c=true then ta σ H1 Q else tb σ H1 Q
theorem fP {c:Expr}(hc:PT X c tA) (ha:PE X a ta) (hb:PE X b tb):PE X (.IfExp c a b pos) (tIf tA ta tb):=by
 intro pins s σ H Q I h;refine wpAny_IfExp (thn (hc pins s σ H _ I h) ?_);rintro d s1 ⟨H1,I1,q1⟩;cases d with
 | true=>exact ha pins s1 σ H1 Q I1 q1
 | false=>exact hb pins s1 σ H1 Q I1 q1
end
noncomputable def SqL (K:aj) (H:Hp) (a:Addr) (xs:List V):Prop :=
 Rd H a (.lst xs) \/
  ∃ (o:Obj) (its:Array Value) (n:Nat),K.lookup a=some o/\o.cls=.type "list"/\o.dict=none/\o.data=.seq its n/\its.size<=sizeLine/\Vals xs its.toList
noncomputable def SqT (K:aj) (H:Hp) (a:Addr) (xs:List V):Prop :=
 Rd H a (.tup xs) \/
  ∃ (o:Obj) (its:Array Value) (n:Nat),K.lookup a=some o/\o.cls=.type "tuple"/\o.dict=none/\o.data=.seq its n/\its.size<=sizeLine/\Vals xs its.toList
noncomputable def Afe:Value->Option V
 | .none=>some .non
 | .bool b=>some (.bl b)
 | .int i _=>some (.int i)
 | .str x _=>some (.str x)
 | .bytes b _=>some (.byt b)
 | .float b _=>some (.flt b)
 | .ref a=>some (.ref a)
 | .type n=>some (.ty n)
 | _=>none
theorem RelV.abs {x:V}{u:Value}(r:RelV x u):Afe u=some x:=by
 cases x with
 | non=>cases r;rfl
 | bl _=>cases r;rfl
 | int _=>obtain ⟨t,rfl⟩:=r;rfl
 | str _=>obtain ⟨t,rfl⟩:=r;rfl
 | byt _=>obtain ⟨t,rfl⟩:=r;rfl
 | flt _=>obtain ⟨t,rfl⟩:=r;rfl
 | ref _=>cases r;rfl
 | ty _=>cases r;rfl
theorem RelV.inj {x y:V}{u:Value}(r:RelV x u) (q:RelV y u):x=y:=Option.some.inj (r.abs.symm.trans q.abs)
theorem Vals.inj {xs ys:List V}{us:List Value}(a:Vals xs us) (b:Vals ys us):xs=ys:=by
 induction a generalizing ys with
 | nil=>cases b;rfl
 | cons r t ih =>
  cases b with
  | cons r' t'=>rw [r.inj r',ih t']
section
variable {X:Cx}{pins:List (Addr×Obj)}{σ:St}{H:Hp}{s:Shared}{a:Addr}{xs ys:List V}
theorem Inv.list (I:Inv X pins σ H s) (h:SqL X.K H a xs):∃ its:List Value,Vals xs its/\PlainL s.heap a its.toArray/\xs.length<=sizeLine:=by
 rcases h with h|⟨o,its,n,hk,hc,hd,hs,hz,r⟩
 ·obtain ⟨z,its,n,r,e⟩:=h.ok I.hok;exact ⟨its,r,⟨_,n,e,rfl,rfl,rfl⟩,z⟩
 ·refine ⟨its.toList,r,⟨o,n,I.kIn a o hk,hc,hd,by simpa using hs⟩,?_⟩;have e:=r.length;simp only [xj] at e;omega
theorem Inv.tuple (I:Inv X pins σ H s) (h:SqT X.K H a xs):∃ its:List Value,Vals xs its/\IsTup s.heap a its.toArray/\xs.length<=sizeLine:=by
 rcases h with h|⟨o,its,n,hk,hc,hd,hs,hz,r⟩
 ·obtain ⟨z,its,r,p⟩:=h.ok I.hok;exact ⟨its,r,p.to,z⟩
 ·refine ⟨its.toList,r,⟨o,I.kIn a o hk,hc,n,by simpa using hs⟩,?_⟩;have e:=r.length;simp only [xj] at e;omega
theorem Inv.tupleP (I:Inv X pins σ H s) (h:SqT X.K H a xs):∃ its:List Value,Vals xs its/\K9 s.heap a its.toArray/\xs.length<=sizeLine:=by
 rcases h with h|⟨o,its,n,hk,hc,hd,hs,hz,r⟩
 ·obtain ⟨z,its,r,p⟩:=h.ok I.hok;exact ⟨its,r,p,z⟩
 ·refine ⟨its.toList,r,⟨o,I.kIn a o hk,hc,hd,n,by simpa using hs⟩,?_⟩;have e:=r.length;simp only [xj] at e;omega
theorem Inv.list_inj (I:Inv X pins σ H s) (h:SqL X.K H a xs) (h':SqL X.K H a ys):xs=ys:=by
 obtain ⟨its,r,⟨o,n,e,_,_,d⟩,_⟩:=I.list h;obtain ⟨its',r',⟨o',n',e',_,_,d'⟩,_⟩:=I.list h';rw [e] at e';cases e';rw [d] at d';injection d' with d1 _
 have:its=its':=by simpa using congrArg Array.toList d1
 subst this;exact r.inj r'
theorem Inv.tuple_inj (I:Inv X pins σ H s) (h:SqT X.K H a xs) (h':SqT X.K H a ys):xs=ys:=by
 obtain ⟨its,r,⟨o,e,_,n,d⟩,_⟩:=I.tuple h;obtain ⟨its',r',⟨o',e',_,n',d'⟩,_⟩:=I.tuple h';rw [e] at e';cases e';rw [d] at d';injection d' with d1 _
 have:its=its':=by simpa using congrArg Array.toList d1
 subst this;exact r.inj r'
end
noncomputable abbrev Cx.wish (X:Cx) (E:Value->Shared->Prop):Cx:={ X with xe:=E }
noncomputable abbrev Cx.nox (X:Cx):Cx:=X.wish λ_ _=>False
theorem Cx.Ok.wish {X:Cx}(ok:X.Ok) (E:Value->Shared->Prop):(X.wish E).Ok :=
 ⟨ok.mod,ok.kind,ok.glob,ok.blt,ok.above,ok.inj,ok.has,ok.cab,ok.hd,ok.frames,ok.stk,ok.exf,ok.bs,ok.bsz,ok.noex,ok.exfs,ok.funs,ok.frf⟩
theorem Cx.Ok.unwish {X:Cx}{E:Value->Shared->Prop}(ok:(X.wish E).Ok):X.Ok :=
 ⟨ok.mod,ok.kind,ok.glob,ok.blt,ok.above,ok.inj,ok.has,ok.cab,ok.hd,ok.frames,ok.stk,ok.exf,ok.bs,ok.bsz,ok.noex,ok.exfs,ok.funs,ok.frf⟩
section
variable {X:Cx}{pins:List (Addr×Obj)}{σ:St}{H:Hp}{s:Shared}{E:Value->Shared->Prop}
theorem Inv.wish (I:Inv X pins σ H s) (E:Value->Shared->Prop):Inv (X.wish E) pins σ H s:=⟨I.ok.wish E,I.os,I.bare,I.base,I.loc,I.cell,I.free,I.freeC,I.pin,I.hok,I.len⟩
theorem Inv.unwish (I:Inv (X.wish E) pins σ H s):Inv X pins σ H s:=⟨I.ok.unwish,I.os,I.bare,I.base,I.loc,I.cell,I.free,I.freeC,I.pin,I.hok,I.len⟩
theorem SP.unwish {D:Ends}{f:Flow}{s':Shared}(h:SP (X.wish E) pins D f s'):SP X pins D f s':=by
 cases f with
 | next=>obtain ⟨σ',H',I,q⟩:=h;exact ⟨σ',H',I.unwish,q⟩
 | brk=>obtain ⟨σ',H',I,q⟩:=h;exact ⟨σ',H',I.unwish,q⟩
 | cont=>obtain ⟨σ',H',I,q⟩:=h;exact ⟨σ',H',I.unwish,q⟩
 | ret u=>obtain ⟨v,σ',H',I,r,q⟩:=h;exact ⟨v,σ',H',I.unwish,r,q⟩
theorem PSs.nox {st:List Stmt}{t:TS}(h:PSs X.nox st t):PSs X st t:=λpins s σ H D I hw =>
 nq (h pins s σ H D (I.wish _) hw) (λ_ _ q=>q.unwish) λ_ _ z=>False.elim z
end
section
variable {X:Cx}{st:Stmt}{rest:List Stmt}{t u:TS}{e:Expr}{te:TE}{pos:Pos}
noncomputable def xK:TS:=λD σ H=>D.nx σ H
noncomputable def Afg (t u:TS):TS:=λD σ H=>t { D with nx:=u D } σ H
theorem Rx:PSs X [] xK:=λ_ _ σ H _ I h=>MF ⟨σ,H,I,h⟩
theorem G3 (h1:PS X st t) (h2:PSs X rest u):PSs X (st::rest) (Afg t u):=by
 intro pins s σ H D I h;refine CV (thn (h1 pins s σ H { D with nx:=u D } I h) λf s1 q=>?_);cases f with
 | next =>
  obtain ⟨σ',H',I',q⟩:=q;exact h2 pins s1 σ' H' D I' q
 | ret v=>exact q
 | brk=>exact q
 | cont=>exact q
noncomputable def zA:TS:=λD σ H=>D.bk σ H
noncomputable def Ada:TS:=λD σ H=>D.ct σ H
theorem qT:PS X (.Pass pos) xK:=λ_ _ σ H _ I h=>wpAny_Pass ⟨σ,H,I,h⟩
theorem fQ:PS X (.Break pos) zA:=λ_ _ σ H _ I h=>wpAny_Break ⟨σ,H,I,h⟩
theorem Uu:PS X (.Continue pos) Ada:=λ_ _ σ H _ I h=>wpAny_Continue ⟨σ,H,I,h⟩
theorem Inv.quiet {pins:List (Addr×Obj)}{σ:St}{H:Hp}{s:Shared}(I:Inv X pins σ H s):interactive X.env=false:=by simp [interactive,I.ok.kind]
noncomputable def Adb (te:TE):TS:=λD σ H=>te σ H λ_ H1=>D.nx σ H1
theorem qU (he:PE X e te) (hs:swapsWith e none pos.line X.env=pure false:=by rfl):PS X (.Expr e pos) (Adb te):=by
 intro pins s σ H D I h;exact wpAny_Expr_any (thn (he pins s σ H _ I h) λv s1 ⟨x,H1,I1,r1,q1⟩=>⟨σ,H1,I1,q1⟩) I.quiet hs
noncomputable def Afh (te:TE):TS:=λD σ H=>te σ H D.rt
theorem zB (he:PE X e te):PS X (.Return (some e) pos) (Afh te):=by
 intro pins s σ H D I h;refine wpAny_Return_some (thn (he pins s σ H _ I h) ?_);rintro v s1 ⟨x,H1,I1,r1,q1⟩;exact ⟨x,σ,H1,I1,r1,q1⟩
noncomputable def Adc:TS:=λD _ H=>D.rt .non H
theorem qW:PS X (.Return none pos) Adc:=λ_ _ σ H _ I h=>wpAny_Return_none ⟨.non,σ,H,I,rfl,h⟩
noncomputable def Afi (c:TT) (t u:TS):TS:=λD σ H=>c σ H λb H1=>if b=true then t D σ H1 else u D σ H1
theorem Ade {c:Expr}{a b:List Stmt}{tc:TT}(hc:PT X c tc) (ha:PSs X a t) (hb:PSs X b u):PS X (.If c a b pos) (Afi tc t u):=by
 intro pins s σ H D I h;refine wpAny_If (thn (hc pins s σ H _ I h) ?_);rintro d s1 ⟨H1,I1,q1⟩;cases d with
 | true=>exact ha pins s1 σ H1 D I1 q1
 | false=>exact hb pins s1 σ H1 D I1 q1
end
noncomputable abbrev TG:=V->St->Hp->(St->Hp->Prop)->Prop
noncomputable abbrev TGs:=List V->St->Hp->(St->Hp->Prop)->Prop
noncomputable def PG (X:Cx) (target:Expr) (t:TG):Prop :=
 ∀ (pins:List (Addr×Obj)) (s:Shared) (σ:St) (H:Hp) (v:V) (u:Value) (Q:St->Hp->Prop),Inv X pins σ H s->RelV v u->t v σ H Q ->
  wpAny (model X.prog X.w) X.A (assign target X.env u) (λ_ s'=>∃ σ' H',Inv X pins σ' H' s'/\Q σ' H') X.xe s
noncomputable def PGs (X:Cx) (ts:List Expr) (t:TGs):Prop :=
 ∀ (pins:List (Addr×Obj)) (s:Shared) (σ:St) (H:Hp) (vs:List V) (us:List Value) (Q:St->Hp->Prop),Inv X pins σ H s->Vals vs us->t vs σ H Q ->
  wpAny (model X.prog X.w) X.A (assignInOrder ((assignEach ts X.env).map (·.2)) us) (λ_ s'=>∃ σ' H',Inv X pins σ' H' s'/\Q σ' H') X.xe s
noncomputable abbrev zE:=V->V->V->Hp->(Hp->Prop)->Prop
noncomputable def Adf (X:Cx) (t:zE):Prop :=
 ∀ (pins:List (Addr×Obj)) (s:Shared) (σ:St) (H:Hp) (o i v:V) (ov iv u:Value) (Q:Hp->Prop),Inv X pins σ H s->RelV o ov->RelV i iv->RelV v u->t o i v H Q ->
  wpAny (model X.prog X.w) X.A (setItem ov iv u) (λ_ s'=>∃ H',Inv X pins σ H' s'/\Q H') X.xe s
section
variable {X:Cx}{pos:Pos}
noncomputable def fU (i:Nat):TG:=λv σ H Q=>Q (σ.set i (some v)) H
theorem Y0 {i:Nat}{x:Str}(hN:X.N.Nodup) (hi:X.N[i]?=some x) (hx:Loc X.env.scope x) (hf:X.fn x=true\/X.env.scope.names.lookup x=some .local:=by first | exact .inl rfl | exact .inr rfl | assumption):PG X (.Name x pos) (fU i):=by
 intro pins s σ H v u Q I r h;exact wpAny_assign_Name (Kf I hN hi hx r (λs' I'=>⟨_,H,I',h⟩) hf)
noncomputable def Adg:TGs:=λvs σ H Q=>vs=[]/\Q σ H
noncomputable def xM (t:TG) (u:TGs):TGs:=λvs σ H Q=>∃ v r,vs=v::r/\t v σ H λσ' H'=>u r σ' H' Q
theorem qX:PGs X [] Adg:=by
 intro pins s σ H vs us Q I r h;obtain ⟨e,h⟩:=h;subst e;cases r;exact UL ⟨σ,H,I,h⟩
theorem fV {e:Expr}{es:List Expr}{t:TG}{u:TGs}(h1:PG X e t) (h2:PGs X es u)
  (hs:(assignEach (e::es) X.env).map (·.2)=assign e X.env::(assignEach es X.env).map (·.2):=by rfl):PGs X (e::es) (xM t u):=by
 intro pins s σ H vs us Q I r h;obtain ⟨v,vr,e1,h⟩:=h;subst e1;cases r with
 | cons r rr =>
  rw [hs];refine GR (thn (h1 pins s σ H _ _ _ I r h) ?_);rintro _ s1 ⟨σ1,H1,I1,q1⟩;exact h2 pins s1 σ1 H1 _ _ Q I1 rr q1
noncomputable def Afj (K:aj) (n:Nat) (t:TGs):TG:=λv σ H Q=>∃ a xs,v=.ref a/\SqT K H a xs/\xs.length=n/\t xs σ H Q
theorem zF {es:List Expr}{k:Nat}{t:TGs}{n:Nat}(hc:X.calm=true) (h:PGs X es t)
  (hn:(assignEach es X.env).length=n:=by rfl) (hst:(assignEach es X.env).findIdx? (·.1)=none:=by rfl):PG X (.Tuple es k pos) (Afj X.K n t):=by
 intro pins s σ H v u Q I r hw;obtain ⟨a,xs,e1,hq,hl,hw⟩:=hw;subst e1;cases r;obtain ⟨its,rv,ht,hz⟩:=I.tuple hq;refine assign_Tuple_tuple (I.ok.hd hc) ht (by simp [hn,← hl,rv.length]) hst λh' hx=>?_
 have I1:Inv X pins σ H { s with heap:=h' }:=I.kept (t':=s.toks) λb o e=>hx b o (cj (Heap.lt_size e)) e
 exact h pins _ σ H xs _ Q I1 (by simpa using rv) hw
noncomputable def Afk (to ti:TE) (t:zE):TG:=λv σ H Q=>to σ H λo H1=>ti σ H1 λi H2=>t o i v H2 λH3=>Q σ H3
theorem zG {o i:Expr}{to ti:TE}{t:zE}(ho:PE X o to) (hi:PE X i ti) (hs:Adf X t)
  (ha:∀ v,assign (.Subscript o i pos) X.env v=(do
   let ov ← holding [v] (eval o X.env)
   let iv ← holding [v,ov] (eval i X.env)
   standAt pos
   holding [v,ov,iv] (setItem ov iv v)
   release [v,ov,iv] []):=by intro _;rfl):PG X (.Subscript o i pos) (Afk to ti t):=by
 intro pins s σ H v u Q I r h;rw [ha];refine ak (sy (thn (ho pins s σ H _ I h) ?_));rintro ov s1 ⟨x,H1,I1,r1,q1⟩;refine ak (sy (thn (hi pins s1 σ H1 _ I1 q1) ?_));rintro iv s2 ⟨y,H2,I2,r2,q2⟩;refine ak (HW (ak (sy (thn (hs pins s2 σ H2 x y v ov iv u _ I2 r1 r2 r q2) ?_))));rintro _ s3 ⟨H3,I3,q3⟩;exact wpAny_release ⟨σ,H3,I3,q3⟩
noncomputable def zH (te:TE) (g:TG):TS:=λD σ H=>te σ H λx H1=>g x σ H1 D.nx
theorem zJ {tg e:Expr}{te:TE}{g:TG}(he:PE X e te) (hg:PG X tg g) (hs:swapsWithSole [tg] e pos.line X.env=pure false:=by rfl) (hw:swappedStores [tg] e X.env=pure none:=by rfl)
  (h1:(assignEach [tg] X.env).map (·.2)=[assign tg X.env]:=by rfl):PS X (.Assign [tg] e pos) (zH te g):=by
 intro pins s σ H D I h;refine wpAny_Assign_stores (thn (he pins s σ H _ I h) ?_) hs hw;rintro v s1 ⟨x,H1,I1,r1,q1⟩;rw [h1];exact thn (hg pins s1 σ H1 x v _ I1 r1 q1) λ_ s2 q=>q
noncomputable def Afl (i j:Nat) (ta:TA):TS:=λD σ H=>ta σ H λvs H1=>∃ v w,vs=[v,w]/\D.nx ((σ.set i (some v)).set j (some w)) H1
theorem zK {i j:Nat}{x y:Str}{a b:Expr}{ta:TA}{px py pt:Pos}{kt k2 pt2}(hc:X.calm=true) (hN:X.N.Nodup) (hi:X.N[i]?=some x) (hj:X.N[j]?=some y) (hij:i≠j)
  (hx:X.env.scope.names.lookup x=some .local) (hy:X.env.scope.names.lookup y=some .local) (ha:PA X [a,b] ta)
  (hw:swappedStores [.Tuple [.Name x px,.Name y py] kt pt] (.Tuple [a,b] k2 pt2) X.env=pure (some [x,y]))
  (hs:swapsWithSole [.Tuple [.Name x px,.Name y py] kt pt] (.Tuple [a,b] k2 pt2) pos.line X.env=pure false:=by rfl) :
  PS X (.Assign [.Tuple [.Name x px,.Name y py] kt pt] (.Tuple [a,b] k2 pt2) pos) (Afl i j ta):=by
 intro pins s σ H D I h;rw [exec_Assign_arm];refine ak (HW ?_);rw [hs];refine ak (bf ?_);rw [if_neg (by decide)];refine ak (Tuple_ (thn (ha _ pins s σ H _ I h) ?_));rintro us s1 ⟨vs,H1,I1,r1,q1⟩;obtain ⟨v,w,e1,q1⟩:=q1;subst e1;obtain ⟨u1,u2,rfl,rv,rw'⟩:∃ u1 u2,us=[u1,u2]/\RelV v u1/\RelV w u2:=by
  cases r1 with
  | cons p q =>
   cases q with
   | cons p' q' =>
    cases q';exact ⟨_,_,rfl,p,p'⟩
 refine jy ?_ (by show 2<=sizeLine;decide)
 have I2:Inv X pins σ H1 { s1 with heap:=s1.heap.push { cls:=.type "tuple",data:=.seq [u1,u2].toArray } }:=I1.kept (t':=s1.toks) λb o e=>ao _ e
 rw [hw];refine ak (bf ?_)
 show wpAny (model X.prog X.w) X.A (do rule "assign.swapped-stores";let items ← unpackItems (.ref s1.heap.objs.size) 2 none;assignInOrder [λv=>bindName X.env y v,λv=>bindName X.env x v] items.reverse;pure Flow.next) _ _ _;refine ak (EY (ak (unpackItems_tuple (items:=#[u1,u2]) (I.ok.hd hc) (IsTup.new s1.heap _) λh' hx'=>?_)));have I3:=I2.kept (h':=h') (t':=s1.toks) λb o e=>hx' b o (cj (Heap.lt_size e)) e
 show wpAny _ _ (assignInOrder [λv=>bindName X.env y v,λv=>bindName X.env x v] [u2,u1] >>= λ_=>pure Flow.next) _ _ _;refine ak (GR (wpAny_bindName (Kf I3 hN hj (.inl hy) rw' (λs2 I4=>?_) (.inr hy))));refine GR (wpAny_bindName (Kf I4 hN hi (.inl hx) rv (λs3 I5=>UL (bf ?_)) (.inr hx)));rw [List.set_comm _ _ (Ne.symm hij)] at I5;exact ⟨_,H1,I5,q1⟩
end
section
variable {X:Cx}{pos:Pos}
noncomputable def zL (c:TT) (tb:TS):TS:=λD σ H=>∃ W:Nat->St->Hp->Prop,(∃ m,W m σ H)/\∀ m σ H,W m σ H ->
 c σ H λb H1=>if b=true then ∃ N:St->Hp->Prop,(∀ σ' H',N σ' H'->∃ m',m' < m/\W m' σ' H')/\tb { D with nx:=N,ct:=N,bk:=D.nx } σ H1 else D.nx σ H1
theorem fW {c:Expr}{body:List Stmt}{tc:TT}{tb:TS}(hp:PassesOwn (model X.prog X.w) X.A X.env X.xe) (hc:PT X c tc) (hb:PSs X body tb):PS X (.While c body [] pos) (zL tc tb):=by
 intro pins s σ H D I h;obtain ⟨W,⟨m0,w0⟩,turn⟩:=h;refine wpAny_While (codeAny_whileLoop (λn s'=>∃ σ' H',Inv X pins σ' H' s'/\W n σ' H') ?_ m0 ⟨σ,H,I,w0⟩);rintro n s1 ⟨σ1,H1,I1,w1⟩;refine uw hp (thn (hc pins s1 σ1 H1 _ I1 (turn n σ1 H1 w1)) ?_);rintro b s2 ⟨H2,I2,q2⟩;cases b with
 | true =>
  obtain ⟨N,hN,q2⟩:=q2;rw [if_pos rfl];refine uw hp (thn (hb pins s2 σ1 H2 _ I2 q2) λf s3 q3=>?_);cases f with
  | next =>
   obtain ⟨σ3,H3,I3,n3⟩:=q3;obtain ⟨m',hm,w3⟩:=hN σ3 H3 n3;exact ⟨m',hm,σ3,H3,I3,w3⟩
  | cont =>
   obtain ⟨σ3,H3,I3,n3⟩:=q3;obtain ⟨m',hm,w3⟩:=hN σ3 H3 n3;exact ⟨m',hm,σ3,H3,I3,w3⟩
  | brk=>exact q3
  | ret v=>exact q3
 | false =>
  rw [if_neg iu];exact MF ⟨σ1,H2,I2,q2⟩
end
structure It where
 go:Nat->Hp->Prop
 yld:Nat->Hp->V->Hp->Prop
 stop:Nat->Hp->Prop
noncomputable def Kh (X:Cx) (pins:List (Addr×Obj)) (H:Hp) (b:Addr):Prop :=
 H b=none/\b≠X.env.locals/\b ∉ X.fs/\(b∈X.ex\/X.s₀.heap.objs.size<=b)/\(∀ x c,X.env.cells.lookup x=some c->c≠b)/\∀ p∈X.pn++pins,p.1≠b
theorem Inv.fpOk {X:Cx}{pins:List (Addr×Obj)}{σ:St}{H H':Hp}{s:Shared}{b:Addr}(I:Inv X pins σ H s) (hb:s.heap.objs.size<=b) (hn:H' b=none):Kh X pins H' b:=by
 refine ⟨hn,jo (di I.lt hb),I.nofs hb,.inr (jg I.sz hb),λx c e z=>?_,λp hp z=>?_⟩
 ·obtain ⟨v,q⟩:=I.cell x c e;exact absurd (di q.lt (by rw [z];exact hb)) (jj _)
 ·exact absurd (di (Heap.lt_size (I.pin p hp).1) (by rw [z];exact hb)) (jj _)
structure Turn (P:Program) (w:World) (K:aj) (tg:Expr) (J:It) (fp:List Addr) (it:Addr) (tn:Nat->Heap->Prop):Prop where
 mem:it∈fp
 obj:∀ i h,tn i h->∀ b∈fp,∃ o,h.get? b=some o/\∀ v,o.data≠.cell v
 keep:∀ i h h',tn i h->(∀ b∈fp,∀ o,h.get? b=some o->h'.get? b=some o)->tn i h'
 item:∀ (X:Cx),X.prog=P->X.w=w->X.K=K->X.calm=true->∀ (i:Nat) (pins:List (Addr×Obj)) (s:Shared) (σ:St) (H:Hp) (E:Value->Shared->Prop),Inv X pins σ H s->(∀ b∈fp,Kh X pins H b)->tn i s.heap->J.go i H ->
  wpAny (model P w) X.A (pyNext (.ref it)) (λr s1=>∃ u,r=some u /\
   wpAny (model P w) X.A (letOwnedTupleGo tg (.ref it) u) (λ_ s2=>∃ x H',Inv X pins σ H' s2/\RelV x u/\J.yld i H x H'/\tn (i+1) s2.heap/\∀ b∈fp,H' b=none) E s1) E s
 done:∀ (X:Cx),X.prog=P->X.w=w->X.K=K->X.calm=true->∀ (i:Nat) (pins:List (Addr×Obj)) (s:Shared) (σ:St) (H:Hp) (E:Value->Shared->Prop),Inv X pins σ H s->(∀ b∈fp,Kh X pins H b)->tn i s.heap->J.stop i H ->
  wpAny (model P w) X.A (pyNext (.ref it)) (λr s1=>r=none/\Inv X pins σ H s1) E s
 self:∀ (A:Around) (i:Nat) (s:Shared) (Q:Value->Shared->Prop) (E:Value->Shared->Prop),tn i s.heap->Q (.ref it) s->wpAny (model P w) A (pyIter (.ref it)) Q E s
noncomputable abbrev TI:=St->Hp->(It->Hp->Prop)->Prop
noncomputable def PIE (X:Cx) (pins:List (Addr×Obj)) (σ:St) (tg:Expr) (R:It->Hp->Prop) (itv:Value) (s2:Shared):Prop :=
 ∃ (it:Addr) (fp:List Addr) (tn:Nat->Heap->Prop) (J:It) (H':Hp),itv=.ref it/\Inv X pins σ H' s2/\Turn X.prog X.w X.K tg J fp it tn/\tn 0 s2.heap/\(∀ b∈fp,Kh X pins H' b)/\R J H'
noncomputable def PI (X:Cx) (tg iter:Expr) (wi:TI):Prop :=
 ∀ (pins:List (Addr×Obj)) (s:Shared) (σ:St) (H:Hp) (R:It->Hp->Prop),Inv X pins σ H s->wi σ H R ->
  wpAny (model X.prog X.w) X.A (eval iter X.env) (λv s1=>wpAny (model X.prog X.w) X.A (pyIter v) (PIE X pins σ tg R) X.xe s1) X.xe s
theorem fX {M:Model}{A:Around}{E:Value->Shared->Prop}{s:Shared}{tg:Expr}{it:Addr}{u:Value}{o:Obj}{n:String}{vs:Array Value}{Q:Unit->Shared->Prop}(ho:s.heap.get? it=some o) (hc:o.cls=.type n) (hd:o.data=.fields vs)
    (hn:["enumerate", "zip", "dict_itemiterator", "dict_reverseitemiterator", "odict_iterator", "itertools.zip_longest", "itertools.pairwise"].contains n=false) (hQ:Q () s):wpAny M A (letOwnedTupleGo tg (.ref it) u) Q E s:=by
  unfold letOwnedTupleGo;cases tg <;> first
    | exact bf hQ
    | (cases u <;> first
        | exact bf hQ
        | (refine ak (WK ho ?_)
           rw [hc,hd]
           show wpAny M A (if (["enumerate", "zip", "dict_itemiterator", "dict_reverseitemiterator", "odict_iterator", "itertools.zip_longest", "itertools.pairwise"].contains n&&vs[0]?==some (rawInt _))=true then _ else _) Q E s;rw [if_neg (by intro h;rw [hn,Bool.false_and] at h;cases h)]
           exact bf hQ))
noncomputable def Itl (K:aj) (a:Addr):It :=
 ⟨λi H=>∃ xs x,SqL K H a xs/\xs[i]?=some x,λi H x H'=>H'=H/\∀ xs,SqL K H a xs->xs[i]?=some x,λi H=>∃ xs,SqL K H a xs/\xs.length<=i⟩
noncomputable def Itt (K:aj) (a:Addr):It :=
 ⟨λi H=>∃ xs x,SqT K H a xs/\xs[i]?=some x,λi H x H'=>H'=H/\∀ xs,SqT K H a xs->xs[i]?=some x,λi H=>∃ xs,SqT K H a xs/\xs.length<=i⟩
noncomputable def Itr (lo:Int) (n:Nat):It:=⟨λi _=>i < n,λi H x H'=>H'=H/\x=.int (lo+i),λi _=>n<=i⟩
theorem bF {P:Program}{w:World}{K:aj}{tg:Expr}(a it:Addr):Turn P w K tg (Itl K a) [it] it (λi h=>h.IsListIter it a i) where
 mem:=by simp
 obj:=λi h st b hb=>by
  have e:b=it:=by simpa using hb
  subst e;obtain ⟨o,e,c,d⟩:=st;exact ⟨o,e,λv z=>by rw [d] at z;cases z⟩
 keep:=λi h h' st k=>st.at λo e=>k it (by simp) o e
 item:=by
  intro X hP hw hK hc i pins s σ H E I hf st hg;subst hP hw hK;obtain ⟨xs,x,hq,hx⟩:=hg;obtain ⟨its,rv,p,hz⟩:=I.list hq;obtain ⟨u,hu,ru⟩:=rv.get hx;obtain ⟨f0,f1,f2,f3,f4,f5⟩:=hf it (by simp);refine wpAny_pyNext_list_item st p.isList (x:=u) (by simpa using hu) λh' st' sb=>?_
  have I1:Inv X pins σ H { s with heap:=h' }:=I.turned (t':=s.toks) (λb o hb e=>(sb.2 b hb).trans e) f0 f1 f3 f4 f5;obtain ⟨o,e,c,d⟩:=id st';exact ⟨u,rfl,fX (s:={ s with heap:=h' }) e c d (by decide) ⟨x,H,I1,ru,⟨rfl,λys hy=>by rw [I.list_inj hy hq];exact hx⟩,st',λb hb=>(hf b hb).1⟩⟩
 done:=by
  intro X hP hw hK hc i pins s σ H E I hf st hg;subst hP hw hK;obtain ⟨xs,hq,hx⟩:=hg;obtain ⟨its,rv,p,hz⟩:=I.list hq;obtain ⟨f0,f1,f2,f3,f4,f5⟩:=hf it (by simp);have hl:=rv.length;exact wpAny_pyNext_list_end (I.ok.hd hc) st p.isList (by simp;omega) λh' eb=>⟨rfl,I.turned (t':=s.toks) (λb o hb e=>eb b o hb e) f0 f1 f3 f4 f5⟩
 self:=λ_ _ _ _ _ st h=>wpAny_pyIter_listiter st h
theorem Ws {P:Program}{w:World}{K:aj}{tg:Expr}(a it:Addr):Turn P w K tg (Itt K a) [it] it (λi h=>h.IsTupleIter it a i) where
 mem:=by simp
 obj:=λi h st b hb=>by
  have e:b=it:=by simpa using hb
  subst e;obtain ⟨o,e,c,d⟩:=st;exact ⟨o,e,λv z=>by rw [d] at z;cases z⟩
 keep:=λi h h' st k=>st.at λo e=>k it (by simp) o e
 item:=by
  intro X hP hw hK hc i pins s σ H E I hf st hg;subst hP hw hK;obtain ⟨xs,x,hq,hx⟩:=hg;obtain ⟨its,rv,p,hz⟩:=I.tuple hq;obtain ⟨u,hu,ru⟩:=rv.get hx;obtain ⟨f0,f1,f2,f3,f4,f5⟩:=hf it (by simp);refine wpAny_pyNext_tuple_item st (show s.heap.IsTuple a its.toArray from p) (x:=u) (by simpa using hu) λh' st' sb=>?_
  have I1:Inv X pins σ H { s with heap:=h' }:=I.turned (t':=s.toks) (λb o hb e=>(sb.2 b hb).trans e) f0 f1 f3 f4 f5;obtain ⟨o,e,c,d⟩:=id st';exact ⟨u,rfl,fX (s:={ s with heap:=h' }) e c d (by decide) ⟨x,H,I1,ru,⟨rfl,λys hy=>by rw [I.tuple_inj hy hq];exact hx⟩,st',λb hb=>(hf b hb).1⟩⟩
 done:=by
  intro X hP hw hK hc i pins s σ H E I hf st hg;subst hP hw hK;obtain ⟨xs,hq,hx⟩:=hg;obtain ⟨its,rv,p,hz⟩:=I.tuple hq;obtain ⟨f0,f1,f2,f3,f4,f5⟩:=hf it (by simp);have hl:=rv.length;exact wpAny_pyNext_tuple_end (I.ok.hd hc) st (show s.heap.IsTuple a its.toArray from p) (by simp;omega) λh' eb=>⟨rfl,I.turned (t':=s.toks) (λb o hb e=>eb b o hb e) f0 f1 f3 f4 f5⟩
 self:=λ_ _ _ _ _ st h=>wpAny_pyIter_tupleiter st h
theorem Wt {P:Program}{w:World}{K:aj}{tg:Expr}(it:Addr) (lo:Int) (n:Nat):Turn P w K tg (Itr lo n) [it] it (λi h=>IsRangeIter h it (lo+(i:Nat) * 1) ((n:Int) - (i:Nat)) 1) where
 mem:=by simp
 obj:=λi h st b hb=>by
  have e:b=it:=by simpa using hb
  subst e
  exact ⟨_,st,λv z=>by
   have z':Data.fields _=Data.cell v:=z
   cases z'⟩
 keep:=λi h h' st k=>k it (by simp) _ st
 item:=by
  intro X hP hw hK hc i pins s σ H E I hf st hg;subst hP hw hK;obtain ⟨f0,f1,f2,f3,f4,f5⟩:=hf it (by simp);have W:=Walks.range (prog:=X.prog) (w:=X.w) (I.ok.hd hc) it lo 1 n;refine W.item i s _ _ hg st λv h' tk hv st' kk=>?_
  obtain ⟨t,rfl⟩:=hv;have I1:Inv X pins σ H { s with heap:=h',toks:=tk }:=I.turned (λb o hb e=>kk b o (by simpa using hb) e) f0 f1 f3 f4 f5
  refine ⟨_,rfl,fX (s:={ s with heap:=h',toks:=tk }) (n := "range_iterator") st' rfl rfl (by decide) ⟨.int (lo+i),H,I1,⟨t,?_⟩,⟨rfl,rfl⟩,st',λb hb=>(hf b hb).1⟩⟩;rw [Int.mul_one]
 done:=by
  intro X hP hw hK hc i pins s σ H E I hf st hg;subst hP hw hK;obtain ⟨f0,f1,f2,f3,f4,f5⟩:=hf it (by simp);exact wpAny_pyNext_range_end (I.ok.hd hc) st (by have:n<=i:=hg;omega) λh' eb=>⟨rfl,I.turned (t':=s.toks) (λb o hb e=>eb b o hb e) f0 f1 f3 f4 f5⟩
 self:=λ_ _ _ _ _ st h=>wpAny_pyIter_rangeiter st h
section
variable {X:Cx}{tg:Expr}
noncomputable def Adh (K:aj) (tl:TE):TI:=λσ H R=>tl σ H λx H1=>∃ a,x=.ref a/\(∃ xs,SqL K H1 a xs)/\R (Itl K a) H1
noncomputable def Afm (K:aj) (tl:TE):TI:=λσ H R=>tl σ H λx H1=>∃ a,x=.ref a/\(∃ xs,SqT K H1 a xs)/\R (Itt K a) H1
theorem Y4 {l:Expr}{tl:TE}(hl:PE X l tl):PI X tg l (Adh X.K tl):=by
 intro pins s σ H R I h;refine thn (hl pins s σ H _ I h) ?_;rintro v s1 ⟨x,H1,I1,r1,q1⟩;obtain ⟨a,e,⟨xs,hq⟩,q⟩:=q1;subst e;cases r1;obtain ⟨its,rv,p,hz⟩:=I1.list hq;refine JB p.isList ?_;refine ⟨s1.heap.objs.size,[s1.heap.objs.size],_,_,H1,rfl,I1.kept (t':=s1.toks) λb o e=>ao _ e,bF a _,⟨_,bh _ rfl,rfl,rfl⟩,λb hb=>?_,q⟩;have e:b=s1.heap.objs.size:=by simpa using hb
 subst e;exact I1.fpOk (bx _) (I1.hok.fresh (bx _))
theorem zM {l:Expr}{tl:TE}(hl:PE X l tl):PI X tg l (Afm X.K tl):=by
 intro pins s σ H R I h;refine thn (hl pins s σ H _ I h) ?_;rintro v s1 ⟨x,H1,I1,r1,q1⟩;obtain ⟨a,e,⟨xs,hq⟩,q⟩:=q1;subst e;cases r1;obtain ⟨its,rv,p,hz⟩:=I1.tuple hq;refine yd (show s1.heap.IsTuple a its.toArray from p) ?_;refine ⟨s1.heap.objs.size,[s1.heap.objs.size],_,_,H1,rfl,I1.kept (t':=s1.toks) λb o e=>ao _ e,Ws a _,⟨_,bh _ rfl,rfl,rfl⟩,λb hb=>?_,q⟩;have e:b=s1.heap.objs.size:=by simpa using hb
 subst e;exact I1.fpOk (bx _) (I1.hok.fresh (bx _))
theorem fY {pins:List (Addr×Obj)}{σ:St}{H:Hp}{s:Shared}{R:It->Hp->Prop}{E:Value->Shared->Prop}{lo hi:Int}{t u v:Tok}{tk:Nat}(I:Inv X pins σ H s) (h1:-(2 ^ 62)<=lo) (h2:lo < 2 ^ 62) (h3:-(2 ^ 62)<=hi) (h4:hi < 2 ^ 62)
  (q:R (Itr lo (hi - lo).toNat) H):wpAny (model X.prog X.w) X.A (pyIter (.ref s.heap.objs.size)) (PIE X pins σ tg R) E { s with heap:=s.heap.push { cls:=.type "range",data:=.fields #[.int lo t,.int hi u,.int 1 v] },toks:=tk }:=by
 refine wpAny_pyIter_range (IsRange.new ..) (small_one h1 h2 h3 h4) ?_
 have I1:Inv X pins σ H { s with heap:=s.heap.push { cls:=.type "range",data:=.fields #[.int lo t,.int hi u,.int 1 v] },toks:=tk }:=I.kept λb o e=>ao _ e
 refine ⟨(s.heap.push { cls:=.type "range",data:=.fields #[.int lo t,.int hi u,.int 1 v] }).objs.size,[(s.heap.push { cls:=.type "range",data:=.fields #[.int lo t,.int hi u,.int 1 v] }).objs.size],_,_,H,rfl,
  I1.kept (t':=tk) λb o e=>ao _ e,Wt _ lo (hi - lo).toNat,?_,λb hb=>?_,q⟩
 ·have e1:lo+((0:Nat):Int) * 1=lo:=by simp
  have e2:(((hi - lo).toNat:Nat):Int) - ((0:Nat):Int)=tu lo hi 1:=by rw [rangeSize_one];split <;> omega
  show IsRangeIter _ _ (lo+((0:Nat):Int) * 1) ((((hi - lo).toNat:Nat):Int) - ((0:Nat):Int)) 1;rw [e1,e2];exact bh _ rfl
 ·have e:b=(s.heap.push { cls:=.type "range",data:=.fields #[.int lo t,.int hi u,.int 1 v] }).objs.size:=by simpa using hb
  subst e;exact I1.fpOk (bx _) (I1.hok.fresh (bx _))
noncomputable def Adi (ta:TA):TI:=λσ H R=>ta σ H λvs H1=>∃ j:Int,vs=[.int j]/\-(2 ^ 62)<=j/\j < 2 ^ 62/\R (Itr 0 j.toNat) H1
theorem bG {a:Expr}{ta:TA}{p pos:Pos}(hg:Gl X "range") (hm:X.mg "range"=none) (ha:PA X [a] ta) (hs:starEach [a] X.env=[(false,eval a X.env)]:=by rfl):PI X tg (.Call (.Name "range" p) [a] [] pos) (Adi ta):=by
 intro pins s σ H R I h;refine Call_ (Ie I hg hm WL (PyProof.Rows.callWith_type1 (thn (ha pos pins s σ H _ I h) ?_) hs rfl));rintro us s1 ⟨vs,H1,I1,r1,q1⟩;obtain ⟨j,e,q1,q2,q⟩:=q1;subst e;cases r1 with
 | cons r rr =>
  cases rr;obtain ⟨t,rfl⟩:=r;exact call_range_1 (fY I1 (by omega) (by omega) q1 q2 (by simpa using q))
noncomputable def Afn (wi:TI) (g:TG) (tb:TS):TS:=λD σ H=>wi σ H λJ H1=>∃ W:Nat->Nat->St->Hp->Prop,(∃ m,W 0 m σ H1)/\∀ i m σ H,W i m σ H ->
 (J.stop i H/\D.nx σ H)\/(J.go i H/\∃ N:St->Hp->Prop,(∀ σ' H',N σ' H'->∃ m',m' < m/\W (i+1) m' σ' H')/\∀ x H',J.yld i H x H'->g x σ H' λσ2 H2=>tb { D with nx:=N,ct:=N,bk:=D.nx } σ2 H2)
noncomputable def Jw (fp:List Addr) (h:Heap):List (Addr×Obj):=fp.filterMap λb=>(h.get? b).map λo=>(b,o)
theorem Hh {fp:List Addr}{h:Heap}{b:Addr}{o:Obj}(hb:b∈fp) (e:h.get? b=some o):(b,o)∈Jw fp h:=RV.mpr ⟨b,hb,by rw [e];rfl⟩
theorem Qq {fp:List Addr}{h:Heap}{p:Addr×Obj}(hp:p∈Jw fp h):p.1∈fp/\h.get? p.1=some p.2:=by
 obtain ⟨b,hb,e⟩:=RV.mp hp;cases q:h.get? b with
 | none=>rw [q] at e;cases e
 | some o =>
  rw [q] at e;have e':(b,o)=p:=Option.some.inj e;subst e';exact ⟨hb,q⟩
theorem Inv.pinned {pins:List (Addr×Obj)}{σ:St}{H:Hp}{s:Shared}{fp:List Addr}(I:Inv X pins σ H s) (hf:∀ b∈fp,Kh X pins H b) (ho:∀ b∈fp,∃ o,s.heap.get? b=some o/\∀ v,o.data≠.cell v):Inv X (pins++Jw fp s.heap) σ H s :=
 I.pins_of λp hp=>(ju.mp hp).elim (λz=>I.pin p (gk _ z)) λz=>by
  obtain ⟨hb,e⟩:=Qq z;obtain ⟨f0,f1,f2,_⟩:=hf p.1 hb;obtain ⟨o,e',d⟩:=ho p.1 hb;rw [e] at e';cases e';exact ⟨e,f0,f1,f2,d⟩
theorem Inv.unpinned {pins pl:List (Addr×Obj)}{σ:St}{H:Hp}{s:Shared}(I:Inv X (pins++pl) σ H s):Inv X pins σ H s:=I.pins_of λp hp=>I.pin p (gk _ (DY _ hp))
theorem zN {iter:Expr}{body:List Stmt}{wi:TI}{g:TG}{tb:TS}{pos:Pos}(hp:PassesOwn (model X.prog X.w) X.A X.env X.xe) (hc:X.calm=true) (hi:PI X tg iter wi) (hg:PG X tg g) (hb:PSs X body tb)
  (hs:∀ x,foldedSetIterable iter X.env x=pure x:=by intro _;rfl):PS X (.For tg iter body [] pos) (Afn wi g tb):=by
 intro pins s σ H D I h;refine wpAny_For (thn (hi pins s σ H _ I h) λv s1 h1=>thn h1 λitv s2 h2=>?_) hs;obtain ⟨it,fp,tn,J,H2,e,I2,T,st2,f2,W,⟨m0,w0⟩,turn⟩:=h2;subst e
 -- what stays true of the iterator's objects through the loop
 have stat:∀ {H':Hp},(∀ b∈fp,H' b=none)->∀ b∈fp,Kh X pins H' b:=λhn b hb=>⟨hn b hb,(f2 b hb).2⟩
 refine codeAny_forLoop_any (λn s'=>∃ i σ' H',Inv X pins σ' H' s'/\tn i s'.heap/\(∀ b∈fp,H' b=none)/\W i n σ' H') ?_ m0 ⟨0,σ,H2,I2,st2,λb hb=>(f2 b hb).1,w0⟩;rintro n s3 ⟨i,σ3,H3,I3,st3,fr3,w3⟩;rcases turn i n σ3 H3 w3 with ⟨stop,qn⟩|⟨go,N,hN,step⟩
 ·refine uw hp (thn (T.done X rfl rfl rfl hc i pins s3 σ3 H3 X.xe I3 (stat fr3) st3 stop) ?_);rintro r s4 ⟨hr,I4⟩;subst hr;exact MF ⟨σ3,H3,I4,qn⟩
 ·refine uw hp (thn (T.item X rfl rfl rfl hc i pins s3 σ3 H3 X.xe I3 (stat fr3) st3 go) ?_);rintro r s4 ⟨u,hr,h4⟩;subst hr;refine uw hp (thn h4 ?_);rintro _ s5 ⟨x,H5,I5,r5,y5,st5,fr5⟩;have I5':=I5.pinned (stat fr5) (T.obj _ _ st5);refine uw hp (thn (hg _ s5 σ3 H5 x u _ I5' r5 (step x H5 y5)) ?_);rintro _ s6 ⟨σ6,H6,I6,q6⟩;refine uw hp (thn (hb _ s6 σ6 H6 _ I6 q6) λf s7 q7=>?_);have again:∀ {σ7:St} {H7:Hp},Inv X (pins++Jw fp s5.heap) σ7 H7 s7->N σ7 H7->∃ m,m < n/\∃ i σ' H',Inv X pins σ' H' s7/\tn i s7.heap/\(∀ b∈fp,H' b=none)/\W i m σ' H':=λ{σ7 H7} I7 n7=>by
   obtain ⟨m',hm,w7⟩:=hN σ7 H7 n7;refine ⟨m',hm,i+1,σ7,H7,I7.unpinned,T.keep _ _ _ st5 λb hb o e=>(I7.pin (b,o) (gk _ (gk _ (Hh hb e)))).1,λb hb=>?_,w7⟩;obtain ⟨o,e,d⟩:=T.obj _ _ st5 b hb;exact (I7.pin (b,o) (gk _ (gk _ (Hh hb e)))).2.1
  cases f with
  | next=>obtain ⟨σ7,H7,I7,n7⟩:=q7;exact again I7 n7
  | cont=>obtain ⟨σ7,H7,I7,n7⟩:=q7;exact again I7 n7
  | brk=>obtain ⟨σ7,H7,I7,q7⟩:=q7;exact ⟨σ7,H7,I7.unpinned,q7⟩
  | ret v=>obtain ⟨x7,σ7,H7,I7,r7,q7⟩:=q7;exact ⟨x7,σ7,H7,I7.unpinned,r7,q7⟩
end
noncomputable abbrev R2:=V->V->Hp->VK->Prop
noncomputable def OpR (X:Cx) (f:Value->Value->Sem Value) (r:R2):Prop :=
 ∀ (pins:List (Addr×Obj)) (s:Shared) (σ:St) (H:Hp) (x y:V) (v u:Value) (Q:VK),Inv X pins σ H s->RelV x v->RelV y u->r x y H Q ->
  wpAny (model X.prog X.w) X.A (f v u) (EP X pins σ Q) X.xe s
noncomputable def UnR (X:Cx) (f:Value->Sem Value) (r:V->Hp->VK->Prop):Prop :=
 ∀ (pins:List (Addr×Obj)) (s:Shared) (σ:St) (H:Hp) (x:V) (v:Value) (Q:VK),Inv X pins σ H s->RelV x v->r x H Q ->
  wpAny (model X.prog X.w) X.A (f v) (EP X pins σ Q) X.xe s
noncomputable def Ay (X:Cx) (f:Value) (r:List V->Hp->VK->Prop):Prop :=
 ∀ (pins:List (Addr×Obj)) (s:Shared) (σ:St) (H:Hp) (xs:List V) (us:List Value) (Q:VK),Inv X pins σ H s->Vals xs us->r xs H Q ->
  wpAny (model X.prog X.w) X.A (call f us) (EP X pins σ Q) X.xe s
noncomputable def Afo (X:Cx) (r:V->Hp->(Bool->Hp->Prop)->Prop):Prop :=
 ∀ (pins:List (Addr×Obj)) (s:Shared) (σ:St) (H:Hp) (x:V) (v:Value) (Q:Bool->Hp->Prop),Inv X pins σ H s->RelV x v->r x H Q ->
  wpAny (model X.prog X.w) X.A (truthy v) (TP X pins σ Q) X.xe s
noncomputable def tOp (r:R2) (ta tb:TE):TE:=λσ H Q=>ta σ H λx H1=>tb σ H1 λy H2=>r x y H2 Q
noncomputable def tUn (r:V->Hp->VK->Prop) (ta:TE):TE:=λσ H Q=>ta σ H λx H1=>r x H1 Q
noncomputable def rI (C:Int->Int->Prop) (g:Int->Int->V):R2:=λx y H Q=>∃ i j,x=.int i/\y=.int j/\C i j/\Q (g i j) H
noncomputable def rI0 (g:Int->Int->V):R2:=λx y H Q=>∃ i j,x=.int i/\y=.int j/\Q (g i j) H
noncomputable def rU (g:Int->V):V->Hp->VK->Prop:=λx H Q=>∃ i,x=.int i/\Q (g i) H
section
variable {X:Cx}{a b c:Expr}{ta tb tc:TE}{pos:Pos}
theorem zO (ha:PE X a ta) (hb:PE X b tb) {pins:List (Addr×Obj)}{s:Shared}{σ:St}{H:Hp}{R:V->V->Hp->Prop}(I:Inv X pins σ H s)
  (h:ta σ H λx H1=>tb σ H1 λy H2=>R x y H2) {Q:Value->Shared->Prop} {f:Value->Value->Sem Value}
  (hf:∀ v u s2 x y H2,Inv X pins σ H2 s2->RelV x v->RelV y u->R x y H2->wpAny (model X.prog X.w) X.A (f v u) Q X.xe s2) :
  wpAny (model X.prog X.w) X.A (eval a X.env) (λv s₁=>wpAny (model X.prog X.w) X.A (eval b X.env) (λu s₂=>wpAny (model X.prog X.w) X.A (f v u) Q X.xe s₂) X.xe s₁) X.xe s:=by
 refine thn (ha pins s σ H _ I h) ?_;rintro v s1 ⟨x,H1,I1,r1,q1⟩;refine thn (hb pins s1 σ H1 _ I1 q1) ?_;rintro u s2 ⟨y,H2,I2,r2,q2⟩;exact hf v u s2 x y H2 I2 r1 r2 q2
theorem Adj {op:Operator}{r:R2}(ho:OpR X (binaryOp op) r) (ha:PE X a ta) (hb:PE X b tb):PE X (.BinOp a op b pos) (tOp r ta tb):=by
 intro pins s σ H Q I h;exact wpAny_BinOp (zO ha hb I h λv u s2 x y H2 I2 rx ry q=>ho pins s2 σ H2 x y v u Q I2 rx ry q)
theorem Adk {op:UnaryOp}{r:V->Hp->VK->Prop}(ho:UnR X (unaryOp op) r) (ha:PE X a ta):PE X (.UnaryOp op a pos) (tUn r ta):=by
 intro pins s σ H Q I h;refine UnaryOp_ (thn (ha pins s σ H _ I h) ?_);rintro v s1 ⟨x,H1,I1,r1,q1⟩;exact ho pins s1 σ H1 x v Q I1 r1 q1
theorem opI {f:Value->Value->Sem Value}{C:Int->Int->Prop}{g:Int->Int->Int}
  (rule:∀ (i j:Int) (t u:Tok) (s:Shared) (Q:Value->Shared->Prop) (E:Value->Shared->Prop),C i j->Q (.int (g i j) s.toks) { s with toks:=s.toks+1 }->wpAny (model X.prog X.w) X.A (f (.int i t) (.int j u)) Q E s) :
  OpR X f (rI C λi j=>.int (g i j)):=by
 intro pins s σ H x y v u Q I rx ry h;obtain ⟨i,j,rfl,rfl,hc,q⟩:=h;obtain ⟨t,rfl⟩:=rx;obtain ⟨t',rfl⟩:=ry;exact rule i j t t' s _ _ hc ⟨.int (g i j),H,I.tok _,⟨_,rfl⟩,q⟩
theorem Adl {f:Value->Value->Sem Value}{g:Int->Int->Int}
  (rule:∀ (i j:Int) (t u:Tok) (s:Shared) (Q:Value->Shared->Prop) (E:Value->Shared->Prop),Q (.int (g i j) s.toks) { s with toks:=s.toks+1 }->wpAny (model X.prog X.w) X.A (f (.int i t) (.int j u)) Q E s) :
  OpR X f (rI0 λi j=>.int (g i j)):=by
 intro pins s σ H x y v u Q I rx ry h;obtain ⟨i,j,rfl,rfl,q⟩:=h;obtain ⟨t,rfl⟩:=rx;obtain ⟨t',rfl⟩:=ry;exact rule i j t t' s _ _ ⟨.int (g i j),H,I.tok _,⟨_,rfl⟩,q⟩
theorem qY {f:Value->Value->Sem Value}{g:Int->Int->Bool}
  (rule:∀ (i j:Int) (t u:Tok) (s:Shared) (Q:Value->Shared->Prop) (E:Value->Shared->Prop),Q (.bool (g i j)) s->wpAny (model X.prog X.w) X.A (f (.int i t) (.int j u)) Q E s) :
  OpR X f (rI0 λi j=>.bl (g i j)):=by
 intro pins s σ H x y v u Q I rx ry h;obtain ⟨i,j,rfl,rfl,q⟩:=h;obtain ⟨t,rfl⟩:=rx;obtain ⟨t',rfl⟩:=ry;exact rule i j t t' s _ _ ⟨.bl (g i j),H,I,rfl,q⟩
noncomputable def Afp (i j:Int):Prop:=0<=j/\j<=1000000/\i.natAbs < 2 ^ 64
noncomputable def zP (i j:Int):Prop:=(-(2 ^ 64) < i/\i < 2 ^ 64)\/(-(2 ^ 64) < j/\j < 2 ^ 64)
theorem zP.ok {i j:Int}(h:zP i j):IntMulOk i j:=by
 rcases h with ⟨h1,h2⟩|⟨h1,h2⟩
 ·exact .of_left (intBits_le_64 h1 h2)
 ·exact .of_right (intBits_le_64 h1 h2)
theorem zQ:OpR X (binaryOp .Add) (rI0 λi j=>.int (i+j)):=Adl λ_ _ _ _ _ _ _ q=>add_int q
theorem zR:OpR X (binaryOp .Sub) (rI0 λi j=>.int (i - j)):=Adl λ_ _ _ _ _ _ _ q=>sub_int q
theorem zT:OpR X (binaryOp .Mult) (rI zP λi j=>.int (i * j)):=opI λ_ _ _ _ _ _ _ hc q=>mul_int q hc.ok
theorem qZ:OpR X (binaryOp .Mod) (rI (λ_ j=>j≠0) λi j=>.int (i.fmod j)):=opI λ_ _ _ _ _ _ _ hc q=>mod_int' hc q
theorem zU:OpR X (binaryOp .Pow) (rI Afp λi j=>.int (i ^ j.toNat)):=opI λ_ _ _ _ _ _ _ hc q=>pow_int_small hc.1 hc.2.1 hc.2.2 q
theorem unI {f:Value->Sem Value}{g:Int->Int}
  (rule:∀ (i:Int) (t:Tok) (s:Shared) (Q:Value->Shared->Prop) (E:Value->Shared->Prop),Q (.int (g i) s.toks) { s with toks:=s.toks+1 }->wpAny (model X.prog X.w) X.A (f (.int i t)) Q E s) :
  UnR X f (rU λi=>.int (g i)):=by
 intro pins s σ H x v Q I rx h;obtain ⟨i,rfl,q⟩:=h;obtain ⟨t,rfl⟩:=rx;exact rule i t s _ _ ⟨.int (g i),H,I.tok _,⟨_,rfl⟩,q⟩
theorem zV:UnR X (unaryOp .USub) (rU λi=>.int (-i)):=unI λ_ _ _ _ _ q=>neg_int q
end
section
variable {X:Cx}{a b c:Expr}{ta tb tc:TE}{pos:Pos}
theorem Adm:OpR X (compareOp .Lt) (rI0 λi j=>.bl (decide (i < j))):=qY λ_ _ _ _ _ _ _ q=>lt_int q
theorem Adn:OpR X (compareOp .LtE) (rI0 λi j=>.bl (decide (i<=j))):=qY λ_ _ _ _ _ _ _ q=>le_int q
theorem Ado:OpR X (compareOp .Gt) (rI0 λi j=>.bl (decide (j < i))):=qY λ_ _ _ _ _ _ _ q=>gt_int q
theorem Adp:OpR X (compareOp .GtE) (rI0 λi j=>.bl (decide (j<=i))):=qY λ_ _ _ _ _ _ _ q=>ge_int q
theorem OpR.or {f:Value->Value->Sem Value}{r r':R2}(h:OpR X f r) (h':OpR X f r'):OpR X f (λx y H Q=>r x y H Q\/r' x y H Q):=by
 intro pins s σ H x y v u Q I rx ry q;rcases q with q|q
 ·exact h pins s σ H x y v u Q I rx ry q
 ·exact h' pins s σ H x y v u Q I rx ry q
theorem Ry {op:CmpOp}{r:R2}(ho:OpR X (compareOp op) r) (ha:PE X a ta) (hb:PE X b tb) (hm:behindInMarks op b=false):PE X (.Compare a [op] [b] pos) (tOp r ta tb):=by
 intro pins s σ H Q I h;exact wpAny_Compare1 (zO ha hb I h λv u s2 x y H2 I2 rx ry q=>ho pins s2 σ H2 x y v u Q I2 rx ry q) hm
noncomputable def fZ (t:TE):TT:=λσ H Q=>t σ H λx H'=>∃ k,x=.bl k/\Q k H'
theorem Rz {op:CmpOp}{r:R2}(ho:OpR X (compareOp op) r) (ha:PE X a ta) (hb:PE X b tb) (hm:behindInMarks op b=false):PT X (.Compare a [op] [b] pos) (fZ (tOp r ta tb)):=by
 intro pins s σ H Q I h
 refine wpAny_isTrue_Compare1 (thn (ha pins s σ H _ I h) λv s1 ⟨x,H1,I1,r1,q1⟩=>thn (hb pins s1 σ H1 _ I1 q1) λu s2 ⟨y,H2,I2,r2,q2⟩ =>
  thn (ho pins s2 σ H2 x y v u _ I2 r1 r2 q2) λc s3 ⟨z,H3,I3,r3,k,e,q3⟩=>?_) hm
 subst e;cases r3;exact mq ⟨H3,I3,q3⟩
noncomputable def Wu (r r':R2) (ta tb tc:TE):TE:=λσ H Q=>ta σ H λx H1=>tb σ H1 λy H2=>r x y H2 λz H3=>∃ k,z=.bl k /\
 (if k=true then tc σ H3 λw' H4=>r' y w' H4 Q else Q (.bl false) H3)
theorem gA {op op':CmpOp}{r r':R2}(ho:OpR X (compareOp op) r) (ho':OpR X (compareOp op') r') (ha:PE X a ta) (hb:PE X b tb) (hc:PE X c tc)
  (hm:lastMarks [op,op'] [b,c]=false:=by with_unfolding_all rfl):PE X (.Compare a [op,op'] [b,c] pos) (Wu r r' ta tb tc):=by
 intro pins s σ H Q I h
 refine Compare_chain (thn (ha pins s σ H _ I h) λv s1 ⟨x,H1,I1,r1,q1⟩=>chain_link (thn (hb pins s1 σ H1 _ I1 q1) λu s2 ⟨y,H2,I2,r2,q2⟩ =>
  thn (ho pins s2 σ H2 x y v u _ I2 r1 r2 q2) λd s3 ⟨z,H3,I3,r3,k,e,q3⟩=>?_)) hm
 subst e;cases r3;refine mq ?_;cases k with
 | false=>exact ite_ff ⟨.bl false,H3,I3,rfl,q3⟩
 | true=>exact ite_tt (chain_last (thn (hc pins s3 σ H3 _ I3 q3) λw' s4 ⟨z',H4,I4,r4,q4⟩=>ho' pins s4 σ H4 y z' u w' Q I4 r2 r4 q4))
theorem gB {op op':CmpOp}{r r':R2}(ho:OpR X (compareOp op) r) (ho':OpR X (compareOp op') r') (ha:PE X a ta) (hb:PE X b tb) (hc:PE X c tc)
  (hm:lastMarks [op,op'] [b,c]=false:=by with_unfolding_all rfl):PT X (.Compare a [op,op'] [b,c] pos) (fZ (Wu r r' ta tb tc)):=by
 intro pins s σ H Q I h
 refine isTrue_chain (thn (ha pins s σ H _ I h) λv s1 ⟨x,H1,I1,r1,q1⟩=>test_link (thn (hb pins s1 σ H1 _ I1 q1) λu s2 ⟨y,H2,I2,r2,q2⟩ =>
  thn (ho pins s2 σ H2 x y v u _ I2 r1 r2 q2) λd s3 ⟨z,H3,I3,r3,k,e,q3⟩=>?_)) hm
 subst e;cases r3;refine mq ?_;cases k with
 | false =>
  obtain ⟨k',e',q'⟩:=q3;cases e';exact ite_ff ⟨H3,I3,q'⟩
 | true =>
  refine ite_tt (test_last (thn (hc pins s3 σ H3 _ I3 q3) ?_));rintro w' s4 ⟨z',H4,I4,r4,q4⟩;refine thn (ho' pins s4 σ H4 y z' u w' _ I4 r2 r4 q4) ?_;rintro d' s5 ⟨z2,H5,I5,r5,k2,e2,q5⟩;subst e2;cases r5;exact mq ⟨H5,I5,q5⟩
noncomputable def zW (K:aj) (x:V) (H:Hp) (k:Bool):Prop :=
 match x with
 | .non=>k=false
 | .bl b=>k=b
 | .int i=>k=(i != 0)
 | .str y=>y.length<=sizeLine/\k=((y.length:Int) != 0)
 | .byt y=>y.size<=sizeLine/\k=((y.size:Int) != 0)
 | .ref p=>(∃ xs,SqL K H p xs/\k=!xs.isEmpty)\/(∃ xs,SqT K H p xs/\k=!xs.isEmpty)\/∃ kvs,H p=some (.dK kvs)/\k=!kvs.isEmpty
 | _=>False
theorem Wv {κ:Type}{kvs:List (κ×V)}{vs:List (κ×Value)}(r:KV kvs vs):(!vs.isEmpty)=!kvs.isEmpty:=by
 cases r <;> rfl
theorem Oc {xs:List V}{its:List Value}(r:Vals xs its):(!its.toArray.isEmpty)=!xs.isEmpty:=by
 cases r <;> simp
theorem Jx:(sizeLine:Nat) < 2 ^ 63:=by rw [ji];decide
theorem zX:Afo X (λx H Q=>∃ k,zW X.K x H k/\Q k H):=by
 intro pins s σ H x v Q I rx h;obtain ⟨k,e,q⟩:=h;have hl:=Jx;have hs:sizeLine=16777216:=ji;cases x with
 | non =>
  cases rx;have e':k=false:=e;subst e';exact truthy_none ⟨H,I,q⟩
 | bl b =>
  cases rx;have e':k=b:=e;subst e';exact mq ⟨H,I,q⟩
 | int i =>
  obtain ⟨t,rfl⟩:=rx;have e':k=(i != 0):=e;subst e';exact PySem.P.truthy_int ⟨H,I,q⟩
 | str y =>
  obtain ⟨t,rfl⟩:=rx;obtain ⟨hy,e'⟩:y.length<=sizeLine/\k=((y.length:Int) != 0):=e;subst e';exact PySem.P.truthy_str (by omega) ⟨H,I.tok _,q⟩
 | byt y =>
  obtain ⟨t,rfl⟩:=rx;obtain ⟨hy,e'⟩:y.size<=sizeLine/\k=((y.size:Int) != 0):=e;subst e';exact PySem.W.truthy_bytes (by omega) ⟨H,I.tok _,q⟩
 | ref p =>
  cases rx;have e':(∃ xs,SqL X.K H p xs/\k=!xs.isEmpty)\/(∃ xs,SqT X.K H p xs/\k=!xs.isEmpty)\/∃ kvs,H p=some (.dK kvs)/\k=!kvs.isEmpty:=e;rcases e' with ⟨xs,hx,e'⟩|⟨xs,hx,e'⟩|⟨kvs,hx,e'⟩
  ·subst e';obtain ⟨its,r,pl,hz⟩:=I.list hx;have hlen:=r.length;exact wpAny_truthy_list pl.isList (by simp only [cg];omega) ⟨H,I.tok _,by rw [Oc r];exact q⟩
  ·subst e';obtain ⟨its,r,pl,hz⟩:=I.tuple hx;have hlen:=r.length;exact truthy_tuple pl (by simp only [cg];omega) ⟨H,I.tok _,by rw [Oc r];exact q⟩
  ·subst e';obtain ⟨hz,hS,vs,r,m⟩:kvs.length<=sizeLine/\(p==sysModules)=false/\∃ vs,KV kvs vs/\s.heap.DictOf (Bs X.prog X.w) p vs:=I.hok p _ hx;have hlen:kvs.length=vs.length:=Paired.length r;exact wpAny_truthy_dict hS m (by omega) ⟨H,I.tok _,by rw [Wv r];exact q⟩
 | _=>exact (show False from e).elim
theorem gC (ha:PE X a ta) (he:∀ whole,isTrue a X.env whole=(do let v ← whole;standAt a.pos;holding [v] (truthy v))) :
  PT X a (λσ H Q=>ta σ H λx H'=>∃ k,zW X.K x H' k/\Q k H'):=by
 intro pins s σ H Q I h;exact isTrue_plain (thn (ha pins s σ H _ I h) λv s1 ⟨x,H1,I1,r1,q1⟩=>zX pins s1 σ H1 x v Q I1 r1 q1) (he _)
theorem Ww:OpR X (binaryOp .Add) (λx y H Q=>∃ i j,x=.str i/\y=.str j/\i.length+j.length<=sizeLine/\Q (.str (i++j)) H):=by
 intro pins s σ H x y v u Q I rx ry h;obtain ⟨i,j,rfl,rfl,hz,q⟩:=h;obtain ⟨t,rfl⟩:=rx;obtain ⟨t',rfl⟩:=ry;exact add_str (λt' tk=>⟨.str (i++j),H,I.tok _,⟨_,rfl⟩,q⟩) hz
theorem vals1 {x:V}{us:List Value}(r:Vals [x] us):∃ u,us=[u]/\RelV x u:=by
 cases r with
 | cons r1 r2=>cases r2;exact ⟨_,rfl,r1⟩
theorem vals2 {x y:V}{us:List Value}(r:Vals [x,y] us):∃ u w',us=[u,w']/\RelV x u/\RelV y w':=by
 cases r with
 | cons r1 r2 =>
  cases r2 with
  | cons r3 r4=>cases r4;exact ⟨_,_,rfl,r1,r3⟩
theorem bH (hc:X.calm=true):Ay X (.builtin "max") (λxs H Q=>∃ i j,xs=[.int i,.int j]/\Q (.int (if j > i then j else i)) H):=by
 intro pins s σ H xs us Q I r h;obtain ⟨i,j,rfl,q⟩:=h;obtain ⟨u,w',rfl,⟨t,rfl⟩,⟨t',rfl⟩⟩:=vals2 r;refine max_two_ints (I.ok.hd hc) λh' tk k=>⟨_,H,I.kept k,?_,q⟩
 by_cases hj:j > i
 ·rw [if_pos hj,if_pos hj];exact ⟨_,rfl⟩
 ·rw [if_neg hj,if_neg hj];exact ⟨_,rfl⟩
theorem bI (hc:X.calm=true):Ay X (.builtin "min") (λxs H Q=>∃ i j,xs=[.int i,.int j]/\Q (.int (if j < i then j else i)) H):=by
 intro pins s σ H xs us Q I r h;obtain ⟨i,j,rfl,q⟩:=h;obtain ⟨u,w',rfl,⟨t,rfl⟩,⟨t',rfl⟩⟩:=vals2 r;refine min_two_ints (I.ok.hd hc) λh' tk k=>⟨_,H,I.kept k,?_,q⟩
 by_cases hj:j < i
 ·rw [if_pos hj,if_pos hj];exact ⟨_,rfl⟩
 ·rw [if_neg hj,if_neg hj];exact ⟨_,rfl⟩
end
structure ObjM (h:Heap) (x dx C:Addr) (mA:Str->Option Value):Prop where
 obj:h.get? x=some (qy C dx)
 ns:h.Ns1 dx mA
 ne:dx≠x
theorem bJ {h:Heap}{dx:Addr}{mA:Str->Option Value}(n:h.Ns1 dx mA):∃ od,h.get? dx=some od/\∀ name,GJ name od=some (mA name):=by
 obtain ⟨o,es,ep,ho,hd,hk,_,hm⟩:=n;refine ⟨o,ho,λname=>?_⟩;have e:=hm name;unfold nsFind findBy at e;rw [← RW] at e;unfold GJ;rw [hd];dsimp only;split
 ·rename_i y q;rw [q] at e;exact congrArg some e
 ·rename_i q;rw [q] at e;have a:es.toList.any (·.refKey)=false:=by
   rw [List.any_eq_false];intro y hy;obtain ⟨z,t,hkey⟩:=hk y (Array.mem_toList_iff.mp hy);simp [DictEntry.refKey,hkey]
  have a':¬ es.toList.any (·.refKey)=true:=by rw [a];exact iu
  rw [if_neg a'];exact congrArg some e
theorem ObjM.look {h:Heap}{x dx C:Addr}{mA:Str->Option Value}(I:ObjM h x dx C mA):∃ od,PySem.W.InstAt h x (qy C dx) C (some od)/\∀ name,GJ name od=some (mA name) :=
 let ⟨od,ho,hl⟩:=bJ I.ns
 ⟨od,⟨I.obj,rfl,rfl,ho⟩,hl⟩
section
variable {prog:Program}{w:World}{A:Around}{E:Value->Shared->Prop}{s:Shared}{K:aj}{x dx C f:Addr}{mA:Str->Option Value}{name:Str}{v:Value}
theorem get_map {expr:Bool}{Q:Value->Shared->Prop}(X:K.In s.heap) (I:ObjM s.heap x dx C mA) (hg:uc K C name=true) (hh:vg K C=true)
  (ha:kh K (.ref C) name=some none) (hv:mA name=some v) (hv':PySem.W.handedIn v=true) (h:Q v { s with toks:=s.toks+1 }) :
  wpAny (model prog w) A (getAttr (.ref x) name expr) Q E s:=by
 obtain ⟨od,J,hl⟩:=I.look;exact PySem.W.get_value X J (GD hg).1 (PySem.W.findObj_own hh ha rfl (by rw [hl,hv])) hv' h
theorem gD {pl:Sem Bool}{Q:Value×List Value->Shared->Prop}(X:K.In s.heap) (I:ObjM s.heap x dx C mA) (hg:uc K C name=true)
  (hf:kh K (.ref C) name=some (some (.ref f))) (ht:zu K (.ref f)=true) (hv:mA name=none) (h:Q (.ref f,[.ref x]) s) :
  wpAny (model prog w) A (getMethod (.ref x) name pl) Q E s:=by
 obtain ⟨od,J,hl⟩:=I.look;exact PySem.W.method_fn X J (GD hg).1 (GD hg).2 hf (beq_iff_eq.mp ht) (by show (GJ name od).map (·.isSome)=some false;rw [hl,hv];rfl) h
theorem rA {ns:List Str}{Q:Unit->Shared->Prop}(X:K.In s.heap) (I:ObjM s.heap x dx C mA)
  (hs:kh K (.ref C) "__setattr__"=some (some (.builtin "object.__setattr__"))) (hp:yg K C=true) (ht:MJ K C name=some none) (hh:vg K C=true)
  (hw:RT mA ns) (hsz:ns.length<=sizeLine)
  (h:∀ h',ObjM h' x dx C (λy=>if y=name then some v else mA y)->vz dx s.heap h'->Q () { s with heap:=h',toks:=s.toks+2 }) :
  wpAny (model prog w) A (setAttr (.ref x) name v) Q E s:=by
 obtain ⟨od,J,hl⟩:=I.look;refine PySem.W.set_plain X J hs (PySem.W.osa_open (s:={ s with toks:=s.toks+1 }) (r:=none) X J hp ht λb=>?_);obtain ⟨cd,hc,hd'⟩:=PySem.W.any_some hh;have hx:s.heap.get? x=some ⟨.ref C,some dx,.plain,#[]⟩:=I.obj;refine ak (bf (ak (ak (wpAny_loadPart hx (ak (PySem.W.Looks.here (s:={ s with toks:=s.toks+1 }) (PySem.W.looks_clsIn X hc) ?_))))));rw [hd'];refine bf (a:=some dx) (ak (bf (ak ?_)));refine wpAny_nsSet1 (s:={ s with toks:=s.toks+1 }) I.ns λh' hn2 hs2=>?_
 obtain ⟨oD,esD,epD,hoD,hdD,hcD⟩:=hn2.count (PySem.Within.cons name v hw);refine ak (wpAny_lookBehind hoD (by rw [hdD];exact pastItsLine_dict (jg hcD (by rw [fj];omega))) ?_);exact bf (h _ ⟨(hs2.2 _ (Ne.symm I.ne)).trans I.obj,hn2,I.ne⟩ hs2)
theorem gF {R:Result->Shared->Prop}{vs:List Value}{kw:List (Str×Value)}(X:K.In s.heap) (hm:zc K C=true)
    (hi:kh K (.ref C) "__init__"=some (some (.ref f))) (hf:PySem.W.typeIn K (.ref f)=some (.type "function"))
    (h:codeAny (model prog w) (A.under (.builtin "type.__call__" ⟨.ref C::vs,kw⟩)) (.call (.ref f) ⟨.ref (s.heap.objs.size+1)::vs,kw⟩) (PySem.W.InitBack (s.heap.objs.size+1) R)
      { s with heap:=(s.heap.push ni).push (qy C s.heap.objs.size) }) :
    codeAny (model prog w) A (.call (.ref C) ⟨vs,kw⟩) R s:=by
  obtain ⟨hh,g,d,t,os⟩:=s;exact PySem.W.make_core (PySem.W.makes_of X hm) (PySem.W.looks_findIn X hi) (λself=>PySem.W.bind_fn X self hf) (.inl rfl) h
end
noncomputable def Ia (f:Str) (v:V):List (Str×V)->List (Str×V)
 | []=>[(f,v)]
 | (g,x)::r=>if g=f then (g,v)::r else (g,x)::Ia f v r
theorem Mp (f g:Str) (v:V):∀ fs:List (Str×V),(Ia f v fs).lookup g=if g=f then some v else fs.lookup g
 | []=>by
  show qe g [(f,v)]=_
  by_cases h:g=f
  ·have hb:(g==f)=true:=beq_iff_eq.mpr h;simp only [qe,hb,if_pos h]
  ·have hb:(g==f)=false:=beq_eq_false_iff_ne.mpr h;simp only [qe,hb,if_neg h]
 | (k,x)::r=>by
  have ih:=Mp f g v r;rw [show Ia f v ((k,x)::r)=(if k=f then (k,v)::r else (k,x)::Ia f v r) from rfl]
  by_cases hk:k=f
  ·rw [if_pos hk]
   by_cases h:g=k
   ·have hb:(g==k)=true:=beq_iff_eq.mpr h;simp only [qe,hb,if_pos (h.trans hk)]
   ·have hb:(g==k)=false:=beq_eq_false_iff_ne.mpr h;simp only [qe,hb,if_neg (λe:g=f=>h (e.trans hk.symm))]
  ·rw [if_neg hk]
   by_cases h:g=k
   ·have hb:(g==k)=true:=beq_iff_eq.mpr h;simp only [qe,hb,if_neg (λe:g=f=>hk (h.symm.trans e))]
   ·have hb:(g==k)=false:=beq_eq_false_iff_ne.mpr h;simp only [qe,hb];exact ih
theorem La (f:Str) (v:V):∀ fs:List (Str×V),f∈(Ia f v fs).map (·.1)/\∀ g,g∈fs.map (·.1)->g∈(Ia f v fs).map (·.1)
 | []=>⟨by simp [Ia],λg h=>by simp at h⟩
 | (k,x)::r=>by
  obtain ⟨i1,i2⟩:=La f v r;rw [show Ia f v ((k,x)::r)=(if k=f then (k,v)::r else (k,x)::Ia f v r) from rfl]
  by_cases hk:k=f
  ·rw [if_pos hk];subst hk;exact ⟨by simp,λg h=>by simpa using h⟩
  ·rw [if_neg hk];refine ⟨?_,λg h=>?_⟩
   ·rw [dm];exact cu _ i1
   ·rw [dm] at h ⊢;rcases gn.mp h with e|e
    ·exact gn.mpr (.inl e)
    ·exact cu _ (i2 g e)
theorem Mq (f:Str) (v:V):∀ fs:List (Str×V),(Ia f v fs).length<=fs.length+1
 | []=>by simp [Ia]
 | (k,x)::r=>by
  have ih:=Mq f v r;rw [show Ia f v ((k,x)::r)=(if k=f then (k,v)::r else (k,x)::Ia f v r) from rfl]
  by_cases hk:k=f
  ·rw [if_pos hk,fj,fj];omega
  ·rw [if_neg hk,fj,fj];omega
theorem Jv.some_of {v:V}{o:Option Value}(r:Jv (some v) o):∃ u,o=some u/\RelV v u:=by
 cases o with
 | none=>exact (show False from r).elim
 | some u=>exact ⟨u,rfl,r⟩
theorem Jv.none_of {o:Option Value}(r:Jv none o):o=none:=by
 cases o with
 | none=>rfl
 | some u=>exact (show False from r).elim
theorem bK {v:V}{u:Value}(r:RelV v u):PySem.W.handedIn u=true:=by
 cases v with
 | non=>cases (show u=Value.none from r);rfl
 | bl b=>cases (show u=Value.bool b from r);rfl
 | int i=>obtain ⟨t,e⟩:=(show ∃ t,u=Value.int i t from r);cases e;rfl
 | str x=>obtain ⟨t,e⟩:=(show ∃ t,u=Value.str x t from r);cases e;rfl
 | byt b=>obtain ⟨t,e⟩:=(show ∃ t,u=Value.bytes b t from r);cases e;rfl
 | flt b=>obtain ⟨t,e⟩:=(show ∃ t,u=Value.float b t from r);cases e;rfl
 | ref a=>cases (show u=Value.ref a from r);rfl
 | ty n=>cases (show u=Value.type n from r);rfl
section
variable {P:Program}{w:World}{H H':Hp}{h h':Heap}{a C dx:Addr}{fs fs':List (Str×V)}
theorem R0 (hok:HOk P w H h) (e:H a=some (.ins C dx fs)):∃ mA,ObjM h a dx C mA/\(∀ f,Jv (fs.lookup f) (mA f))/\RT mA (fs.map (·.1))/\fs.length<=1000/\H dx=some (.own a):=by
 obtain ⟨d,z,ne,ob,mA,n,r,q⟩:=(show Bx P w H h a (.ins C dx fs) from hok a _ e);exact ⟨mA,⟨ob,n,ne⟩,r,q,z,d⟩
end
structure Cls (K:aj) (C:Addr):Prop where
 pg:uc K C Str.empty=true
 hd:vg K C=true
 po:yg K C=true
 sa:kh K (.ref C) "__setattr__"=some (some (.builtin "object.__setattr__"))
theorem Cls.get {K:aj}{C:Addr}(c:Cls K C) (f:Str):uc K C f=true:=c.pg
noncomputable def Ck (K:aj) (C:Addr) (f:Str):Prop:=kh K (.ref C) f=some none
theorem Ck.taker {K:aj}{C:Addr}{f:Str}(n:Ck K C f):MJ K C f=some none:=by
 unfold MJ;rw [show kh K (.ref C) f=some none from n];rfl
structure Meth (K:aj) (C:Addr) (m:Str) (f:Addr):Prop where
 at_:kh K (.ref C) m=some (some (.ref f))
 fn:zu K (.ref f)=true
 kp:iw K (.ref f)=true
section
variable {X:Cx}{pins:List (Addr×Obj)}{σ:St}{H:Hp}{s:Shared}{a C dx:Addr}{fs:List (Str×V)}{f:Str}{v:V}{A:Around}{E:Value->Shared->Prop}
theorem Wx {b:Bool}{Q:Value->Shared->Prop}(I:Inv X pins σ H s) (e:H a=some (.ins C dx fs)) (c:Cls X.K C) (n:Ck X.K C f) (l:fs.lookup f=some v)
  (h:∀ u s',Inv X pins σ H s'->RelV v u->Q u s'):wpAny (model X.prog X.w) A (getAttr (.ref a) f b) Q E s:=by
 obtain ⟨mA,O,r,_,_,_⟩:=R0 I.hok e;obtain ⟨u,hu,ru⟩:=Jv.some_of (v:=v) (o:=mA f) (by rw [← l];exact r f);exact get_map I.kIn O (c.get f) c.hd n hu (bK ru) (h u _ (I.tok _) ru)
theorem Od {m:Str}{g:Addr}{pl:Sem Bool}{Q:Value×List Value->Shared->Prop}(I:Inv X pins σ H s) (e:H a=some (.ins C dx fs)) (c:Cls X.K C) (k:Meth X.K C m g) (l:fs.lookup m=none)
  (h:Q (.ref g,[.ref a]) s):wpAny (model X.prog X.w) A (getMethod (.ref a) m pl) Q E s:=by
 obtain ⟨mA,O,r,_,_,_⟩:=R0 I.hok e;have hn:mA m=none:=Jv.none_of (by rw [← l];exact r m);exact gD I.kIn O (c.get m) k.at_ k.fn hn h
theorem Wy {y:V}{u:Value}{Q:Unit->Shared->Prop}(I:Inv X pins σ H s) (e:H a=some (.ins C dx fs)) (c:Cls X.K C) (n:Ck X.K C f) (hl:fs.length < 1000) (ry:RelV y u)
  (h:∀ s',Inv X pins σ (upd H a (.ins C dx (Ia f y fs))) s'->Q () s'):wpAny (model X.prog X.w) A (setAttr (.ref a) f u) Q E s:=by
 obtain ⟨mA,O,r,wi,_,ho⟩:=R0 I.hok e;have hz:(fs.map (·.1)).length<=sizeLine:=by rw [fu,ji];omega
 refine rA I.kIn O c.sa c.po n.taker c.hd wi hz λh' O' sb=>h _ ?_
 have hd:∃ o,h'.get? dx=some o:=let ⟨o,_,_,e',_⟩:=O'.ns;⟨o,e'⟩;refine I.write (x:=a) (e:=dx) (by rw [e];exact True.intro) (.inr ho) (λb q hb z=>(sb.2 b hb).trans z) hd ?_;refine ⟨by rw [Ad O.ne];exact ho,?_,O.ne,O'.obj,_,O'.ns,λg=>?_,λg hg=>?_⟩
 ·have:=Mq f y fs;omega
 ·show Jv ((Ia f y fs).lookup g) (if g=f then some u else mA g);rw [Mp]
  by_cases q:g=f
  ·rw [if_pos q,if_pos q];exact ry
  ·rw [if_neg q,if_neg q];exact r g
 ·by_cases q:g=f
  ·rw [q];exact (La f y fs).1
  ·refine (La f y fs).2 g (wi g λz=>hg ?_);show (if g=f then some u else mA g)=none;rw [if_neg q];exact z
theorem Inv.made (I:Inv X pins σ H s):Inv X pins σ (upd (upd H s.heap.objs.size (.own (s.heap.objs.size+1))) (s.heap.objs.size+1) (.ins C s.heap.objs.size []))
    { s with heap:=(s.heap.push ni).push (qy C s.heap.objs.size) }:=by
  have e1:(s.heap.push ni).get? s.heap.objs.size=some ni:=bh s.heap rfl;have e2:((s.heap.push ni).push (qy C s.heap.objs.size)).get? (s.heap.objs.size+1)=some (qy C s.heap.objs.size):=by
    have:=bh (s.heap.push ni) (o:=qy C s.heap.objs.size) rfl
    rwa [ir] at this
  have e3:(s.heap.push ni).Ns s.heap.objs.size (λ_=>none):=⟨ni,#[],_,e1,rfl,(λe he=>absurd he (by simp)),λ_=>rfl⟩;have I1:=I.laid (a:=s.heap.objs.size) (o:=.own (s.heap.objs.size+1)) (h':=s.heap.push ni) (t':=s.toks) (λb u q=>ao _ q) (bx _) ⟨_,e1⟩;refine I1.laid (a:=s.heap.objs.size+1) (o:=.ins C s.heap.objs.size []) (t':=s.toks) (λb u q=>ao _ q) (Nat.le_of_eq (ir _ _)) ?_;have ne:s.heap.objs.size≠s.heap.objs.size+1:=cj (jh _);refine ⟨by rw [Ad ne,Ag],qx _,ne,e2,λ_=>none,(Heap.Ns1.of_empty e3).at λo q=>ao _ q,λ_=>True.intro,λy hy=>absurd rfl hy⟩
theorem rB {prog:Program}{w:World}{env:Env}{e:Expr}{f:Str}{pos:Pos}{s:Shared}{Q:Value->Shared->Prop}(hb:attributeBase e f env (eval e env)=eval e env)
  (h:wpAny (model prog w) A (eval e env) (λo s₁=>wpAny (model prog w) A (getAttr o f true) Q E s₁) E s):wpAny (model prog w) A (eval (.Attribute e f pos) env) Q E s :=
 Attribute_any_ h (by rw [arm_eval_Attribute,hb])
end
noncomputable def Afq (K:aj) (ta:TE) (f:Str):TE:=λσ H Q=>ta σ H λx H1=>∃ a C dx fs v,x=.ref a/\H1 a=some (.ins C dx fs)/\Cls K C/\Ck K C f/\fs.lookup f=some v/\Q v H1
noncomputable def Afr (K:aj) (ta tv:TE) (f:Str):TS:=λD σ H=>tv σ H λy H1=>ta σ H1 λx H2=>∃ a C dx fs,x=.ref a/\H2 a=some (.ins C dx fs)/\Cls K C/\Ck K C f/\fs.length < 1000 /\
 D.nx σ (upd H2 a (.ins C dx (Ia f y fs)))
section
variable {X:Cx}{o e value:Expr}{f:Str}{pos pos' tpos:Pos}{ta tv:TE}
theorem zY (he:PE X e ta) (hb:attributeBase e f X.env (eval e X.env)=eval e X.env):PE X (.Attribute e f pos) (Afq X.K ta f):=by
 intro pins s σ H Q I h;refine rB hb (thn (he pins s σ H _ I h) ?_);rintro u s1 ⟨x,H1,I1,rx,a,C,dx,fs,v,ex,ea,c,n,l,q⟩;subst ex;obtain rfl:u=Value.ref a:=rx;exact Wx I1 ea c n l λu' s2 I2 ru=>⟨v,H1,I2,ru,q⟩
theorem Oe (ha:PE X o ta) (hv:PE X value tv) (hs:swapsWith value (some (.Attribute o f pos')) pos.line X.env=pure false):PS X (.Assign [.Attribute o f pos'] value pos) (Afr X.K ta tv f):=by
 intro pins s σ H D I h;refine plainObj_wpAny_Assign_Attribute (thn (hv pins s σ H _ I h) λu s1 ⟨y,H1,I1,ry,q⟩=>thn (ha pins s1 σ H1 _ I1 q) ?_) hs;rintro ov s2 ⟨x,H2,I2,rx,a,C,dx,fs,ex,ea,c,n,l,q2⟩;subst ex;obtain rfl:ov=Value.ref a:=rx;exact Wy I2 ea c n l ry λs3 I3=>⟨σ,_,I3,q2⟩
end
section
variable {X:Cx}{pins:List (Addr×Obj)}{σ:St}{H:Hp}{s:Shared}{A:Around}{E:Value->Shared->Prop}{Q:Value->Shared->Prop}{c:Value}{b:Bool}
end
structure Room (k:Nat) (A:Around):Prop where
 hd:A.handled=none
 dp:A.depth+3 * k+5 < recursionLimit
 un:A.units+16 * k+200 < cLine
theorem Room.mono {j k:Nat}{A:Around}(r:Room k A) (h:j<=k):Room j A:=⟨r.hd,by have:=r.dp;omega,by have:=r.un;omega⟩
theorem Room.deeper {k:Nat}{A:Around}(r:Room (k+1) A) (env:Env):Room k (A.deeper env) :=
 ⟨r.hd,by have:=r.dp;show A.depth+1+3 * k+5 < _;omega,by have:=r.un;show A.units+3+16 * k+200 < _;omega⟩
theorem Wz {A:Around}{C:Addr}{us:List Value}{kw:List (Str×Value)}:(A.under (.builtin "type.__call__" ⟨.ref C::us,kw⟩)).depth=A.depth+1:=by
 first | rfl | simp [RX,Code.weight,Code.isCreation,Code.isGuard,Code.isCaller,Code.frames,Code.isFrame,guardIds]
theorem W0 {A:Around}{C:Addr}{us:List Value}{kw:List (Str×Value)}:(A.under (.builtin "type.__call__" ⟨.ref C::us,kw⟩)).units=A.units+1:=by
 first | rfl | simp [RX,Code.cUnits,Code.frames,Code.isFrame]
theorem Room.make {k:Nat}{A:Around}(r:Room (k+1) A) (C:Addr) (us:List Value) (kw:List (Str×Value)):Room k (A.under (.builtin "type.__call__" ⟨.ref C::us,kw⟩)) :=
 ⟨r.hd,by have:=r.dp;rw [Wz];omega,by have:=r.un;rw [W0];omega⟩
theorem Room.depth {k:Nat}{A:Around}(r:Room k A):A.depth < recursionLimit:=by have:=r.dp;omega
theorem Room.units {k:Nat}{A:Around}(r:Room k A):A.units+64 < cLine:=by have:=r.un;omega
noncomputable def gG:TA:=λ_ H Q=>Q [] H
noncomputable def gH (ta:TE) (tr:TA):TA:=λσ H Q=>ta σ H λx H1=>tr σ H1 λxs H2=>Q (x::xs) H2
section
variable {X:Cx}{e:Expr}{es:List Expr}{te:TE}{t:TA}{pos:Pos}
theorem Ga:PA X [] gG:=λ_ _ _ _ H Q I h=>UW ⟨[],H,I,.nil,h⟩
theorem Dr (ha:PE X e te) (hr:PA X es t) (hs:starEach (e::es) X.env=(false,eval e X.env)::starEach es X.env:=by rfl):PA X (e::es) (gH te t):=by
 intro pos pins s σ H Q I h;rw [hs];show wpAny _ _ (spliced ((false,eval e X.env)::backTo pos (starEach es X.env))) _ _ s;refine RZ (thn (ha pins s σ H _ I h) ?_);rintro u s1 ⟨x,H1,I1,r1,q1⟩;refine thn (hr pos pins s1 σ H1 _ I1 q1) ?_;rintro us s2 ⟨xs,H2,I2,r2,q2⟩;exact ⟨x::xs,H2,I2,.cons r1 r2,q2⟩
noncomputable def Adq (t:TA):TE:=λσ H Q=>t σ H λxs H1=>xs.length<=sizeLine/\∀ p,H1 p=none->Q (.ref p) (upd H1 p (.tup xs))
noncomputable def Afs (t:TA):TE:=λσ H Q=>t σ H λxs H1=>xs.length<=sizeLine/\∀ p,H1 p=none->Q (.ref p) (upd H1 p (.lst xs))
theorem gJ {x1}(h:PA X es t):PE X (.Tuple es x1 pos) (Adq t):=by
 intro pins s σ H Q I hq;refine wpAny_Tuple_spliced (thn (h pos pins s σ H _ I hq) ?_);rintro us s1 ⟨xs,H1,I1,r,z,q⟩;refine ⟨by rw [← r.length];exact z,?_⟩;have hf:H1 s1.heap.objs.size=none:=I1.hok.fresh (bx _);refine ⟨.ref s1.heap.objs.size,upd H1 s1.heap.objs.size (.tup xs),I1.laid (t':=s1.toks) (λb u e=>ao _ e) (bx _) ?_,rfl,q _ hf⟩;exact ⟨z,us,r,⟨_,bh _ rfl,rfl,rfl,_,rfl⟩⟩
theorem W2 (h:PA X es t):PE X (.List es pos) (Afs t):=by
 intro pins s σ H Q I hq;refine wpAny_List_spliced (thn (h pos pins s σ H _ I hq) ?_);rintro us s1 ⟨xs,H1,I1,r,z,q⟩;refine ⟨by rw [← r.length];exact z,?_⟩;have hf:H1 s1.heap.objs.size=none:=I1.hok.fresh (bx _);refine ⟨.ref s1.heap.objs.size,upd H1 s1.heap.objs.size (.lst xs),I1.laid (t':=s1.toks) (λb u e=>ao _ e) (bx _) ?_,rfl,q _ hf⟩;exact ⟨z,us,0,r,bh _ rfl⟩
end
noncomputable abbrev Sp:=List V->Hp->VK->XK->Prop
noncomputable abbrev CXT:=List Env->Hp->Shared->XK->Value->Shared->Prop
structure Env0 (P:Program) (w:World) (K:aj) (mg:Str->Option Value) (base:Heap) (A:Around) (outer:List Env) (s:Shared) (H:Hp):Prop where
 frames:A.frames=some outer
 mod:Mod K mg base
 bs:∀ b o,base.get? b=some o->s.heap.get? b=some o/\H b=none
 bsz:base.objs.size<=s.heap.objs.size
 funs:s.heap.FunFrames base outer
 frf:∀ b∈frs outer,H b=none
 hok:HOk P w H s.heap
 bare:AllBare s.gens
noncomputable def CE (outer:List Env) (P:Program) (w:World) (H:Hp) (s:Shared) (Q:VK) (u:Value) (s':Shared):Prop :=
 ∃ v H',s'.os=s.os/\AllBare s'.gens/\Un (frs outer) [] H H' s.heap s'.heap/\HOk P w H' s'.heap/\RelV v u/\Q v H'
noncomputable def CR (CX:CXT) (outer:List Env) (P:Program) (w:World) (H:Hp) (s:Shared) (Q:VK) (E:XK) (r:Result) (s':Shared):Prop :=
 match r with
 | .ok (.ret u)=>CE outer P w H s Q u s'
 | .ok _=>False
 | .error e=>CX outer H s E e s'
structure FnOk (P:Program) (w:World) (K:aj) (mg:Str->Option Value) (base:Heap) (CX:CXT) (k:Nat) (f:Addr) (fd:FuncData) (ps:List Str) (sp:Sp):Prop where
 len:∀ vs H Q E,sp vs H Q E->vs.length=ps.length
 run:∀ (A:Around) (outer:List Env) (s:Shared) (H:Hp) (args:Args) (us:List Value) (vs:List V) (Q:VK) (E:XK),Room k A->Env0 P w K mg base A outer s H->BindsTo s fd args (ps.zip us)->Vals vs us->sp vs H Q E ->
  codeAny (model P w) A (.call (.ref f) args) (CR CX outer P w H s Q E) s
theorem Env0.make {P:Program}{w:World}{K:aj}{mg:Str->Option Value}{base:Heap}{A:Around}{outer:List Env}{s:Shared}{H:Hp}(e:Env0 P w K mg base A outer s H) (C:Addr) (us:List Value) (kw:List (Str×Value)) :
  Env0 P w K mg base (A.under (.builtin "type.__call__" ⟨.ref C::us,kw⟩)) outer s H:=⟨by first | exact e.frames | (simpa [RX,Code.envs,Code.isFrame,pushEnvs] using e.frames),e.mod,e.bs,e.bsz,e.funs,e.frf,e.hok,e.bare⟩
section
variable {X:Cx}{pins:List (Addr×Obj)}{σ:St}{H:Hp}{s s':Shared}
theorem Inv.env0 (I:Inv X pins σ H s):Env0 X.prog X.w X.K X.mg X.base X.A X.stack s H :=
 ⟨I.ok.frames,I.ok.mod,I.bs,jg I.ok.bsz I.sz,I.stack,I.stkFree,I.hok,I.bare⟩
theorem Inv.after {Q:VK}{u:Value}(I:Inv X pins σ H s) (h:CE X.stack X.prog X.w H s Q u s'):EP X pins σ Q u s':=by
 obtain ⟨v,H',os,bare,un,hok,r,q⟩:=h;obtain ⟨hh,g,d,t,os'⟩:=s';obtain rfl:os'=s.os:=os;exact ⟨v,H',I.call (h':=hh) (g':=g) (d':=d) (t':=t) (ch:=[]) un hok bare (λb z=>absurd z (by simp)),r,q⟩
end
noncomputable def Y5 (sp:Sp) (dvs:List V) (E:XK) (t:TA):TE:=λσ H Q=>t σ H λvs H1=>sp (vs++dvs) H1 Q E
noncomputable def xN (C:Addr) (m:Str) (sp:Sp) (dvs:List V) (E:XK) (ta:TE) (t:TA):TE:=λσ H Q=>ta σ H λx H1=>∃ a dx fs,x=.ref a/\H1 a=some (.ins C dx fs)/\fs.lookup m=none /\
 t σ H1 λvs H2=>sp (x::(vs++dvs)) H2 Q E
noncomputable def xO (C:Addr) (sp:Sp) (dvs:List V) (E:XK) (t:TA):TE:=λσ H Q=>t σ H λvs H1=>∀ x dx,H1 x=none->H1 dx=none->dx≠x ->
 sp (.ref x::(vs++dvs)) (upd (upd H1 dx (.own x)) x (.ins C dx [])) (λv H2=>v=.non/\Q (.ref x) H2) E
noncomputable def Binds (K:aj) (fd:FuncData) (ps:List Str) (ds:List Value):Prop :=
 ∀ (s:Shared) (us:List Value),K.In s.heap->(us++ds).length=ps.length->BindsTo s fd ⟨us,[]⟩ (ps.zip (us++ds))
theorem Binds.all {K:aj}{fd:FuncData}{ps:List Str}(h:∀ us:List Value,us.length=ps.length->bindArgs fd ⟨us,[]⟩=pure (ps.zip us)):Binds K fd ps []:=λs us _ hl=>by
 rw [oh] at hl ⊢;exact .of_eq (h us hl)
noncomputable def Bh (CX:CXT) (X:Cx) (E:XK):Prop:=∀ (pins:List (Addr×Obj)) (σ:St) (H:Hp) (s:Shared) (e:Value) (s':Shared),Inv X pins σ H s->CX X.stack H s E e s'->X.xe e s'
section
variable {X:Cx}{CX:CXT}{k:Nat}{f C:Addr}{fd:FuncData}{ps:List Str}{sp:Sp}{dvs:List V}{ds:List Value}{E:XK}{x m:Str}{p pos apos:Pos}{e o:Expr}{es:List Expr}{ta:TE}{t:TA}
theorem Jy {pins:List (Addr×Obj)}{σ:St}{H:Hp}{s:Shared}{Q:VK}{us:List Value}{vs:List V}(F:FnOk X.prog X.w X.K X.mg X.base CX k f fd ps sp) (hr:Room k X.A) (hb:Binds X.K fd ps ds) (hd:Vals dvs ds) (hx:Bh CX X E)
  (I:Inv X pins σ H s) (r:Vals vs us) (h:sp (vs++dvs) H Q E):wpAny (model X.prog X.w) X.A (call (.ref f) us) (EP X pins σ Q) X.xe s:=by
 have r2:Vals (vs++dvs) (us++ds):=r.append hd;have hl:(us++ds).length=ps.length:=by rw [← r2.length];exact F.len _ _ _ _ h
 refine wpAny_call (JP (F.run X.A X.stack s H ⟨us,[]⟩ (us++ds) (vs++dvs) Q E hr I.env0 (hb s us I.kIn hl) r2 h) λr s' hq=>?_);cases r with
 | error e=>exact hx pins σ H s e s' I hq
 | ok fl =>
  cases fl with
  | ret u=>exact I.after hq
  | next=>exact False.elim hq
  | brk=>exact False.elim hq
  | cont=>exact False.elim hq
theorem rC (F:FnOk X.prog X.w X.K X.mg X.base CX k f fd ps sp) (hr:Room k X.A) (hg:Gl X x) (hm:X.mg x=some (.ref f)) (hk:iw X.K (.ref f)=true) (hb:Binds X.K fd ps ds) (hd:Vals dvs ds) (hx:Bh CX X E)
  (ha:PA X (e::es) t) (hdb:(x==("__debug__":Str))=false:=by decide) (he:starEach (e::es) X.env=(false,eval e X.env)::starEach es X.env:=by rfl) (hpl:(backTo pos (starEach es X.env)).any (·.1)=false:=by rfl) :
  PE X (.Call (.Name x p) (e::es) [] pos) (Y5 sp dvs E t):=by
 intro pins s σ H Q I h;refine lq (Kg I hg hm ?_ hdb);refine um (h₀:=X.base) I.ok.mod.kin hk (thn (ha pos pins s σ H _ I h) λus s1 ⟨vs,H1,I1,r,q⟩=>⟨I1.kIn,?_⟩) he hpl;exact Jy F hr hb hd hx I1 r q
theorem gK (F:FnOk X.prog X.w X.K X.mg X.base CX k f fd ps sp) (hr:Room k X.A) (hg:Gl X x) (hm:X.mg x=some (.ref f)) (hk:iw X.K (.ref f)=true) (hb:Binds X.K fd ps ds) (hd:Vals dvs ds) (hx:Bh CX X E)
  (hdb:(x==("__debug__":Str))=false:=by decide):PE X (.Call (.Name x p) [] [] pos) (Y5 sp dvs E gG):=by
 intro pins s σ H Q I h;refine lq (Kg I hg hm ?_ hdb);exact GF I.kIn hk (Jy (us:=[]) F hr hb hd hx I .nil h)
theorem rE {pl:Sem Bool}(he:PE X o ta) (c:Cls X.K C) (hm:Meth X.K C m f) (F:FnOk X.prog X.w X.K X.mg X.base CX k f fd ps sp) (hr:Room k X.A) (hb:Binds X.K fd ps ds) (hd:Vals dvs ds) (hx:Bh CX X E) (ha:PA X (e::es) t)
  (hst:starEach (e::es) X.env=(false,eval e X.env)::starEach es X.env:=by rfl) (hpl:(backTo pos (starEach es X.env)).any (·.1)=false:=by rfl)
  (ht:eval (.Call (.Attribute o m apos) (e::es) [] pos) X.env=(do
   let ov ← eval o X.env
   standAt apos.atName
   let (f,first) ← holding [ov] (getMethod ov m pl)
   callWith pos f first (backTo pos (starEach (e::es) X.env)) (backToKw pos (keywordEach [] X.env))):=by rfl) :
  PE X (.Call (.Attribute o m apos) (e::es) [] pos) (xN C m sp dvs E ta t):=by
 intro pins s σ H Q I h;refine PJ (pl:=pl) (thn (he pins s σ H _ I h) ?_) ht;rintro u s1 ⟨x,H1,I1,rx,a,dx,fs,ex,ea,l,q⟩;subst ex;obtain rfl:u=Value.ref a:=rx;refine Od I1 ea c hm l ?_;refine um (first:=[.ref a]) (h₀:=X.base) I.ok.mod.kin hm.kp (thn (ha pos pins s1 σ H1 _ I1 q) λus s2 ⟨vs,H2,I2,r,q2⟩=>⟨I2.kIn,?_⟩) hst hpl;exact Jy (us:=.ref a::us) (vs:=.ref a::vs) F hr hb hd hx I2 (.cons rfl r) q2
theorem gM {pl:Sem Bool}(he:PE X o ta) (c:Cls X.K C) (hm:Meth X.K C m f) (F:FnOk X.prog X.w X.K X.mg X.base CX k f fd ps sp) (hr:Room k X.A) (hb:Binds X.K fd ps ds) (hd:Vals dvs ds) (hx:Bh CX X E)
  (ht:eval (.Call (.Attribute o m apos) [] [] pos) X.env=(do
   let ov ← eval o X.env
   standAt apos.atName
   let (f,first) ← holding [ov] (getMethod ov m pl)
   callWith pos f first (backTo pos (starEach [] X.env)) (backToKw pos (keywordEach [] X.env))):=by rfl) :
  PE X (.Call (.Attribute o m apos) [] [] pos) (xN C m sp dvs E ta gG):=by
 intro pins s σ H Q I h;refine PJ (pl:=pl) (thn (he pins s σ H _ I h) ?_) ht;rintro u s1 ⟨x,H1,I1,rx,a,dx,fs,ex,ea,l,q⟩;subst ex;obtain rfl:u=Value.ref a:=rx;refine Od I1 ea c hm l ?_;exact GF (first:=[.ref a]) I1.kIn hm.kp (Jy (us:=[.ref a]) (vs:=[.ref a]) F hr hb hd hx I1 (.cons rfl .nil) q)
structure Mk (K:aj) (C f:Addr):Prop where
 makes:zc K C=true
 init:kh K (.ref C) "__init__"=some (some (.ref f))
 fn:zu K (.ref f)=true
 kp:iw K (.ref C)=true
theorem Uv {pins:List (Addr×Obj)}{σ:St}{H:Hp}{s:Shared}{Q:VK}{us:List Value}{vs:List V}(M:Mk X.K C f) (F:FnOk X.prog X.w X.K X.mg X.base CX k f fd ps sp) (hr:Room (k+1) X.A) (hb:Binds X.K fd ps ds) (hd:Vals dvs ds)
  (hx:Bh CX X E) (I:Inv X pins σ H s) (r:Vals vs us)
  (h:∀ x dx,H x=none->H dx=none->dx≠x->sp (.ref x::(vs++dvs)) (upd (upd H dx (.own x)) x (.ins C dx [])) (λv H2=>v=.non/\Q (.ref x) H2) E) :
  wpAny (model X.prog X.w) X.A (call (.ref C) us) (EP X pins σ Q) X.xe s:=by
 have hq:=h (s.heap.objs.size+1) s.heap.objs.size (I.hok.fresh (qw _)) (I.hok.fresh (bx _)) (cj (jh _));have I2:=Inv.made (C:=C) I;have r2:Vals (V.ref (s.heap.objs.size+1)::(vs++dvs)) (Value.ref (s.heap.objs.size+1)::(us++ds)):=.cons rfl (r.append hd);have hl:(Value.ref (s.heap.objs.size+1)::us++ds).length=ps.length:=by
  have e:=r2.length;rw [F.len _ _ _ _ hq] at e;exact e.symm
 refine wpAny_call (gF (f:=f) I.kIn M.makes M.init (beq_iff_eq.mp M.fn) (JP (F.run _ X.stack _ _ ⟨Value.ref (s.heap.objs.size+1)::us,[]⟩ (Value.ref (s.heap.objs.size+1)::(us++ds)) _ _ E (hr.make C us [])
  (I2.env0.make C us []) (hb _ (Value.ref (s.heap.objs.size+1)::us) I2.kIn hl) r2 hq) λr s' hq'=>?_))
 cases r with
 | error e=>exact hx pins σ _ _ e s' I2 hq'
 | ok fl =>
  cases fl with
  | ret u =>
   obtain ⟨v,H',I3,rv,ev,q3⟩:=I2.after hq';subst ev;exact ⟨rv,⟨V.ref (s.heap.objs.size+1),H',I3,rfl,q3⟩⟩
  | next=>exact False.elim hq'
  | brk=>exact False.elim hq'
  | cont=>exact False.elim hq'
theorem rF (M:Mk X.K C f) (F:FnOk X.prog X.w X.K X.mg X.base CX k f fd ps sp) (hr:Room (k+1) X.A) (hg:Gl X x) (hm:X.mg x=some (.ref C)) (hb:Binds X.K fd ps ds) (hd:Vals dvs ds) (hx:Bh CX X E)
  (ha:PA X (e::es) t) (hdb:(x==("__debug__":Str))=false:=by decide) (he:starEach (e::es) X.env=(false,eval e X.env)::starEach es X.env:=by rfl) (hpl:(backTo pos (starEach es X.env)).any (·.1)=false:=by rfl) :
  PE X (.Call (.Name x p) (e::es) [] pos) (xO C sp dvs E t):=by
 intro pins s σ H Q I h;refine lq (Kg I hg hm ?_ hdb);refine um (h₀:=X.base) I.ok.mod.kin M.kp (thn (ha pos pins s σ H _ I h) λus s1 ⟨vs,H1,I1,r,q⟩=>⟨I1.kIn,?_⟩) he hpl;exact Uv M F hr hb hd hx I1 r q
theorem gO (M:Mk X.K C f) (F:FnOk X.prog X.w X.K X.mg X.base CX k f fd ps sp) (hr:Room (k+1) X.A) (hg:Gl X x) (hm:X.mg x=some (.ref C)) (hb:Binds X.K fd ps ds) (hd:Vals dvs ds) (hx:Bh CX X E)
  (hdb:(x==("__debug__":Str))=false:=by decide):PE X (.Call (.Name x p) [] [] pos) (xO C sp dvs E gG):=by
 intro pins s σ H Q I h;refine lq (Kg I hg hm ?_ hdb);exact GF I.kIn M.kp (Uv (us:=[]) M F hr hb hd hx I .nil h)
end
section
variable {X:Cx}{CX:CXT}{k:Nat}{f C:Addr}{fd:FuncData}{ps ks:List Str}{sp:Sp}{E:XK}{x m:Str}{p pos apos kpos:Pos}{e o:Expr}{es:List Expr}{kws:List Keyword}{te ta:TE}{t tk:TA}{nm:Option Str}
variable {g:List Value->List Value->List Value}{gV:List V->List V->List V}
end
structure FnScope (N P:List Str) (sc:Scope):Prop where
 kind:sc.kind=.function
 co:sc.isCoroutine=false
 gen:sc.isGenerator=false
 nd:N.Nodup
 pre:N.take P.length=P
 par:∀ x∈P,sc.names.lookup x=some .local\/sc.names.lookup x=some .cell
 nofree:∀ y∈sc.names,y.2≠.free
theorem Qs {kindOf:Str->Option NameKind}{x:Str}:∀ {binds:List (Str×Value)}{m:Str->Option Value},(∀ v,(x,v) ∉ binds)->bindL kindOf binds m x=m x
 | [],_,_=>rfl
 | (n,v)::r,m,h=>by
  unfold bindL;rw [Qs λw hw=>h w (cu _ hw)];split
  ·have:x≠n:=by rintro rfl;exact h v dw
   simp [this]
  ·rfl
theorem Qt {kindOf:Str->Option NameKind}{x:Str}:∀ {binds:List (Str×Value)}{m:Str->Option Value},(∀ v,(x,v) ∉ binds)->bindC kindOf binds m x=m x
 | [],_,_=>rfl
 | (n,v)::r,m,h=>by
  unfold bindC;rw [Qt λw hw=>h w (cu _ hw)];split
  ·rfl
  ·have:x≠n:=by rintro rfl;exact h v dw
   simp [this]
theorem Qu {kindOf:Str->Option NameKind}{x:Str}{v:Value}:∀ {P:List Str}{vs:List Value}{i:Nat}{m:Str->Option Value},P.Nodup->P[i]?=some x->vs[i]?=some v->kindOf x=some .local ->
  bindL kindOf (P.zip vs) m x=some v
 | [],_,_,_,_,h,_,_=>by simp at h
 | _::_,[],_,_,_,_,h,_=>by simp at h
 | p::P,w::vs,0,m,nd,h1,h2,hk=>by
  simp at h1 h2;subst h1;subst h2;show bindL kindOf ((p,w)::P.zip vs) m p=_;unfold bindL;rw [Qs λv hv=>(jn.mp nd).1 (qz hv).1,if_pos hk];simp
 | p::P,w::vs,i+1,m,nd,h1,h2,hk=>by
  show bindL kindOf ((p,w)::P.zip vs) m x=_;unfold bindL;exact Qu (i:=i) (jn.mp nd).2 (by simpa using h1) (by simpa using h2) hk
theorem Qv {kindOf:Str->Option NameKind}{x:Str}{v:Value}:∀ {P:List Str}{vs:List Value}{i:Nat}{m:Str->Option Value},P.Nodup->P[i]?=some x->vs[i]?=some v->kindOf x≠some .local ->
  bindC kindOf (P.zip vs) m x=some v
 | [],_,_,_,_,h,_,_=>by simp at h
 | _::_,[],_,_,_,_,h,_=>by simp at h
 | p::P,w::vs,0,m,nd,h1,h2,hk=>by
  simp at h1 h2;subst h1;subst h2;show bindC kindOf ((p,w)::P.zip vs) m p=_;unfold bindC;rw [Qt λv hv=>(jn.mp nd).1 (qz hv).1,if_neg hk];simp
 | p::P,w::vs,i+1,m,nd,h1,h2,hk=>by
  show bindC kindOf ((p,w)::P.zip vs) m x=_;unfold bindC;exact Qv (i:=i) (jn.mp nd).2 (by simpa using h1) (by simpa using h2) hk
noncomputable def start (N:List Str) (vs:List V):St:=vs.map some++au (N.length - vs.length) none
noncomputable def Gq (CX:CXT) (P:Program) (w:World) (K:aj) (mg:Str->Option Value) (base:Heap) (N:List Str) (qual:Str) (scope:Scope) (f:Addr) (cd:Value) (A:Around) (outer:List Env) (s:Shared) (H:Hp) (E:XK):Cx where
 prog:=P
 w:=w
 K:=K
 mg:=mg
 base:=base
 A:=A.deeper (envOfC qual scope s.heap.objs.size f cd)
 N:=N
 s₀:=s
 H₀:=H
 env:=envOfC qual scope s.heap.objs.size f cd
 outer:=outer
 stack:=envOfC qual scope s.heap.objs.size f cd::outer
 ex:=[]
 calm:=true
 fn:=λ_=>true
 pn:=[]
 xe:=λe s'=>wpAny (model P w) (A.deeper (envOfC qual scope s.heap.objs.size f cd)) (leaving (envOfC qual scope s.heap.objs.size f cd) e) (λ_ s''=>CX outer H s E e s'') (λe' s''=>CX outer H s E e' s'') s'
theorem Uw {sc:Scope}{n:Nat}{x:Str}(h:sc.names.lookup x=some .cell):∃ c,(cellsFrom n sc.names []).lookup x=some c:=by
 have q:=mj sc.names n [] (.inl h);exact wg.mp q
theorem Jd {CX:CXT}{P:Program}{w:World}{K:aj}{mg:Str->Option Value}{base:Heap}{N ps:List Str}{qual:Str}{scope:Scope}{f:Addr}{cd:Value}{A:Around}{outer:List Env}{s s1:Shared}{H:Hp}{E:XK}{us:List Value}{vs:List V}
  (S:FnScope N ps scope) (hd:A.handled=none) (e0:Env0 P w K mg base A outer s H) (hl:vs.length=ps.length) (r:Vals vs us)
  (x:InCallC s s.heap.objs.size (bindL (envOfC qual scope s.heap.objs.size f cd).kindOf (ps.zip us) λ_=>none) (cellsFrom (s.heap.objs.size+1) scope.names []) (bindC (envOfC qual scope s.heap.objs.size f cd).kindOf (ps.zip us) λ_=>none) s1) :
  Inv (Gq CX P w K mg base N qual scope f cd A outer s H E) [] (start N vs) H s1:=by
 have hpl:ps.length<=N.length:=by have:=congrArg List.length S.pre;rw [yp] at this;omega
 obtain ⟨h1,tk,rfl,hk⟩:=x.done;have noA:∀ b:Addr,b ∉ (Gq CX P w K mg base N qual scope f cd A outer s H E).ex:=λb z=>absurd (show b∈([]:List Addr) from z) (by simp)
 refine ⟨⟨e0.mod,S.kind,rfl,rfl,bx _,λy z c h1 h2=>?_,λy hy=>?_,λy c _ h=>?_,λ_=>hd,QF e0.frames,.inr ⟨rfl,rfl⟩,λb z=>absurd z (noA b),e0.bs,e0.bsz,λb _ _=>noA b,λb z=>absurd z (noA b),e0.funs,e0.frf⟩,
  rfl,e0.bare,Un.kept hk,⟨_,x.toInCall.ns,λi y v h1 h2 h3=>?_⟩,λy c h=>⟨_,x.cell y c h⟩,e0.hok.fresh (bx _),λy c h=>?_,λp hp=>absurd (show p∈([]:List (Addr×Obj)) from hp) (by simp),e0.hok.kept hk,?_⟩
 ·exact name_of_addr x.apart (gm h1) (gm h2)
 ·have hy:scope.names.lookup y=some .cell\/scope.names.lookup y=some .free:=hy;rcases hy with hy|hy
  ·exact Uw hy
  ·exact absurd rfl (S.nofree _ (gm hy))
 ·exact zq (x.above y c (gm h))
 ·have hi:i < vs.length:=by
   unfold start at h2
   by_cases hi:i < vs.length
   ·exact hi
   ·rw [ig (by simpa using hi)] at h2;rw [xq] at h2;split at h2 <;> cases h2
  have ha:vs[i]?=some v:=by
   unfold start at h2;rw [gh (by simpa using hi),gb] at h2;cases e:vs[i]? with
   | none=>rw [e] at h2;cases h2
   | some a=>rw [e] at h2;cases h2;rfl
  obtain ⟨u,hu,rv⟩:=r.get ha;have hp:ps[i]?=some y:=by
   rw [← S.pre,JQ (by omega)];exact h1
  have ndP:ps.Nodup:=by rw [← S.pre];exact S.nd.sublist (VB _ _)
  refine ⟨u,rv,?_⟩;rcases S.par y (iy hp) with k|k
  ·exact .inl ⟨k,Qu ndP hp hu k⟩
  ·obtain ⟨c,e⟩:=Uw (n:=s.heap.objs.size+1) k;refine .inr ⟨.inl k,c,e,?_⟩;have q:=x.cell y c e;rw [Qv ndP hp hu (by show scope.names.lookup y≠_;rw [k];decide)] at q;exact q
 ·exact .inl (e0.hok.fresh (zq (x.above y c (gm h))))
 ·unfold start;show _=N.length;rw [dj,fu,DN];omega
theorem xP {CX:CXT}{P:Program}{w:World}{K:aj}{mg:Str->Option Value}{base:Heap}{k:Nat}{f:Addr}{name qual:Str}{params:Arguments}{body:List Stmt}{scope:Scope}{dV kV doc pm cdv ct oc:Value}{an od:Option Addr}
  {osl:Array (Option Value)} {N ps:List Str} {sp:Sp} (lk:K.lookup f=some ⟨oc,od,.func (wj name qual params body scope dV kV doc pm an cdv ct),osl⟩) (hcd:vy K cdv qual=true) (S:FnScope N ps scope)
  (len:∀ vs H Q E,sp vs H Q E->vs.length=ps.length)
  (hbody:∀ (A:Around) (outer:List Env) (s:Shared) (H:Hp) (vs:List V) (Q:VK) (E:XK),Room k (A.deeper (envOfC qual scope s.heap.objs.size f cdv))->sp vs H Q E ->
   ∃ t,PSs (Gq CX P w K mg base N qual scope f cdv A outer s H E) body t/\t { nx:=λ_ H'=>Q .non H',rt:=Q } (start N vs) H) :
  FnOk P w K mg base CX (k+1) f (wj name qual params body scope dV kV doc pm an cdv ct) ps sp:=by
 refine ⟨len,λA outer s H args us vs Q E hr e0 hb r hsp=>?_⟩;have hl:=len _ _ _ _ hsp;have KX:K.In s.heap:=e0.mod.kin.keeps λb o e=>(e0.bs b o e).1
 have lim:s.heap.NoLimit:=e0.mod.nolimit.keeps λb o e=>(e0.bs b o e).1
 have hkind:∀ y∈ps.zip us,scope.names.lookup y.1=some .local\/(scope.names.lookup y.1=some .cell/\((cellsFrom (s.heap.objs.size+1) scope.names []).lookup y.1).isSome=true):=by
  rintro ⟨n,v⟩ hy;rcases S.par n (qz hy).1 with q|q
  ·exact .inl q
  ·exact .inr ⟨q,mj _ _ _ (.inl q)⟩
 refine DP hr.depth (KX _ _ lk) rfl S.co S.gen rfl (GX KX hcd) (hb _ _ _ _ ?_);refine uy S.kind hkind λenv he s1 x=>?_
 subst he;refine ⟨lim.keeps x.toInCall.keep,SJ ?_⟩;obtain ⟨t,ht,hq⟩:=hbody A outer s H vs Q E (hr.deeper _) hsp;have I:Inv (Gq CX P w K mg base N qual scope f cdv A outer s H E) [] (start N vs) H s1:=Jd S hr.hd e0 hl r x;refine nq (ht [] s1 (start N vs) H _ I hq) (λfl s' hs=>?_) λe s' hs=>hs
 have fin:∀ {σ':St} {H':Hp} {v:V} {u:Value},Inv (Gq CX P w K mg base N qual scope f cdv A outer s H E) [] σ' H' s'->RelV v u->Q v H'->CE outer P w H s Q u s' :=
  λ{σ' H' v u} J rv q=>⟨v,H',J.os,J.bare,J.base,J.hok,rv,q⟩
 cases fl with
 | ret u =>
  obtain ⟨v,σ',H',J,rv,q⟩:=hs;exact fin J rv q
 | next =>
  obtain ⟨σ',H',J,q⟩:=hs;exact fin (v:=V.non) (u:=Value.none) J rfl q
 | brk =>
  obtain ⟨_,_,_,q⟩:=hs;exact False.elim q
 | cont =>
  obtain ⟨_,_,_,q⟩:=hs;exact False.elim q
section
variable {X:Cx}{x:Str}{p pos:Pos}{e:Expr}{es:List Expr}{t:TA}{id T:String}{r:List V->Hp->VK->Prop}
noncomputable def tCB (r:List V->Hp->VK->Prop) (t:TA):TE:=λσ H Q=>t σ H λvs H1=>r vs H1 Q
theorem Ux (hc:Ay X (.builtin id) r) (hg:Gl X x) (hm:X.mg x=none) (hv:bootBuiltins x=some (.builtin id)) (ha:PA X (e::es) t) (hn:x ≠ "__name__":=by decide) (hdb:(x==("__debug__":Str))=false:=by decide)
  (he:starEach (e::es) X.env=(false,eval e X.env)::starEach es X.env:=by rfl) (hpl:(backTo pos (starEach es X.env)).any (·.1)=false:=by rfl):PE X (.Call (.Name x p) (e::es) [] pos) (tCB r t):=by
 intro pins s σ H Q I h;refine lq (Ie I hg hm hv ?_ hn hdb);exact PyProof.Rows.callWith_builtin1 (thn (ha pos pins s σ H _ I h) λus s1 ⟨vs,H1,I1,r1,q1⟩=>hc pins s1 σ H1 vs us Q I1 r1 q1) he hpl
theorem G4 (hc:Ay X (.type T) r) (hg:Gl X x) (hm:X.mg x=none) (hv:bootBuiltins x=some (.type T)) (ha:PA X (e::es) t) (hn:x ≠ "__name__":=by decide) (hdb:(x==("__debug__":Str))=false:=by decide)
  (he:starEach (e::es) X.env=(false,eval e X.env)::starEach es X.env:=by rfl) (hpl:(backTo pos (starEach es X.env)).any (·.1)=false:=by rfl):PE X (.Call (.Name x p) (e::es) [] pos) (tCB r t):=by
 intro pins s σ H Q I h;refine lq (Ie I hg hm hv ?_ hn hdb);exact PyProof.Rows.callWith_type1 (thn (ha pos pins s σ H _ I h) λus s1 ⟨vs,H1,I1,r1,q1⟩=>hc pins s1 σ H1 vs us Q I1 r1 q1) he hpl
end
end L2
namespace HT
open PySem PyProof.Rows
section
open PySem.SeqAt
open PySem.AutoSeq1 (wpAny_loadPart')
open PySem.MeetsSeq PySem.MeetsSeq2 PySem.MeetsSeq3
end
section
variable {prog:Program}{w:World}{A:Around}{E:Value->Shared->Prop}{s:Shared}
theorem cat_tup {t b:Addr}{vs ws:List Value}{Q:Value->Shared->Prop}(ht:IsTup s.heap t vs.toArray) (hb:IsTup s.heap b ws.toArray) (hv:vs≠[])
  (h1:ws=[]->Q (.ref t) s) (h2:ws≠[]->Q (.ref s.heap.objs.size) { s with heap:=s.heap.push { cls:=.type "tuple",data:=.seq (vs++ws).toArray } })
  (hsz:vs.length+ws.length<=sizeLine):wpAny (model prog w) A (binaryOp .Add (.ref t) (.ref b)) Q E s:=by
 obtain ⟨⟨cls,dd,data,sl⟩,ho,hc,n,hd⟩:=id ht;obtain ⟨⟨cls2,dd2,data2,sl2⟩,ho2,hc2,n2,hd2⟩:=id hb;simp only at hc hd hc2 hd2;subst hc hd hc2 hd2;have e:vs.toArray++ws.toArray=(vs++ws).toArray:=by simp
 by_cases hw:ws=[]
 ·exact SN ⟨_,ho,rfl⟩ ⟨_,ho2,rfl⟩ JS QR CK BV (zx _ _)
   (tuple_addW1 t b vs.toArray ws.toArray n n2 dd dd2 sl sl2 (by simpa using hv) (by simp [hw])) ⟨ho,ho2,h1 hw⟩
 ·refine SN ⟨_,ho,rfl⟩ ⟨_,ho2,rfl⟩ JS QR CK BV (zx _ _)
   (tuple_addW2 t b vs.toArray ws.toArray n n2 dd dd2 sl sl2 (by simpa using hv) (by simpa using hw) (by rw [cg,cg];exact hsz)) ⟨ho,ho2,?_⟩
  rw [e];exact h2 hw
noncomputable def sIx (n d:Nat):Option Int->Nat
 | none=>d
 | some v=>if v < 0 then (v+(n:Int)).toNat else min v.toNat n
theorem zZ (n d:Nat) (hd:d<=n) (o:Option Int):sIx n d o<=n:=by
 cases o with
 | none=>exact hd
 | some v =>
  show (if v < 0 then (v+(n:Int)).toNat else min v.toNat n)<=n
  by_cases hv:v < 0
  ·rw [if_pos hv];omega
  ·rw [if_neg hv];exact Nat.min_le_right _ _
theorem Y6 (v:Int) (n d:Nat):(if v < 0 then max (v+(n:Int)) 0 else min v (n:Int))=((sIx n d (some v):Nat):Int):=by
 show (if v < 0 then max (v+(n:Int)) 0 else min v (n:Int))=(((if v < 0 then (v+(n:Int)).toNat else min v.toNat n):Nat):Int)
 by_cases hv:v < 0
 ·simp only [if_pos hv];omega
 ·simp only [if_neg hv];omega
theorem W3 (lo hi:Option Int) (n:Nat):zj lo hi 1 (n:Int)=(((sIx n 0 lo:Nat):Int),((sIx n n hi:Nat):Int)):=by
 have h1:¬ ((1:Int) < 0):=by omega
 unfold zj;simp only [h1,if_false];refine Prod.ext ?_ ?_
 ·cases lo with
  | none=>rfl
  | some v=>exact Y6 v n 0
 ·cases hi with
  | none=>rfl
  | some v=>exact Y6 v n n
theorem W4 (i j:Nat):vo (i:Int) (j:Int) 1=j - i:=by
 unfold vo;have h1:(1:Int) > 0:=by omega
 simp only [h1,if_true,Int.ediv_one];split <;> omega
theorem Og {v:Value}{o:Option Int}{Q:Option Int->Shared->Prop}(p:IsPart v o) (h:Q o s):wpAny (model prog w) A (Builtin.Slice.slicePartIndex v) Q E s:=by
 cases p with
 | none=>exact slicePart_none h
 | int i t=>exact slicePart_int h
theorem sliceApplied_gen {sl:Addr}{vl vu:Value}{lo hi:Option Int}{n:Nat}{Q:Int×Int×Nat->Shared->Prop}(hs:s.heap.IsSliceOf sl vl vu .none) (pl:IsPart vl lo) (pu:IsPart vu hi)
  (h:Q (((sIx n 0 lo:Nat):Int),1,sIx n n hi - sIx n 0 lo) s):wpAny (model prog w) A (HX (.ref sl) (pure (n:Int))) Q E s:=by
 obtain ⟨os,hos,hcs,hds⟩:=id hs;unfold HX Builtin.Slice.sliceFields;refine ak (ak (jx hos hds (x:=vl) rfl (ak (jx hos hds (x:=vu) rfl (ak (jx hos hds (x:=.none) rfl (bf ?_)))))));refine ak (slicePart_none ?_);show wpAny _ _ (if ((1:Int)==0)=true then _ else _) _ _ s;rw [if_neg (by decide)];refine ak (Og pl (ak (Og pu (ak (bf ?_)))));show wpAny _ _ (match zj lo hi 1 (n:Int) with | (lo,hi)=>pure (lo,(1:Int),vo lo hi 1)) _ _ s;rw [W3 lo hi n];show wpAny _ _ (pure (((sIx n 0 lo:Nat):Int),(1:Int),vo ((sIx n 0 lo:Nat):Int) ((sIx n n hi:Nat):Int) 1)) _ _ s;rw [W4];exact bf h
theorem gP (xs:Array Value) (i k:Nat):((gw k).filterMap λ(m:Nat)=>xs[((i:Int)+(m:Int) * 1).toNat]?).toArray=((xs.toList.drop i).take k).toArray:=by
 have e:(λ(m:Nat)=>xs[((i:Int)+(m:Int) * 1).toNat]?)=λm=>xs[i+m]?:=by
  funext m;have:((i:Int)+(m:Int) * 1).toNat=i+m:=by omega
  rw [this]
 rw [e];have:=pick_run xs i k;rw [List.filterMap_map] at this;have e2:((λx=>xs[x]?) ∘ λx=>i+x)=λm=>xs[i+m]?:=rfl
 rw [e2] at this;rw [this]
theorem getItem_tuple_cut {t sl:Addr}{items:Array Value}{vl vu:Value}{lo hi:Option Int}{Q:Value->Shared->Prop}(ht:IsTup s.heap t items) (hs:s.heap.IsSliceOf sl vl vu .none) (pl:IsPart vl lo) (pu:IsPart vu hi)
  (hw:¬ (sIx items.size 0 lo=0/\sIx items.size items.size hi=items.size))
  (h:Q (.ref s.heap.objs.size) { s with heap:=s.heap.push { cls:=.type "tuple",data:=.seq ((items.toList.drop (sIx items.size 0 lo)).take (sIx items.size items.size hi - sIx items.size 0 lo)).toArray } })
  (hsz:items.size<=sizeLine):wpAny (model prog w) A (getItem (.ref t) (.ref sl)) Q E s:=by
 have htake:sizeOk (.seq ((items.toList.drop (sIx items.size 0 lo)).take (sIx items.size items.size hi - sIx items.size 0 lo)).toArray):=by
  show ((items.toList.drop (sIx items.size 0 lo)).take (sIx items.size items.size hi - sIx items.size 0 lo)).toArray.size<=sizeLine;rw [cg,yp,List.length_drop,xj];omega
 have hj:sIx items.size items.size hi<=items.size:=zZ _ _ (bx _) hi;obtain ⟨os,hos,hcs,hds⟩:=id hs
 have hTs:s.TypeIs (.ref sl) "slice":=⟨os,hos,hcs⟩
 unfold getItem
 try with_reducible refine sy ?_
 first | refine ak (bf ?_) | skip
 refine ak (VD ht.typeIs (by decide) ?_)
 refine ak (jt (name:=Str.ofString "__getitem__") ht.typeIs PyProof.Rows.slot_tuple_getitem
  (qb PyProof.Rows.slot_tuple_getitem ht.typeIs RB ?_ (SQ _ _)))
 show wpAny _ _ (yq (.ref t) >>= _) _ _ s;refine ak (tupleItemsOf_ ht ?_);refine ak (zy hTs ?_);rw [if_pos (by decide)];refine ak (sliceApplied_gen hs pl pu ?_);have hno:¬ ((((sIx items.size 0 lo:Nat):Int)==0&&(1:Int)==1&&(sIx items.size items.size hi - sIx items.size 0 lo)==items.size)=true):=by
  intro q;rw [aq,aq] at q;have q1:((sIx items.size 0 lo:Nat):Int)=0:=bw q.1.1;have q2:sIx items.size items.size hi - sIx items.size 0 lo=items.size:=bw q.2;exact hw ⟨by omega,by omega⟩
 show wpAny _ _ (if (((sIx items.size 0 lo:Nat):Int)==0&&(1:Int)==1&&(sIx items.size items.size hi - sIx items.size 0 lo)==items.size)=true then _ else _) _ _ s;rw [if_neg hno,gP]
 first
  | exact ak (m:=qd _) (jy (bf ⟨_,rfl,bf h⟩) htake)
  | exact ak (m:=qd _) (jy (ak (bf (bf ⟨_,rfl,bf h⟩))) htake)
  | exact ak (ak (m:=qd _) (jy (bf (bf ⟨_,rfl,bf h⟩)) htake))
  | exact ak (ak (m:=qd _) (jy (bf ⟨_,rfl,bf h⟩) htake))
end
end HT
namespace L2
open PySem PySem.Spec PyProof.Rows
noncomputable abbrev TO:=St->Hp->(Option Int->Hp->Prop)->Prop
noncomputable def PO (X:Cx) (e:Option Expr) (t:TO):Prop :=
 ∀ (pins:List (Addr×Obj)) (s:Shared) (σ:St) (H:Hp) (Q:Option Int->Hp->Prop),Inv X pins σ H s->t σ H Q ->
  wpAny (model X.prog X.w) X.A (evalPart e X.env) (λu s'=>∃ o H',Inv X pins σ H' s'/\IsPart u o/\Q o H') X.xe s
noncomputable def rG:TO:=λ_ H Q=>Q none H
noncomputable def Adr (t:TE):TO:=λσ H Q=>t σ H λx H1=>∃ i,x=.int i/\Q (some i) H1
theorem intsAre_of {ns:List Int}:∀ {us:List Value},Vals (ns.map V.int) us->IntsAre us ns:=by
 induction ns with
 | nil=>intro us r;rw [SX] at r;cases r;exact .nil
 | cons n ns ih =>
  intro us r;rw [dm] at r;cases r with
  | cons r1 r2 =>
   obtain ⟨t,e⟩:=r1;subst e;exact .cons n t (ih r2)
section
variable {X:Cx}{e:Expr}{te:TE}{lo hi:Option Expr}{tl th:TO}{pos p2:Pos}
theorem rH:PO X none rG:=by
 intro pins s σ H Q I h;rw [evalPart_none];exact bf ⟨none,H,I,.none,h⟩
theorem rJ (h:PE X e te):PO X (some e) (Adr te):=by
 intro pins s σ H Q I hw;rw [evalPart_some];refine thn (h pins s σ H _ I hw) ?_;rintro u s1 ⟨x,H1,I1,r1,q1⟩;obtain ⟨i,rfl,q⟩:=q1;obtain ⟨t,rfl⟩:=r1;exact ⟨some i,H1,I1,.int i t,q⟩
noncomputable def SlR (X:Cx) (r:V->Option Int->Option Int->Hp->VK->Prop):Prop :=
 ∀ (pins:List (Addr×Obj)) (s:Shared) (σ:St) (H:Hp) (x:V) (v vl vu:Value) (lo hi:Option Int) (sl:Addr) (Q:VK),Inv X pins σ H s->RelV x v->s.heap.IsSliceOf sl vl vu .none->IsPart vl lo->IsPart vu hi->r x lo hi H Q ->
  ∃ T id,typeLookup (.type T) "__getitem__"=pure (some (.builtin id))/\s.TypeIs v T/\wpAny (model X.prog X.w) X.A (getItem v (.ref sl)) (EP X pins σ Q) X.xe s
theorem SlR.or {r r':V->Option Int->Option Int->Hp->VK->Prop}(h:SlR X r) (h':SlR X r'):SlR X (λx lo hi H Q=>r x lo hi H Q\/r' x lo hi H Q):=by
 intro pins s σ H x v vl vu lo hi sl Q I rx hs pl pu q;rcases q with q|q
 ·exact h pins s σ H x v vl vu lo hi sl Q I rx hs pl pu q
 ·exact h' pins s σ H x v vl vu lo hi sl Q I rx hs pl pu q
noncomputable def tSl (r:V->Option Int->Option Int->Hp->VK->Prop) (te:TE) (tl th:TO):TE:=λσ H Q=>te σ H λx H1=>tl σ H1 λl H2=>th σ H2 λu H3=>r x l u H3 Q
theorem gQ {r:V->Option Int->Option Int->Hp->VK->Prop}(hr:SlR X r) (he:PE X e te) (hl:PO X lo tl) (hu:PO X hi th):PE X (.Subscript e (.Slice lo hi none p2) pos) (tSl r te tl th):=by
 intro pins s σ H Q I h;refine Subscript_ (thn (he pins s σ H _ I h) ?_);rintro v s1 ⟨x,H1,I1,r1,q1⟩;refine wpAny_Slice (thn (hl pins s1 σ H1 _ I1 q1) ?_);rintro vl s2 ⟨l,H2,I2,pl,q2⟩;refine thn (hu pins s2 σ H2 _ I2 q2) ?_;rintro vu s3 ⟨u,H3,I3,pu,q3⟩;rw [evalPart_none];refine bf ?_
 have I4:Inv X pins σ H3 { s3 with heap:=s3.heap.push { cls:=.type "slice",data:=.fields #[vl,vu,.none] } }:=I3.kept (t':=s3.toks) λb ob q=>ao _ q
 obtain ⟨T,id,hT,ht,hg⟩:=hr pins { s3 with heap:=s3.heap.push { cls:=.type "slice",data:=.fields #[vl,vu,.none] } } σ H3 x v vl vu l u s3.heap.objs.size Q I4 r1 (Heap.IsSliceOf.new ..) pl pu q3
 show wpAny (model X.prog X.w) X.A (subscriptTail e (.Slice lo hi none p2) v (.ref s3.heap.objs.size)) (EP X pins σ Q) X.xe { s3 with heap:=s3.heap.push { cls:=.type "slice",data:=.fields #[vl,vu,.none] } };exact tail_any (ops:=[.ref s3.heap.objs.size,v]) ht hT hg (by with_unfolding_all rfl)
noncomputable def Uy (xs:List V) (lo hi:Option Int):List V:=(xs.drop (HT.sIx xs.length 0 lo)).take (HT.sIx xs.length xs.length hi - HT.sIx xs.length 0 lo)
theorem Mr (xs:List V) (lo hi:Option Int):(Uy xs lo hi).length<=xs.length:=by
 unfold Uy;rw [yp,List.length_drop];omega
noncomputable def Aft (K:aj):V->Option Int->Option Int->Hp->VK->Prop:=λx lo hi H Q=>∃ a xs,x=.ref a/\SqT K H a xs /\
 ¬ (HT.sIx xs.length 0 lo=0/\HT.sIx xs.length xs.length hi=xs.length)/\∀ p,H p=none->Q (.ref p) (upd H p (.tup (Uy xs lo hi)))
theorem Aaa:SlR X (Aft X.K):=by
 intro pins s σ H x v vl vu lo hi sl Q I rx hs pl pu h;obtain ⟨a,xs,rfl,hx,hw,q⟩:=h;cases rx;obtain ⟨its,r,ht,hz⟩:=I.tuple hx;have hlen:its.toArray.size=xs.length:=by rw [cg];exact r.length.symm
 refine ⟨"tuple",_,PyProof.Rows.slot_tuple_getitem.lookup,ht.typeIs,?_⟩;refine HT.getItem_tuple_cut ht hs pl pu (by rw [hlen];exact hw) ?_ (by rw [hlen];exact hz);rw [hlen];refine ⟨.ref s.heap.objs.size,_,I.laid (t':=s.toks) (o:=.tup (Uy xs lo hi)) (λb ob q=>ao _ q) (bx _) ?_,rfl,q _ (I.hok.fresh (bx _))⟩;exact ⟨jg (Mr xs lo hi) hz,_,(r.drop (HT.sIx xs.length 0 lo)).take (HT.sIx xs.length xs.length hi - HT.sIx xs.length 0 lo),K9.new _ _⟩
noncomputable def Ads (K:aj):R2:=λx y H Q=>∃ a b xs ys,x=.ref a/\y=.ref b/\SqT K H a xs/\SqT K H b ys/\xs≠[]/\xs.length+ys.length<=sizeLine /\
 (ys=[]->Q (.ref a) H)/\(ys≠[]->∀ p,H p=none->Q (.ref p) (upd H p (.tup (xs++ys))))
theorem Vals.nil_iff {xs:List V}{us:List Value}(r:Vals xs us):us=[] ↔ xs=[]:=by
 cases r with
 | nil=>simp
 | cons _ _=>simp
theorem rK:OpR X (binaryOp .Add) (Ads X.K):=by
 intro pins s σ H x y v u Q I rx ry h;obtain ⟨a,b,xs,ys,rfl,rfl,ha,hb,hx,hz,q1,q2⟩:=h;cases rx;cases ry;obtain ⟨its,r1,p1,_⟩:=I.tuple ha;obtain ⟨its2,r2,p2,_⟩:=I.tuple hb;refine HT.cat_tup p1 p2 (λz=>hx (r1.nil_iff.mp z)) (λz=>⟨.ref a,H,I,rfl,q1 (r2.nil_iff.mp z)⟩) (λz=>?_) (by rw [← r1.length,← r2.length];exact hz);refine ⟨.ref s.heap.objs.size,_,I.laid (t':=s.toks) (o:=.tup (xs++ys)) (λb ob q=>ao _ q) (bx _) ?_,rfl,q2 (λw=>z (r2.nil_iff.mpr w)) _ (I.hok.fresh (bx _))⟩;exact ⟨by rw [dj];exact hz,_,r1.append r2,K9.new _ _⟩
end
noncomputable def ixN (n:Nat) (i:Int):Option Nat:=if 0<=i then (if i < n then some i.toNat else none) else if -(n:Int)<=i then some (i+n).toNat else none
noncomputable def atI {α:Type}(xs:List α) (i:Int):Option α:=(ixN xs.length i).bind λj=>xs[j]?
theorem Y7 {n:Nat}{i:Int}{j:Nat}(h:ixN n i=some j):seqIndex? i n=some j/\j < n/\-(n:Int)<=i/\i < n:=by
 unfold ixN at h
 by_cases h0:0<=i
 ·rw [if_pos h0] at h
  by_cases h1:i < n
  ·rw [if_pos h1] at h;have e:i.toNat=j:=Option.some.inj h;exact ⟨by rw [VR h0 h1,e],by omega,by omega,h1⟩
  ·rw [if_neg h1] at h;cases h
 ·rw [if_neg h0] at h
  by_cases h1:-(n:Int)<=i
  ·rw [if_pos h1] at h;have e:(i+n).toNat=j:=Option.some.inj h;exact ⟨by rw [TF (by omega) h1,e],by omega,h1,by omega⟩
  ·rw [if_neg h1] at h;cases h
theorem R3 {α:Type}{xs:List α}{i:Int}{v:α}(h:atI xs i=some v):∃ j,seqIndex? i xs.length=some j/\xs[j]?=some v/\j < xs.length/\-(xs.length:Int)<=i/\i < xs.length:=by
 unfold atI at h;cases e:ixN xs.length i with
 | none=>rw [e] at h;cases h
 | some j =>
  rw [e] at h;obtain ⟨h1,h2,h3,h4⟩:=Y7 e;exact ⟨j,h1,h,h2,h3,h4⟩
theorem R4 {α:Type}{xs:List α}{j:Nat}{v:α}(h:xs[j]?=some v):atI xs (j:Int)=some v:=by
 have hj:j < xs.length:=(dh.mp h).1;have e:ixN xs.length (j:Int)=some j:=by
  unfold ixN;rw [if_pos (by omega),if_pos (by omega)];simp
 unfold atI;rw [e];exact h
noncomputable def Nm (b:Expr):Prop:=∀ o i,subscripted b false o i=operate [o,i] (getItem o i)
noncomputable def IxR (X:Cx) (r:R2):Prop :=
 ∀ (value slice:Expr) (pins:List (Addr×Obj)) (s:Shared) (σ:St) (H:Hp) (x y:V) (v u:Value) (Q:VK),Inv X pins σ H s->RelV x v->RelV y u->r x y H Q ->
  subscripted slice false v u=operate [v,u] (getItem v u)->wpAny (model X.prog X.w) X.A (subscriptTail value slice v u) (EP X pins σ Q) X.xe s
noncomputable def MtR (X:Cx) (id:String) (r:V->List V->Hp->VK->Prop):Prop :=
 ∀ (pins:List (Addr×Obj)) (s:Shared) (σ:St) (H:Hp) (x:V) (xs:List V) (v:Value) (us:List Value) (Q:VK),Inv X pins σ H s->RelV x v->Vals xs us->r x xs H Q ->
  wpAny (model X.prog X.w) X.A (call (.builtin id) (v::us)) (EP X pins σ Q) X.xe s
section
variable {X:Cx}{a b:Expr}{ta tb:TE}{pos:Pos}
theorem IxR.or {r r':R2}(h:IxR X r) (h':IxR X r'):IxR X (λx y H Q=>r x y H Q\/r' x y H Q):=by
 intro value slice pins s σ H x y v u Q I rx ry q hs;rcases q with q|q
 ·exact h value slice pins s σ H x y v u Q I rx ry q hs
 ·exact h' value slice pins s σ H x y v u Q I rx ry q hs
theorem xQ {r:R2}(hr:IxR X r) (ha:PE X a ta) (hb:PE X b tb) (hs:Nm b):PE X (.Subscript a b pos) (tOp r ta tb):=by
 intro pins s σ H Q I h;exact Subscript_ (zO ha hb I h λv u s2 x y H2 I2 rx ry q=>hr a b pins s2 σ H2 x y v u Q I2 rx ry q (hs _ _))
noncomputable def Adt (K:aj):R2:=λx y H Q=>∃ p xs i v,x=.ref p/\y=.int i/\SqL K H p xs/\atI xs i=some v/\Q v H
noncomputable def Adu (K:aj):R2:=λx y H Q=>∃ p xs i v,x=.ref p/\y=.int i/\SqT K H p xs/\atI xs i=some v/\Q v H
noncomputable def Adv:R2:=λx y H Q=>∃ z i c,x=.str z/\y=.int i/\z.length<=sizeLine/\atI z.cps.toList i=some c/\Q (.str ⟨#[c]⟩) H
theorem rM:IxR X (Adt X.K):=by
 intro value slice pins s σ H x y v u Q I rx ry h hs;obtain ⟨p,xs,i,z,rfl,rfl,hq,he,q⟩:=h;cases rx;obtain ⟨t,rfl⟩:=ry;obtain ⟨its,r,pl,hz⟩:=I.list hq;obtain ⟨j,h1,h2,h3,h4,h5⟩:=R3 he;obtain ⟨w,ew,rw'⟩:=r.get h2;have hl:=r.length;have hn:=Jx;have fin:EP X pins σ Q w s:=⟨z,H,I,rw',q⟩
 by_cases h0:0<=i
 ·have hj:i.toNat=j:=by
   rw [VR h0 h5] at h1;exact Option.some.inj h1
  exact item_listR pl.isList h0 (by omega) (by rw [hj];simpa using ew) fin hs
 ·have hj:(i+(its.toArray.size:Int)).toNat=j:=by
   rw [TF (by omega) h4] at h1;rw [cg,← hl];exact Option.some.inj h1
  exact ug (x:=w) pl.isList.typeIs slot_list_getitem.lookup
   (wpAny_getItem_list_neg (Q:=λr s'=>r=w/\EP X pins σ Q r s') pl.isList (by omega) (by rw [cg] <;> omega) (by omega) (by rw [hj];simpa using ew) ⟨rfl,fin⟩) hs
theorem Aab:IxR X (Adu X.K):=by
 intro value slice pins s σ H x y v u Q I rx ry h hs;obtain ⟨p,xs,i,z,rfl,rfl,hq,he,q⟩:=h;cases rx;obtain ⟨t,rfl⟩:=ry;obtain ⟨its,r,pl,hz⟩:=I.tuple hq;obtain ⟨j,h1,h2,h3,h4,h5⟩:=R3 he;obtain ⟨w,ew,rw'⟩:=r.get h2;have hl:=r.length;have hn:=Jx;have fin:EP X pins σ Q w s:=⟨z,H,I,rw',q⟩;exact ug (x:=w) pl.typeIs slot_tuple_getitem.lookup
  (getItem_tuple (j:=j) (Q:=λr s'=>r=w/\EP X pins σ Q r s') pl (by omega) (by omega) (by rw [cg,← hl];exact h1) (by simpa using ew) ⟨rfl,fin⟩) hs
theorem Aac:IxR X Adv:=by
 intro value slice pins s σ H x y v u Q I rx ry h hs;obtain ⟨z,i,c,rfl,rfl,hz,he,q⟩:=h;obtain ⟨t,rfl⟩:=rx;obtain ⟨t',rfl⟩:=ry;obtain ⟨j,h1,h2,h3,h4,h5⟩:=R3 he;have hl:z.cps.toList.length=z.length:=by simp [Str.length]
 rw [hl] at h1 h4 h5;have hn:=Jx
 exact tail_any (typeIs_str s z t) slot_str_getitem.lookup (getItem_str (c:=c) (by
  have e1:decide (i < -(2 ^ 63:Int))=false:=decide_eq_false (by omega);have e2:decide (i ≥ 2 ^ 63)=false:=decide_eq_false (by omega)
  rw [e1,e2,HY]) (by rw [h1];simpa using h2) ⟨.str ⟨#[c]⟩,H,I.tok _,⟨_,rfl⟩,q⟩) hs
noncomputable def rIx (K:aj):R2:=λx y H Q=>Adt K x y H Q\/Adu K x y H Q\/Adv x y H Q
theorem Aad:IxR X (rIx X.K):=rM.or (Aab.or Aac)
theorem W5 (its:List Value) (n j:Nat) (u:Value):lz (·.setIfInBounds j u) { cls:=.type "list",data:=.seq its.toArray n }={ cls:=.type "list",data:=.seq (its.set j u).toArray n }:=by
 simp [lz]
theorem Inv.lst {pins:List (Addr×Obj)}{σ:St}{H:Hp}{s:Shared}{p:Addr}{xs:List V}(I:Inv X pins σ H s) (h:H p=some (.lst xs)) :
  ∃ (its:List Value) (n:Nat),Vals xs its/\s.heap.get? p=some { cls:=.type "list",data:=.seq its.toArray n }/\xs.length<=sizeLine:=by
 obtain ⟨z,its,n,r,e⟩:=I.hok p _ h;exact ⟨its,n,r,e,z⟩
theorem Inv.lstUpd {pins:List (Addr×Obj)}{σ:St}{H:Hp}{s:Shared}{p:Addr}{xs ys:List V}{its its':List Value}{n n':Nat}{f:Obj->Obj}(I:Inv X pins σ H s) (h:H p=some (.lst xs))
  (ho:s.heap.get? p=some { cls:=.type "list",data:=.seq its.toArray n }) (hf:f { cls:=.type "list",data:=.seq its.toArray n }={ cls:=.type "list",data:=.seq its'.toArray n' }) (r:Vals ys its') (hz:ys.length<=sizeLine) (t:Nat) :
  Inv X pins σ (upd H p (.lst ys)) { s with heap:=s.heap.update p f,toks:=t }:=by
 have e:(s.heap.update p f).get? p=some { cls:=.type "list",data:=.seq its'.toArray n' }:=by
  rw [DQ f ho (by rw [hf] <;> rfl),hf]
 refine I.write (x:=p) (e:=p) (by rw [h];trivial) (.inl rfl) (λb u hb q=>(CN _ _ (Ne.symm hb)).trans q) ⟨_,e⟩ ?_;exact ⟨hz,its',n',r,e⟩
noncomputable def Adw:V->V->V->Hp->(Hp->Prop)->Prop:=λo i v H Q=>∃ p xs k j,o=.ref p/\i=.int k/\H p=some (.lst xs)/\ixN xs.length k=some j/\Q (upd H p (.lst (xs.set j v)))
theorem set_list:Adf X Adw:=by
 intro pins s σ H o i v ov iv u Q I ro ri rv h;obtain ⟨p,xs,k,j,rfl,rfl,hp,hj,q⟩:=h;cases ro;obtain ⟨t,rfl⟩:=ri;obtain ⟨its,n,r,ho,hz⟩:=I.lst hp;obtain ⟨h1,h2,h3,h4⟩:=Y7 hj;have hl:=r.length;have hn:=Jx;have I':Inv X pins σ (upd H p (.lst (xs.set j v))) { s with heap:=s.heap.update p (lz (·.setIfInBounds j u)) } :=
  I.lstUpd hp ho (W5 its n j u) (r.set rv j) (by rw [qu];exact hz) s.toks
 by_cases h0:0<=k
 ·have hk:k.toNat=j:=by
   rw [VR h0 h4] at h1;exact Option.some.inj h1
  exact PySem.W.ki_setAt ho h0 (by omega) (by rw [cg,← hl];exact h4) (by rw [hk];exact ⟨_,I',q⟩)
 ·have hk:(k+(its.toArray.size:Int)).toNat=j:=by
   rw [TF (by omega) h3] at h1;rw [cg,← hl];exact Option.some.inj h1
  exact PySem.W.ki_setBack ho (by omega) (by rw [cg,← hl];exact h3) (by omega) (by rw [hk];exact ⟨_,I',q⟩)
theorem R5 (lo hi:Option Int) (n:Nat):(sliceBounds lo hi none n).1=((HT.sIx n 0 lo:Nat):Int)/\(sliceBounds lo hi none n).2.1=((HT.sIx n n hi:Nat):Int)/\(sliceBounds lo hi none n).2.2=1:=by
 refine ⟨?_,?_,rfl⟩
 ·cases lo with
  | none=>simp [sliceBounds,HT.sIx]
  | some i =>
   simp only [sliceBounds,HT.sIx,Option.getD_none,show (1:Int) > 0 by decide,if_true]
   by_cases h:i < 0
   ·simp only [h,if_true] <;> omega
   ·simp only [h,if_false] <;> omega
 ·cases hi with
  | none=>simp [sliceBounds,HT.sIx]
  | some i =>
   simp only [sliceBounds,HT.sIx,Option.getD_none,show (1:Int) > 0 by decide,if_true]
   by_cases h:i < 0
   ·simp only [h,if_true] <;> omega
   ·simp only [h,if_false] <;> omega
theorem Qf (its:List Value) (lo hi:Option Int):slicePick its.toArray lo hi none=((its.drop (HT.sIx its.length 0 lo)).take (HT.sIx its.length its.length hi - HT.sIx its.length 0 lo)).toArray:=by
 obtain ⟨h1,h2,h3⟩:=R5 lo hi its.toArray.size;unfold slicePick;rw [h1,h2,h3];simp only [sliceRange_one,pick_run,cg] <;> rfl
noncomputable def Afu (K:aj):V->Option Int->Option Int->Hp->VK->Prop:=λx lo hi H Q=>∃ a xs,x=.ref a/\SqL K H a xs/\∀ p,H p=none->Q (.ref p) (upd H p (.lst (Uy xs lo hi)))
theorem rN:SlR X (Afu X.K):=by
 intro pins s σ H x v vl vu lo hi sl Q I rx hs pl pu h;obtain ⟨a,xs,rfl,hx,q⟩:=h;cases rx;obtain ⟨its,r,ht,hz⟩:=I.list hx;have hlen:=r.length
 refine ⟨"list",_,slot_list_getitem.lookup,ht.isList.typeIs,?_⟩;refine wpAny_getItem_list_slice ht.isList hs pl pu .none (by simp) ?_ (by rw [cg] <;> omega);rw [Qf,← hlen];refine ⟨.ref s.heap.objs.size,_,I.laid (t':=s.toks) (o:=.lst (Uy xs lo hi)) (λb ob q=>ao _ q) (bx _) ?_,rfl,q _ (I.hok.fresh (bx _))⟩;exact ⟨jg (Mr xs lo hi) hz,_,0,(r.drop (HT.sIx xs.length 0 lo)).take (HT.sIx xs.length xs.length hi - HT.sIx xs.length 0 lo),bh _ rfl⟩
theorem R6:Ay X (.builtin "len") (λxs H Q=>∃ p ys,xs=[.ref p]/\(SqL X.K H p ys\/SqT X.K H p ys)/\Q (.int ys.length) H):=by
 intro pins s σ H xs us Q I r h;obtain ⟨p,ys,rfl,hq,q⟩:=h;obtain ⟨u,rfl,rx⟩:=vals1 r;cases rx;have hn:=Jx;rcases hq with hq|hq
 ·obtain ⟨its,r',pl,hz⟩:=I.list hq;have hlen:=r'.length;exact Calls.call_len_list pl.isList (by simp only [cg] <;> omega) ⟨.int ys.length,H,I.tok _,⟨s.toks+1,by rw [cg,hlen]⟩,q⟩
 ·obtain ⟨its,r',pl,hz⟩:=I.tuple hq;have hlen:=r'.length;exact len_tuple pl (by simp only [cg] <;> omega) ⟨.int ys.length,H,I.tok _,⟨s.toks+1,by rw [cg,hlen]⟩,q⟩
theorem R7:Ay X (.builtin "len") (λxs H Q=>∃ z,xs=[.str z]/\z.length<=sizeLine/\Q (.int z.length) H):=by
 intro pins s σ H xs us Q I r h;obtain ⟨z,rfl,hz,q⟩:=h;obtain ⟨u,rfl,t,rfl⟩:=vals1 r;have hn:=Jx;exact len_str (by omega) ⟨.int z.length,H,I.tok _,⟨_,rfl⟩,q⟩
theorem Ay.or {f:Value}{r r':List V->Hp->VK->Prop}(h:Ay X f r) (h':Ay X f r'):Ay X f (λxs H Q=>r xs H Q\/r' xs H Q):=by
 intro pins s σ H xs us Q I rs q;rcases q with q|q
 ·exact h pins s σ H xs us Q I rs q
 ·exact h' pins s σ H xs us Q I rs q
theorem R8:Ay X (.type "list") (λxs H Q=>∃ p ys,xs=[.ref p]/\(SqL X.K H p ys\/SqT X.K H p ys)/\∀ l,H l=none->Q (.ref l) (upd H l (.lst ys))):=by
 intro pins s σ H xs us Q I r h;obtain ⟨p,ys,rfl,hq,q⟩:=h;obtain ⟨u,rfl,rx⟩:=vals1 r;cases rx;have fin:∀ (its:List Value),Vals ys its->ys.length<=sizeLine->∀ (h':Heap) (c':Nat),(∀ b o',s.heap.get? b=some o'->h'.get? b=some o') ->
   h'.get? s.heap.objs.size=some { cls:=.type "list",dict:=none,data:=.seq its.toArray c',slots:=#[] }->EP X pins σ Q (.ref s.heap.objs.size) { s with heap:=h' }:=λits r' hz h' c' kp e =>
  ⟨.ref s.heap.objs.size,_,I.laid (t':=s.toks) kp (bx _) (show Bx X.prog X.w _ h' _ (.lst ys) from ⟨hz,its,c',r',e⟩),rfl,q _ (I.hok.fresh (bx _))⟩
 rcases hq with hq|hq
 ·obtain ⟨its,r',pl,hz⟩:=I.list hq;have hlen:=r'.length;obtain ⟨o,ho,hc,n,hd⟩:=pl.isList;exact call_list_seq p (.inl rfl) ho hc hd (λh' c' kp e=>fin its r' hz h' c' kp e) (by simp only [cg] <;> omega)
 ·obtain ⟨its,r',pl,hz⟩:=I.tuple hq;have hlen:=r'.length;obtain ⟨o,ho,hc,n,hd⟩:=pl;exact call_list_seq p (.inr rfl) ho hc hd (λh' c' kp e=>fin its r' hz h' c' kp e) (by simp only [cg] <;> omega)
theorem Qg:Ay X (.type "tuple") (λxs H Q=>∃ p ys,xs=[.ref p]/\((SqL X.K H p ys/\∀ l,H l=none->Q (.ref l) (upd H l (.tup ys)))\/(SqT X.K H p ys/\Q (.ref p) H))):=by
 intro pins s σ H xs us Q I r h;obtain ⟨p,ys,rfl,h⟩:=h;obtain ⟨u,rfl,rx⟩:=vals1 r;cases rx;rcases h with ⟨hq,q⟩|⟨hq,q⟩
 ·obtain ⟨its,r',pl,hz⟩:=I.list hq;have hlen:=r'.length;refine call_tuple_list pl.isList (λh' kp=>?_) (by simp only [cg] <;> omega);have I1:Inv X pins σ H { s with heap:=h' }:=I.kept (t':=s.toks) kp
  have I2:Inv X pins σ (upd H h'.objs.size (.tup ys)) { s with heap:=h'.push { cls:=.type "tuple",data:=.seq its.toArray } } :=
   I1.laid (t':=s.toks) (λb o e=>ao _ e) (bx _) (show Bx X.prog X.w _ _ _ (.tup ys) from ⟨hz,its,r',K9.new _ _⟩)
  exact ⟨.ref h'.objs.size,_,I2,rfl,q _ (I1.hok.fresh (bx _))⟩
 ·obtain ⟨its,r',pl,hz⟩:=I.tuple hq;exact call_tuple_same pl ⟨.ref p,H,I,rfl,q⟩
noncomputable def tyV (K:aj) (T:String) (x:V) (H:Hp):Prop:=match x with
 | .str _=>T = "str"
 | .int _=>T = "int"
 | .ref p=>(T = "list"/\∃ xs,SqL K H p xs)\/(T = "tuple"/\∃ xs,SqT K H p xs) \/
   (T = "dict"/\((∃ kvs,H p=some (.dK kvs))\/∃ kvs,H p=some (.dT kvs)))\/(T = "set"/\∃ S n,H p=some (.set S n))
 | _=>False
theorem gR {pins:List (Addr×Obj)}{σ:St}{H:Hp}{s:Shared}{T:String}{x:V}{v:Value}(I:Inv X pins σ H s) (r:RelV x v) (ty:tyV X.K T x H) :
  s.TypeIs v T/\∀ a,v=.ref a->∃ ob,s.heap.get? a=some ob/\ob.dict=none:=by
 cases x with
 | str z =>
  obtain ⟨t,rfl⟩:=r
  cases (show T = "str" from ty);exact ⟨typeIs_str s z t,λ_ e=>nomatch e⟩
 | int i =>
  obtain ⟨t,rfl⟩:=r
  cases (show T = "int" from ty);exact ⟨WM s i t,λ_ e=>nomatch e⟩
 | ref p =>
  cases r;rcases ty with ⟨rfl,xs,hq⟩|⟨rfl,xs,hq⟩|⟨rfl,hk⟩|⟨rfl,S,n,hk⟩
  ·obtain ⟨its,_,pl,_⟩:=I.list hq;refine ⟨pl.isList.typeIs,λa e=>?_⟩;cases e;obtain ⟨o,n,e,c,hd,_⟩:=pl;exact ⟨o,e,hd⟩
  ·obtain ⟨its,_,⟨o,e,c,d,n,dd⟩,_⟩:=I.tupleP hq;refine ⟨⟨o,e,c⟩,λa e2=>?_⟩;cases e2;exact ⟨o,e,d⟩
  ·have z:∃ o,s.heap.get? p=some o/\o.ExactDict:=by
    rcases hk with ⟨kvs,hk⟩|⟨kvs,hk⟩
    ·obtain ⟨_,_,_,_,o,_,_,e,ex,_⟩:=I.hok p _ hk;exact ⟨o,e,ex⟩
    ·obtain ⟨_,_,_,_,o,_,_,e,ex,_⟩:=I.hok p _ hk;exact ⟨o,e,ex⟩
   obtain ⟨o,e,ex⟩:=z;refine ⟨⟨o,e,ex.1⟩,λa e2=>?_⟩;cases e2;exact ⟨o,e,ex.2.1⟩
  ·obtain ⟨o,_,_,_,e,ex,_⟩:=I.hok p _ hk;refine ⟨⟨o,e,ex.1⟩,λa e2=>?_⟩;cases e2;exact ⟨o,e,ex.2.1⟩
 | _=>exact False.elim ty
noncomputable def Afv (K:aj) (T:String) (r:V->List V->Hp->VK->Prop) (to:TE):TE:=λσ H Q=>to σ H λx H1=>tyV K T x H1/\r x [] H1 Q
noncomputable def tBM (K:aj) (T:String) (r:V->List V->Hp->VK->Prop) (to:TE) (t:TA):TE:=λσ H Q=>to σ H λx H1=>tyV K T x H1/\t σ H1 λxs H2=>r x xs H2 Q
variable {o e:Expr}{es:List Expr}{to:TE}{t:TA}{name:Str}{apos cpos:Pos}{T id:String}{r:V->List V->Hp->VK->Prop}
theorem Aae (pa:PlainAttrs T) (slot:Slot T name id) (hty:typeOf (.builtin id)=pure (.type "method_descriptor")) (hm:MtR X id r) (ho:PE X o to)
  (hbase:attributeBase o name X.env (eval o X.env)=eval o X.env:=by rfl) (hline:(apos.endLine==cpos.line)=true:=by rfl):PE X (.Call (.Attribute o name apos) [] [] cpos) (Afv X.K T r to):=by
 intro pins s σ H Q I h;refine wpAny_Call_method0_late hbase hline (thn (ho pins s σ H _ I h) ?_);rintro v s1 ⟨x,H1,I1,r1,ty,q1⟩;obtain ⟨h1,h2⟩:=gR I1 r1 ty;exact ⟨T,id,pa,slot,hty,h1,h2,CP rfl (PySem.evalArgs_none (hm pins s1 σ H1 x [] v [] Q I1 r1 .nil q1))⟩
theorem Adx (pa:PlainAttrs T) (slot:Slot T name id) (hty:typeOf (.builtin id)=pure (.type "method_descriptor")) (hm:MtR X id r) (ho:PE X o to) (ha:PA X (e::es) t)
  (hbase:attributeBase o name X.env (eval o X.env)=eval o X.env:=by rfl)
  (hfew:((backTo cpos (starEach (e::es) X.env)).all (λx=>!x.1)&&(backToKw cpos (keywordEach [] X.env)).all (λx=>x.1.isSome)
   && decide ((e::es).length+([]:List Keyword).length+(if ([]:List Keyword).isEmpty then 0 else 1) < 30))=true:=by rfl)
  (hline:(apos.endLine==cpos.line)=true:=by rfl) (hs:starEach (e::es) X.env=(false,eval e X.env)::starEach es X.env:=by rfl) (hplain:(backTo cpos (starEach es X.env)).any (·.1)=false:=by rfl) :
  PE X (.Call (.Attribute o name apos) (e::es) [] cpos) (tBM X.K T r to t):=by
 intro pins s σ H Q I h;refine NK hbase hfew hline rfl (thn (ho pins s σ H _ I h) ?_);rintro v s1 ⟨x,H1,I1,r1,ty,q1⟩;obtain ⟨h1,h2⟩:=gR I1 r1 ty;refine ⟨T,id,pa,slot,hty,h1,h2,?_⟩;have hA:=ha cpos pins s1 σ H1 _ I1 q1;rw [hs] at hA ⊢;refine CP (by show (false || (backTo cpos (starEach es X.env)).any (·.1))=false;rw [hplain] <;> rfl) (QG ?_);refine thn hA ?_;rintro us s2 ⟨vs,H2,I2,r2,q2⟩;exact hm pins s2 σ H2 x vs v us Q I2 r1 r2 q2
end
noncomputable def MtM (X:Cx) (id:String) (r:V->List V->Hp->VK->Prop):Prop :=
 ∀ (pins:List (Addr×Obj)) (s:Shared) (σ:St) (H:Hp) (x:V) (xs:List V) (v:Value) (us:List Value) (Q:VK),Inv X pins σ H s->RelV x v->Vals xs us->r x xs H Q ->
  wpAny (model X.prog X.w) X.A (call (.builtin id) (v::us)) (EP X pins σ Q) X.xe s
theorem Vals.one {x:V}{us:List Value}(h:Vals [x] us):∃ u,us=[u]/\RelV x u:=by
 cases h with
 | cons r t=>cases t;exact ⟨_,rfl,r⟩
theorem Vals.two {x y:V}{us:List Value}(h:Vals [x,y] us):∃ u v,us=[u,v]/\RelV x u/\RelV y v:=by
 cases h with
 | cons r t =>
  obtain ⟨v,e,q⟩:=Vals.one t;subst e;exact ⟨_,_,rfl,r,q⟩
theorem Vals.rep {xs:List V}{us:List Value}(h:Vals xs us):∀ k:Nat,Vals (au k xs).flatten (au k us).flatten
 | 0=>.nil
 | k+1=>by
  rw [jq,jq,rm,rm];exact Vals.append h (Vals.rep h k)
theorem foldl_rep (its:List Value):∀ (k:Nat) (acc:List Value),
  BR (λx1 x2=>x1++x2) acc.toArray (au k its.toArray)=(acc++(au k its).flatten).toArray
 | 0,acc=>by simp
 | k+1,acc=>by
  have e:acc.toArray++its.toArray=(acc++its).toArray:=by simp
  have e2:(acc++its)++(au k its).flatten=acc++(au (k+1) its).flatten:=by
   rw [jq,rm,su]
  rw [← e2,← foldl_rep its k (acc++its),← e,jq,List.foldl_cons]
section
variable {X:Cx}{pins:List (Addr×Obj)}{σ:St}{H:Hp}{s:Shared}{l b:Addr}{xs ys zs:List V}
theorem Inv.lset {its its':List Value}{n:Nat}{f:Array Value->Array Value}{t':Nat}(I:Inv X pins σ H s) (hH:H l=some (.lst xs))
  (e:s.heap.get? l=some { cls:=.type "list",data:=.seq its.toArray n }) (hf:f its.toArray=its'.toArray) (hv:Vals ys its') (hz:ys.length<=sizeLine) :
  Inv X pins σ (upd H l (.lst ys)) { s with heap:=s.heap.update l (lz f),toks:=t' }:=by
 have q:=PySem.IsL.update e f;rw [hf] at q;refine I.write (x:=l) (e:=l) (by rw [hH];exact trivial) (.inl rfl) (λb' u hb hu=>(CN s.heap (lz f) (Ne.symm hb)).trans hu) ⟨_,q⟩ ?_;exact ⟨hz,its',_,hv,q⟩
theorem Inv.lnew {its:List Value}{t':Nat}(I:Inv X pins σ H s) (hv:Vals ys its) (hz:ys.length<=sizeLine) :
  Inv X pins σ (upd H s.heap.objs.size (.lst ys)) { s with heap:=s.heap.push { cls:=.type "list",data:=.seq its.toArray },toks:=t' } :=
 I.laid (λ_ _ q=>ao _ q) (bx _) ⟨hz,its,0,hv,bh _ rfl⟩
theorem Inv.fresh (I:Inv X pins σ H s):H s.heap.objs.size=none:=I.hok.fresh (bx _)
theorem Inv.lstM (I:Inv X pins σ H s) (hH:H l=some (.lst xs)):xs.length<=sizeLine/\∃ (its:List Value) (n:Nat),Vals xs its/\xs.length=its.length/\s.heap.get? l=some { cls:=.type "list",data:=.seq its.toArray n }:=by
 obtain ⟨z,its,n,r,e⟩:=I.hok l _ hH;exact ⟨z,its,n,r,r.length,e⟩
theorem gU {n:Nat}(h:n<=sizeLine):BJ n=false:=by
 unfold BJ;exact decide_eq_false (by omega)
end
section
variable {X:Cx}
noncomputable def rO:V->List V->Hp->VK->Prop:=λx vs H Q=>∃ l xs y,x=.ref l/\vs=[y]/\H l=some (.lst xs)/\xs.length < sizeLine/\Q .non (upd H l (.lst (xs++[y])))
theorem bL:MtM X "list.append" rO:=by
 intro pins s σ H x vs v us Q I rx rv h;obtain ⟨l,xs,y,rfl,rfl,hH,hz,q⟩:=h;cases rx;obtain ⟨u,rfl,ru⟩:=rv.one;obtain ⟨z,its,n,r,hl,e⟩:=I.lstM hH;refine vq F.slot_list_append ⟨_,e,rfl⟩ F.entry_list_append (F.args_list_append_2 _ _) (PySem.list_append l its.toArray n u (by rw [cg];omega)) ⟨e,?_⟩;refine ⟨.non,_,I.lset (its':=its++[u]) hH e (by simp) (r.append (.cons ru .nil)) ?_,rfl,q⟩;rw [dj,kj];omega
noncomputable def Afw:R2:=λx y H Q=>∃ l b xs zs,x=.ref l/\y=.ref b/\H l=some (.lst xs)/\H b=some (.lst zs)/\xs.length+zs.length<=sizeLine/\∀ p,H p=none->Q (.ref p) (upd H p (.lst (xs++zs)))
theorem Aaf:OpR X (binaryOp .Add) Afw:=by
 intro pins s σ H x y v u Q I rx ry h;obtain ⟨l,b,xs,zs,rfl,rfl,hH,hB,hz,q⟩:=h;cases rx;cases ry;obtain ⟨z,its,n,r,hl,e⟩:=I.lstM hH;obtain ⟨z2,its2,n2,r2,hl2,e2⟩:=I.lstM hB;refine PySem.P.add_list e e2 ?_ (by rw [cg,cg];omega);have ea:its.toArray++its2.toArray=(its++its2).toArray:=by simp
 rw [ea];exact ⟨.ref _,_,I.lnew (t':=s.toks) (r.append r2) (by rw [dj];omega),rfl,q _ I.fresh⟩
noncomputable def Afx:R2:=λx y H Q=>∃ l k xs,x=.ref l/\y=.int k/\H l=some (.lst xs)/\-(2 ^ 63)<=k/\k < 2 ^ 63/\xs.length * k.toNat<=sizeLine /\
 ∀ p,H p=none->Q (.ref p) (upd H p (.lst (au k.toNat xs).flatten))
theorem len_rep {α:Type}(xs:List α) (k:Nat):(au k xs).flatten.length=k * xs.length:=by
 induction k with
 | zero=>simp
 | succ k ih=>rw [jq,rm,dj,ih,Nat.succ_mul,Nat.add_comm]
theorem Aag:OpR X (binaryOp .Mult) Afx:=by
 intro pins s σ H x y v u Q I rx ry h;obtain ⟨l,k,xs,rfl,rfl,hH,h1,h2,hz,q⟩:=h;cases rx;obtain ⟨t,rfl⟩:=ry;obtain ⟨z,its,n,r,hl,e⟩:=I.lstM hH;have hlen:its.toArray.size * k.toNat<=sizeLine:=by rw [cg,← hl];exact hz
 have hcap:¬ its.toArray.size * k.toNat > (2 ^ 63 - 1) / 8:=by
  have:(sizeLine:Nat)<=(2 ^ 63 - 1) / 8:=by decide
  omega
 have hfit:¬ (!Builtin.List.listFitsIndex k)=true:=by
  rw [fitsIndex_both h1 h2];exact iu
 have hlong:¬ BJ (its.toArray.size * k.toNat)=true:=by
  rw [gU hlen];exact iu
 have hnew:BR (λx1 x2=>x1++x2) #[] (au (if its.toArray.isEmpty=true then 0 else k.toNat) its.toArray)=(au k.toNat its).flatten.toArray:=by
  have f0:∀ m:Nat,BR (λx1 x2=>x1++x2) #[] (au m its.toArray)=(au m its).flatten.toArray:=λm=>by
   have:=foldl_rep its m [];rw [MK] at this;exact this
  rw [f0];cases its with
  | nil=>simp
  | cons a r'=>rw [if_neg (by simp)]
 refine zm (T := "list") (U := "int") (by decide) ⟨_,e,rfl⟩ (λs'=>WM s' k t) noFill_list_mul F.fills_int_mul F.slot_int_rmul repeat_list F.slot_int_index.lookup
  (vq F.slot_int_rmul (WM s k t) F.entry_int_rmul (F.args_int_rmul_2 _ _) (int___rmul___int_list k t l its.toArray n)
   ⟨e,rfl,⟨_,e,rfl⟩,vq F.slot_list_mul ⟨_,e,rfl⟩ F.entry_list_mul (F.args_list_mul_2 _ _) (AutoListH.list___mul___list_int_3 l its.toArray n k t hfit hcap hlong) ⟨e,?_⟩⟩)
 rw [hnew];exact ⟨.ref _,_,I.lnew (t':=s.toks) (r.rep k.toNat) (by rw [len_rep,Nat.mul_comm];exact hz),rfl,q _ I.fresh⟩
end
section
variable {prog:Program}{w:World}{A:Around}{E:Value->Shared->Prop}{s:Shared}
end
section
variable {X:Cx}
end
end L2
namespace Att
open PySem PySem.W PySem.Calls PyProof.Rows
theorem Nh {P:Params}{h:Heap}:∀ (ns:List Int) (vs:List Value),WellAll P h vs (ns.map WData.int)->IntsAre vs ns:=by
 intro ns
 induction ns with
 | nil =>
  intro vs w;rw [SX] at w;cases w;exact .nil
 | cons n ns ih =>
  intro vs w;rw [dm] at w;cases w with
  | cons a b =>
   cases a;exact .cons _ _ (ih _ b)
theorem bM {l:OpenLaw}{n:Nat}(hn:l.most=some n) {P:Params}{h:Heap}{args:List WData}{vals:List Value}
  (hpre:l.row.toRowW.claim.pre args=true) (hwl:WellAll P h vals args) :
  ∃ a vs ns,vals=[Value.ref a]/\args=[WData.list (ns.map WData.int)]/\h.get? a=some { cls:=.type "list",data:=.seq vs.toArray }/\IntsAre vs ns/\ns.length<=n:=by
 have hsh:WShape.hasAll [] args [.list .int]=true:=(pre_splitW hpre).1;have hc:l.pre.holds [] { args:=args }=true:=(pre_splitW hpre).2;obtain ⟨d,r,rfl,h1,h2⟩:=hasAllW_cons hsh;obtain rfl:=hasAllW_nil h2;obtain ⟨xs,rfl,h3⟩:=hasW_list h1;obtain ⟨ns,rfl⟩:=items_int h3;have hlen:ns.length<=n:=by
  unfold OpenLaw.pre at hc;have h4:(WTm.not (.lt (.lit (.int (n:Int))) (.len (.arg 0)))).holds [] { args:=[.list (ns.map .int)] }=true:=by
   have h4:=(holds_andW hc).1;rw [hn] at h4;exact h4
  have h5:=condW_of h4 (w_not (w_lt w_lit (w_len_list (w_arg rfl))));rw [fu] at h5;refine Nat.le_of_not_lt λq=>?_
  have q':(n:Int) < ((ns.length:Nat):Int):=by omega
  first
   | (rw [decide_eq_true q'] at h5;exact absurd h5 (by decide))
   | (simp at h5;omega)
 cases hwl with
 | cons w1 w2 =>
  cases w2;cases w1 with
  | list ho hall=>exact ⟨_,_,ns,rfl,rfl,ho,Nh ns _ hall,hlen⟩
theorem bN (l:OpenLaw) (args:List WData):l.row.toRowW.claim.post args (.bool true) args=true :=
 postW_of (r:=l.row.toRowW) (X:=(true==true))
  (show WShape.has [] (.bool true) .bool=true by first | rfl | decide | simp [WShape.has,WShape.arms,WShape.armsAll])
  (show (WTm.eq .res (.lit (.bool true))).value [] { args:=args,res:=some (.bool true),after:=args }=some (.bool (true==true)) from w_eq_bool (w_res rfl) w_lit) rfl
theorem attach_call {l:OpenLaw}{n:Nat}{q:Program}{loose:List Str}{XP:(Str->Option Value)->Heap->Prop}{YP:World->Heap->Prop}{d:DefRec}
  (hn:l.most=some n) (hdf:d.params.defaults=[])
  (call:∀ (w:World) (s₀ s₁:Shared) (mg mb:Str->Option Value) (fa:Addr) (o:Obj) (pm cd doc:Value) (a:Addr) (vs:List Value) (ns:List Int),
   Ground q loose [] XP w s₀ mg mb s₁.heap->YP w s₁.heap ->
   s₁.heap.get? fa=some o->o.data=.func (docDef d.name d.params d.body d.scope pm cd doc)->s₁.heap.CodeRec cd d.name->mg d.name=some (.ref fa) ->
   s₁.heap.get? a=some { cls:=.type "list",data:=.seq vs.toArray }->IntsAre vs ns->ns.length<=n->s₁.gens=#[] ->
   codeAny (model l.prog w) callerA (.call (.ref fa) ⟨[.ref a],[]⟩) (λr s'=>r=.ok (.ret (.bool true))/\OldK s₁.heap s'.heap/\s'.os=s₁.os/\AllBare s'.gens) s₁) :
  WalkO q loose XP YP l.row.toRowW d [] (λf vs=>PySem.call f vs):=by
 intro w s₀ s₁ mg mb G Y fa o pm cd doc dV kV ho hd hcd hD hmg hg args vals as hpre hlay hrd hwl hlo;obtain rfl:dV=.none:=Dflts.none hD hdf;obtain rfl:kV=.none:=Dflts.noKw hD;obtain ⟨a,vs,ns,rfl,rfl,hobj,hints,hlen⟩:=bM hn hpre hwl;refine enter_call (JP (call w s₀ s₁ mg mb fa o pm cd doc a vs ns G Y ho (fd_plain hd) hcd hmg hobj hints hlen hg) λr s' hq=>?_);obtain ⟨rfl,h2,h3,h4⟩:=hq;exact ⟨.inl ⟨.bool true,.bool true,[],rfl,λ_=>rfl,.bool true,bN l _,λ_=>⟨List.Pairwise.nil,λ_ hm=>(nomatch hm)⟩⟩,h2,h3,h4⟩
section
variable {prog:Program}{w:World}{A:Around}{E:Value->Shared->Prop}{s:Shared}{K:Frag}
end
end Att
namespace L2
open PySem PySem.Spec PyProof.Rows
theorem Fz:∀ {vs:List Value}{ns:List Int},IntsAre vs ns->Vals (ns.map V.int) vs
 | _,_,.nil=>.nil
 | _,_,.cons n t h=>.cons ⟨t,rfl⟩ (Fz h)
noncomputable def Av (s:Stmt):Arguments:=match s with
 | .FunctionDef _ a _ _ _ _ _ _ _ _=>a
 | _=>{ posonlyargs:=[],args:=[],vararg:=none,kwonlyargs:=[],kw_defaults:=[],kwarg:=none,defaults:=[] }
noncomputable def Aj (s:Stmt):List Stmt:=match s with
 | .FunctionDef _ _ b _ _ _ _ _ _ _=>b
 | _=>[]
noncomputable def Ac (s:Stmt):Scope:=match s with
 | .FunctionDef _ _ _ _ _ _ sc _ _ _=>sc
 | _=>{ kind:=.function,names:=[],isGenerator:=false,isCoroutine:=false }
noncomputable abbrev CX0:CXT:=λ_ _ _ _ _ _=>False
noncomputable abbrev E0:XK:=λ_ _ _=>False
theorem Kl {X:Cx}:Bh CX0 X E0:=λ_ _ _ _ _ _ _ h=>h.elim
structure Fun (K:aj) (x qual:Str) (st:Stmt) (f:Addr) (fd:FuncData):Prop where
 ex:∃ (oc:Value) (od:Option Addr) (kV doc pm:Value) (an:Option Addr) (cdv ct:Value) (osl:Array (Option Value)),
  fd=wj x qual (Av st) (Aj st) (Ac st) .none kV doc pm an cdv ct/\K.lookup f=some ⟨oc,od,.func fd,osl⟩/\vy K cdv qual=true
 kp:iw K (.ref f)=true
section
variable {P:Program}{w:World}{K:aj}{mg:Str->Option Value}{base:Heap}
theorem Fun.ok {x qual:Str}{st:Stmt}{f:Addr}{fd:FuncData}{N ps:List Str}{k:Nat}{sp:Sp}(F:Fun K x qual st f fd) (S:FnScope N ps (Ac st)) (len:∀ vs H Q E,sp vs H Q E->vs.length=ps.length)
  (hbody:∀ (cdv:Value) (A:Around) (outer:List Env) (s:Shared) (H:Hp) (vs:List V) (Q:VK) (E:XK),Room k (A.deeper (envOfC qual (Ac st) s.heap.objs.size f cdv))->sp vs H Q E ->
   ∃ t,PSs (Gq CX0 P w K mg base N qual (Ac st) f cdv A outer s H E).nox (Aj st) t/\t { nx:=λ_ H'=>Q .non H',rt:=Q } (start N vs) H):FnOk P w K mg base CX0 (k+1) f fd ps sp:=by
 obtain ⟨oc,od,kV,doc,pm,an,cdv,ct,osl,rfl,lk,hcd⟩:=F.ex;refine xP lk hcd S len λA outer s H vs Q E hr hsp=>?_
 obtain ⟨t,h,q⟩:=hbody cdv A outer s H vs Q E hr hsp;exact ⟨t,h.nox,q⟩
theorem Jz {x qual:Str}{st:Stmt}{f:Addr}{oc:Value}{od an:Option Addr}{osl:Array (Option Value)}{kV doc pm cdv ct:Value}(l:K.lookup f=some ⟨oc,od,.func (wj x qual (Av st) (Aj st) (Ac st) .none kV doc pm an cdv ct),osl⟩)
  (c:vy K cdv qual=true) (k:iw K (.ref f)=true):Fun K x qual st f (wj x qual (Av st) (Aj st) (Ac st) .none kV doc pm an cdv ct):=⟨⟨oc,od,kV,doc,pm,an,cdv,ct,osl,rfl,l,c⟩,k⟩
end
section
variable {X:Cx}
end
theorem R9 {A B:Prop}(h:B):if false=true then A else B:=by
 rw [if_neg iu];exact h
theorem Sd {A B:Prop}(h:A):if true=true then A else B:=by
 rw [if_pos rfl];exact h
section
variable {κ:Type} [DecidableEq κ]
noncomputable def Km (kvs:List (κ×V)) (k:κ):Option V:=(kvs.find? λkv=>decide (kv.1=k)).map (·.2)
noncomputable def putK (kvs:List (κ×V)) (k:κ) (v:V):List (κ×V) :=
 if (kvs.any λkv=>decide (kv.1=k))=true then kvs.map (λkv=>if kv.1=k then (kv.1,v) else kv) else kvs++[(k,v)]
theorem Ko {p:κ×V}{r:List (κ×V)}{k:κ}(e:p.1=k):Km (p::r) k=some p.2:=by simp [Km,lg,e]
theorem Kp {p:κ×V}{r:List (κ×V)}{k:κ}(e:¬ p.1=k):Km (p::r) k=Km r k:=by simp [Km,lg,e]
theorem Uz (k:κ):∀ kvs:List (κ×V),(kvs.any λkv=>decide (kv.1=k))=(Km kvs k).isSome
 | []=>rfl
 | p::r=>by
  rw [yr]
  by_cases e:p.1=k
  ·simp only [Ko e,decide_eq_true e,Bool.true_or,TJ]
  ·rw [Kp e,decide_eq_false e,Bool.false_or];exact Uz k r
theorem Ms (kvs:List (κ×V)) (k:κ) (v:V):(putK kvs k v).length<=kvs.length+1:=by
 unfold putK;split
 ·rw [fu];omega
 ·rw [dj,fj,FJ];omega
theorem Jv.isSome_eq {o:Option V}{u:Option Value}(r:Jv o u):o.isSome=u.isSome:=by
 cases o with
 | none=>cases u with
  | none=>rfl
  | some _=>exact (show False from r).elim
 | some _=>cases u with
  | none=>exact (show False from r).elim
  | some _=>rfl
theorem KV.val {kvs:List (κ×V)}{vs:List (κ×Value)}(r:KV kvs vs) (k:κ):Jv (Km kvs k) (valueAt vs k):=by
 unfold KV at r
 induction r with
 | nil=>exact True.intro
 | @cons p q ps qs h t ih =>
  obtain ⟨h1,h2⟩:=h
  by_cases e:p.1=k
  ·have e':q.1=k:=h1.symm.trans e;have b:valueAt (q::qs) k=some q.2:=by simp [valueAt,lg,e']
   rw [Ko e,b];exact h2
  ·have e':¬ q.1=k:=λz=>e (h1.trans z)
   have b:valueAt (q::qs) k=valueAt qs k:=by simp [valueAt,lg,e']
   rw [Kp e,b];exact ih
theorem KV.any {kvs:List (κ×V)}{vs:List (κ×Value)}(r:KV kvs vs) (k:κ):(kvs.any λkv=>decide (kv.1=k))=vs.any λkv=>decide (kv.1=k):=by
 unfold KV at r
 induction r with
 | nil=>rfl
 | cons h t ih=>rw [yr,yr,ih,h.1]
theorem KV.repl {kvs:List (κ×V)}{vs:List (κ×Value)}(r:KV kvs vs) (k:κ) {y:V}{u:Value}(ry:RelV y u) :
  KV (kvs.map λkv=>if kv.1=k then (kv.1,y) else kv) (vs.map λkv=>if kv.1=k then (kv.1,u) else kv):=by
 unfold KV at r ⊢
 induction r with
 | nil=>exact .nil
 | @cons p q ps qs h t ih =>
  rw [dm,dm];refine .cons ?_ ih;obtain ⟨h1,h2⟩:=h
  by_cases e:p.1=k
  ·rw [if_pos e,if_pos (h1.symm.trans e)];exact ⟨h1,ry⟩
  ·rw [if_neg e,if_neg (λz=>e (h1.trans z))];exact ⟨h1,h2⟩
theorem KV.put {kvs:List (κ×V)}{vs:List (κ×Value)}(r:KV kvs vs) (k:κ) {y:V}{u:Value}(ry:RelV y u):KV (putK kvs k y) (stored vs k u):=by
 unfold putK stored;rw [r.any k]
 by_cases e:(vs.any λkv=>decide (kv.1=k))=true
 ·rw [if_pos e,if_pos e];exact r.repl k ry
 ·rw [if_neg e,if_neg e];exact Paired.snoc r ⟨rfl,ry⟩
theorem KV.length {kvs:List (κ×V)}{vs:List (κ×Value)}(r:KV kvs vs):kvs.length=vs.length:=Paired.length r
end
theorem Y8 {P:Program}{w:World}{k:Key}{u:Value}(r:RelV (kV k) u):(Bs P w).is k u=true:=by
 cases k with
 | inl i=>obtain ⟨t,e⟩:=(show ∃ t,u=Value.int i t from r);subst e;exact Ur P w i t
 | inr x=>obtain ⟨t,e⟩:=(show ∃ t,u=Value.str x t from r);subst e;exact Us P w x t
theorem Qw {P:Program}{w:World}:∀ {ks:List Key}{us:List Value},Vals (ks.map kV) us->ItemsAre (Bs P w) ks us
 | [],_,r=>by rw [SX] at r;cases r;exact .nil
 | k::ks,_,r=>by
  rw [dm] at r;cases r with
  | cons h t=>exact .cons (Y8 h) (Qw t)
noncomputable abbrev KT (H:Hp):List (List Key×V)->List (List Key×Addr×Value)->Prop:=Paired λp q=>p.1=q.1/\H q.2.1=some (.tup (p.1.map kV))/\RelV p.2 q.2.2
theorem KT.val {H:Hp}{kvs:List (List Key×V)}{xs:List (List Key×Addr×Value)}(r:KT H kvs xs) (k:List Key):Jv (Km kvs k) ((atKey xs k).map (·.2)):=by
 induction r with
 | nil=>exact True.intro
 | @cons p q ps qs h t ih =>
  obtain ⟨h1,_,h2⟩:=h
  by_cases e:p.1=k
  ·have e':q.1=k:=h1.symm.trans e;have b:atKey (q::qs) k=some q.2:=by simp [atKey,lg,e']
   rw [Ko e,b];exact h2
  ·have e':¬ q.1=k:=λz=>e (h1.trans z)
   have b:atKey (q::qs) k=atKey qs k:=by simp [atKey,lg,e']
   rw [Kp e,b];exact ih
theorem KT.repl {H:Hp}{kvs:List (List Key×V)}{xs:List (List Key×Addr×Value)}(r:KT H kvs xs) (k:List Key) {y:V}{u:Value}(ry:RelV y u) :
  KT H (kvs.map λkv=>if kv.1=k then (kv.1,y) else kv) (xs.map (putAt k u)):=by
 induction r with
 | nil=>exact .nil
 | @cons p q ps qs h t ih =>
  rw [dm,dm];refine .cons ?_ ih;obtain ⟨h1,h2,h3⟩:=h;unfold putAt
  by_cases e:p.1=k
  ·rw [if_pos e,if_pos (h1.symm.trans e)];exact ⟨h1,h2,ry⟩
  ·rw [if_neg e,if_neg (λz=>e (h1.trans z))];exact ⟨h1,h2,h3⟩
theorem KT.put {H:Hp}{kvs:List (List Key×V)}{xs:List (List Key×Addr×Value)}(r:KT H kvs xs) (k:List Key) {b:Addr}{y:V}{u:Value}(hb:H b=some (.tup (k.map kV))) (ry:RelV y u) :
  KT H (putK kvs k y) (storedH xs k b u):=by
 have e:(kvs.any λkv=>decide (kv.1=k))=(atKey xs k).isSome:=by
  rw [Uz,(r.val k).isSome_eq,VF]
 unfold putK storedH;rw [e]
 by_cases q:(atKey xs k).isSome=true
 ·rw [if_pos q,if_pos q];exact r.repl k ry
 ·rw [if_neg q,if_neg q];exact Paired.snoc r ⟨rfl,hb,ry⟩
theorem KT.keeps {H H':Hp}{kvs:List (List Key×V)}{xs:List (List Key×Addr×Value)}(r:KT H kvs xs) (ht:∀ b ys,H b=some (.tup ys)->H' b=some (.tup ys)):KT H' kvs xs :=
 Paired.mapP r λ_ _ z=>⟨z.1,ht _ _ z.2.1,z.2.2⟩
section
variable {P:Program}{w:World}{H:Hp}{h:Heap}{a:Addr}
theorem xR {u:HO}(ok:HOk P w H h) (e:Rd H a u):Bx P w H h a u:=e.ok ok
theorem gW {kvs:List (Key×V)}(ok:HOk P w H h) (e:Rd H a (.dK kvs)):kvs.length<=sizeLine/\(a==sysModules)=false/\∃ vs,KV kvs vs/\h.DictOf (Bs P w) a vs :=
 show Bx P w H h a (.dK kvs) from xR ok e
theorem Y9 {kvs:List (Key×V)}(ok:HOk P w H h) (e:H a=some (.dK kvs)):kvs.length<=sizeLine/\(a==sysModules)=false/\∃ vs,KV kvs vs/\h.DictOf (Bs P w) a vs:=gW ok (.inl e)
theorem W6 {ks:List Key}(ok:HOk P w H h) (e:H a=some (.tup (ks.map kV))):(tupleKind (Bs P w)).is h ks a:=by
 obtain ⟨_,its,r,o,h1,h2,_,n,h3⟩:=(show Bx P w H h a (.tup (ks.map kV)) from ok a _ e);exact ⟨o,its.toArray,n,h1,h2,h3,by simpa using Qw r⟩
theorem xT {kvs:List (List Key×V)}(ok:HOk P w H h) (e:Rd H a (.dT kvs)):kvs.length<=sizeLine/\(a==sysModules)=false /\
  ∃ xs,KT H kvs xs/\h.DictOfH (tupleKind (Bs P w)) a xs:=by
 obtain ⟨z,y,xs,r,o,es,ep,h1,h2,h3,h4,h5⟩:=(show Bx P w H h a (.dT kvs) from xR ok e);refine ⟨z,y,xs,r,o,es,ep,h1,h2,h3,h4,λx hx=>?_,h5⟩;have all:∀ {l:List (List Key×V)} {m:List (List Key×Addr×Value)},KT H l m->∀ x∈m,(tupleKind (Bs P w)).is h x.1 x.2.1:=by
  intro l m q
  induction q with
  | nil=>intro x hx;exact nomatch hx
  | @cons p q ps qs hq t ih =>
   intro x hx;rcases gn.mp hx with e|hx
   ·subst e;exact W6 ok (by rw [← hq.1];exact hq.2.1)
   ·exact ih x hx
 exact all r x hx
theorem Ady {kvs:List (List Key×V)}(ok:HOk P w H h) (e:H a=some (.dT kvs)):kvs.length<=sizeLine/\(a==sysModules)=false /\
  ∃ xs,KT H kvs xs/\h.DictOfH (tupleKind (Bs P w)) a xs:=xT ok (.inl e)
end
noncomputable def rP (H:Hp) (a:Addr) (y:V) (r:Option V):Prop :=
 (∃ kvs k,Rd H a (.dK kvs)/\y=kV k/\r=Km kvs k)\/∃ kvs k b,Rd H a (.dT kvs)/\y=.ref b/\H b=some (.tup (k.map kV))/\r=Km kvs k
noncomputable def rQ (H:Hp) (a:Addr) (y v:V) (H':Hp):Prop :=
 (∃ kvs k,H a=some (.dK kvs)/\y=kV k/\kvs.length < sizeLine/\H'=upd H a (.dK (putK kvs k v))) \/
 ∃ kvs k b,H a=some (.dT kvs)/\y=.ref b/\H b=some (.tup (k.map kV))/\kvs.length < sizeLine/\H'=upd H a (.dT (putK kvs k v))
theorem rP.k {H:Hp}{a:Addr}{kvs:List (Key×V)}{k:Key}(e:H a=some (.dK kvs)):rP H a (kV k) (Km kvs k):=.inl ⟨kvs,k,.inl e,rfl,rfl⟩
theorem rQ.k {H:Hp}{a:Addr}{kvs:List (Key×V)}{k:Key}{v:V}(e:H a=some (.dK kvs)) (hl:kvs.length < sizeLine):rQ H a (kV k) v (upd H a (.dK (putK kvs k v))):=.inl ⟨kvs,k,e,rfl,hl,rfl⟩
section
variable {X:Cx}{pins:List (Addr×Obj)}{σ:St}{H:Hp}{s:Shared}{a:Addr}{y v:V}{u r:Value}{o:Option V}{A:Around}{E:Value->Shared->Prop}
theorem Inv.big (I:Inv X pins σ H s):sysModules < s.heap.objs.size:=by
 have h:mainGlobals < s.heap.objs.size:=(I.mod.glob.keeps I.bk).lt;exact Nat.lt_trans (by decide) h
theorem Afy {Q:Value->Shared->Prop}(hu:A.units+1 < cLine) (I:Inv X pins σ H s) (g:rP H a y o) (ry:RelV y u) (h:∀ s',Inv X pins σ H s'->Q (.bool o.isSome) s') :
  wpAny (model X.prog X.w) A (compareOp .In u (.ref a)) Q E s:=by
 rcases g with ⟨kvs,k,e,ey,l⟩|⟨kvs,k,b,e,ey,eb,l⟩
 ·subst ey;obtain ⟨z,hd,vs,rel,dd⟩:=gW I.hok e;refine wpAny_in_of (Y8 ry) hd dd.mapOf ?_;rw [← (rel.val k).isSome_eq,← l];exact h _ (I.tok _)
 ·subst ey;cases (show u=Value.ref b from ry);obtain ⟨z,hd,xs,rel,dd⟩:=xT I.hok e;refine QS (TQ hu) (W6 I.hok eb) hd dd ?_;have q:=(rel.val k).isSome_eq;rw [VF] at q;rw [← q,← l];exact h _ (I.tok _)
theorem Np {h':Heap}{t':Nat}{ob:HO}(I:Inv X pins σ H s) (mu:Mut (H a)) (hs:vz a s.heap h') (he:∃ q,h'.get? a=some q) (new:Bx X.prog X.w (upd H a ob) h' a ob) :
  Inv X pins σ (upd H a ob) { s with heap:=h',toks:=t' } :=
 I.write (x:=a) (e:=a) mu (.inl rfl) (λb q hb z=>(hs.2 b hb).trans z) he new
theorem Aah {P:Program}{w:World}{H':Hp}{h':Heap}{kvs:List (Key×V)}{vs:List (Key×Value)}(z:kvs.length<=sizeLine) (hd:(a==sysModules)=false) (rel:KV kvs vs) (dd:h'.DictOf (Bs P w) a vs) :
  Bx P w H' h' a (.dK kvs):=⟨z,hd,vs,rel,dd⟩
theorem bO {H':Hp}{Q:Unit->Shared->Prop}(hu:A.units+1 < cLine) (I:Inv X pins σ H s) (g:rQ H a y v H') (ry:RelV y u) (rv:RelV v r) (h:∀ s',Inv X pins σ H' s'->Q () s') :
  wpAny (model X.prog X.w) A (setItem (.ref a) u r) Q E s:=by
 rcases g with ⟨kvs,k,e,ey,l,eH⟩|⟨kvs,k,b,e,ey,eb,l,eH⟩
 ·subst ey eH;obtain ⟨z,hd,vs,rel,dd⟩:=Y9 I.hok e;have hz:vs.length<=sizeLine:=by rw [← rel.length];exact z
  have hl:(putK kvs k v).length<=sizeLine:=by have:=Ms kvs k v;omega
  refine wpAny_setItem_pairs (hsz:=hz) (Y8 ry) dd λh' dd' hs=>h _ ?_
  have he:∃ q,h'.get? a=some q:=let ⟨q,_,_,hq,_⟩:=dd';⟨q,hq⟩;exact Np I (by rw [e];exact True.intro) hs he (Aah hl hd (rel.put k rv) dd')
 ·subst ey eH;cases (show u=Value.ref b from ry);obtain ⟨z,hd,xs,rel,dd⟩:=Ady I.hok e;have hz:xs.length<=sizeLine:=by rw [← Paired.length rel];exact z
  have hl:(putK kvs k v).length<=sizeLine:=by have:=Ms kvs k v;omega
  refine GZ (hsz:=hz) (TQ hu) (W6 I.hok eb) dd λh' dd' hs=>h _ ?_
  obtain ⟨q,es,ep,hq,h2,h3,h4,_,h5⟩:=dd';refine Np I (by rw [e];exact True.intro) hs ⟨q,hq⟩ ⟨hl,hd,_,(rel.put k eb rv).keeps λc ys ec=>?_,q,es,ep,hq,h2,h3,h4,h5⟩;rw [Ad (Fw ec e (λz=>nomatch z))];exact ec
end
section
variable {X:Cx}{pins:List (Addr×Obj)}{σ:St}{H:Hp}{s:Shared}{a:Addr}{kvs:List (Key×V)}{k:Key}{u:Value}{A:Around}{E:Value->Shared->Prop}
theorem Adz {Q:Value->Shared->Prop}(I:Inv X pins σ H s) (e:Rd H a (.dK kvs)) (h:∀ t s',Inv X pins σ H s'->Q (.int kvs.length t) s'):wpAny (model X.prog X.w) A (call (.builtin "len") [.ref a]) Q E s:=by
 obtain ⟨z,hd,vs,rel,dd⟩:=gW I.hok e;refine call_len_dict hd dd (by rw [← rel.length];rw [ji] at z;omega) ?_;rw [← rel.length];exact h _ _ (I.tok _)
end
section
variable {X:Cx}{o i e value:Expr}{pos pos' tpos:Pos}{td ty tv:TE}
end
theorem gY {P:Program}{w:World}{H:Hp}(h:Heap) (hb:sysModules < h.objs.size):Bx P w H (h.push { cls:=.type "dict",data:=.dict #[] }) h.objs.size (.dK []) :=
 ⟨qx _,beq_eq_false_iff_ne.mpr (Ne.symm (cj hb)),[],.nil,Heap.DictOf.new h⟩
noncomputable def Aai:TE:=λ_ H Q=>∀ p,H p=none->Q (.ref p) (upd H p (.dK []))
section
variable {X:Cx}{pos:Pos}
theorem Oh:PE X (.Dict [] [] pos) Aai:=λpins s σ H Q I h =>
 wpAny_Dict_empty ⟨.ref s.heap.objs.size,_,I.laid (a:=s.heap.objs.size) (o:=.dK []) (t':=s.toks) (λ_ _ q=>ao _ q) (bx _) (gY s.heap I.big),rfl,h _ (I.hok.fresh (bx _))⟩
end
section
variable {X:Cx}{pins:List (Addr×Obj)}{σ:St}{H:Hp}{s:Shared}{a:Addr}{y d:V}{u r:Value}{o:Option V}{A:Around}{E:Value->Shared->Prop}
end
section
variable {X:Cx}{o e f:Expr}{apos cpos:Pos}{td ty tx:TE}
end
section
variable {X:Cx}{pins:List (Addr×Obj)}{σ:St}{H:Hp}{s:Shared}{a:Addr}{kvs:List (Key×V)}{A:Around}{E:Value->Shared->Prop}
end
section
variable {X:Cx}{pins:List (Addr×Obj)}{σ:St}{H:Hp}{s:Shared}{a:Addr}{y:V}{u:Value}{A:Around}{E:Value->Shared->Prop}
end
theorem Oi {α β:Type}(g:α->β->β):∀ (l:List α) (f:α->β->Sem (ForInStep β)) (c:β),(∀ x∈l,∀ c,f x c=pure (.yield (g x c)))->forIn l c f=pure (l.foldl (λc x=>g x c) c)
 | [],f,c,_=>by rw [GK];rfl
 | x::r,f,c,h=>by
  rw [za,h x dw];show (forIn r (g x c) f)=_;rw [Oi g r f (g x c) λy hy=>h y (cu _ hy)];rfl
noncomputable def Ig (env:Env) (x:Str×NameKind) (cs:List (Str×Addr)):List (Str×Addr):=if x.2==.free then (x.1,(env.cells.lookup x.1).getD 0)::cs else cs
noncomputable def Bg (env:Env) (names:List (Str×NameKind)):List (Str×Addr):=names.foldl (λc x=>Ig env x c) []
theorem Ei {scope:Scope}{env:Env}(h:∀ x∈scope.names,x.2=.free->∃ c,env.cells.lookup x.1=some c):closureFor scope env=pure (Bg env scope.names):=by
 unfold closureFor Bg;dsimp only;rw [Oi (Ig env)]
 ·rfl
 ·intro x hx c;obtain ⟨n,k⟩:=x;dsimp only;unfold Ig
  by_cases e:(k==NameKind.free)=true
  ·obtain ⟨a,ha⟩:=h _ hx (beq_iff_eq.mp e);have ha':qe n env.cells=some a:=ha;dsimp only;rw [if_pos e,if_pos e];unfold cellOf;rw [ha'];rfl
  ·dsimp only;rw [if_neg e,if_neg e]
theorem Gd {env:Env}:∀ (names:List (Str×NameKind)) (acc:List (Str×Addr)) (x:Str) (c:Addr),(x,c)∈names.foldl (λc x=>Ig env x c) acc->(x,c)∈acc\/((x,NameKind.free)∈names/\c=(env.cells.lookup x).getD 0)
 | [],acc,x,c,h=>.inl h
 | (n,k)::r,acc,x,c,h=>by
  rcases Gd r _ x c h with q|⟨q1,q2⟩
  ·unfold Ig at q;dsimp only at q;split at q
   ·rename_i e;have e:=beq_iff_eq.mp e;rcases gn.mp q with q|q
    ·cases q;exact .inr ⟨by rw [e];exact dw,rfl⟩
    ·exact .inl q
   ·exact .inl q
  ·exact .inr ⟨cu _ q1,q2⟩
theorem Oj {env:Env}:∀ (names:List (Str×NameKind)) (acc:List (Str×Addr)) (x:Str),(acc.lookup x).isSome=true\/(x,NameKind.free)∈names->((names.foldl (λc x=>Ig env x c) acc).lookup x).isSome=true
 | [],acc,x,h=>by
  rcases h with h|h
  ·exact h
  ·exact absurd h (by simp)
 | (n,k)::r,acc,x,h=>by
  refine Oj r _ x ?_;unfold Ig;rcases h with h|h
  ·left;dsimp only;split
   ·rw [iz];split
    ·rfl
    ·exact h
   ·exact h
  ·rcases gn.mp h with h|h
   ·cases h;left;dsimp only;rw [if_pos (by rfl),iz];simp
   ·exact .inr h
theorem Sg {env:Env}{names:List (Str×NameKind)}{x:Str}{c:Addr}(h:(Bg env names).lookup x=some c):(x,NameKind.free)∈names/\c=(env.cells.lookup x).getD 0:=by
 rcases Gd names [] x c (gm h) with q|q
 ·exact absurd q (by simp)
 ·exact q
theorem Je {env:Env}{names:List (Str×NameKind)}{x:Str}(h:(x,NameKind.free)∈names):(Bg env names).lookup x=some ((env.cells.lookup x).getD 0):=by
 obtain ⟨c,e⟩:=wg.mp (Oj (env:=env) names [] x (.inr h));rw [show Bg env names=names.foldl (λc x=>Ig env x c) [] from rfl,e,(Sg e).2]
theorem Ej:∀ (names:List (Str×NameKind)) (n:Nat) (acc:List (Str×Addr)) (x:Str) (c:Addr),(x,c)∈cellsFrom n names acc->(x,c)∈acc\/(n<=c/\(x,NameKind.cell)∈names)
 | [],_,_,_,_,h=>.inl h
 | (y,k)::r,n,acc,x,c,h=>by
  unfold cellsFrom at h;split at h
  ·rename_i e;have e:=beq_iff_eq.mp e;rcases Ej r (n+1) _ x c h with q|⟨q1,q2⟩
   ·rcases gn.mp q with q|q
    ·cases q;exact .inr ⟨bx _,by rw [e];exact dw⟩
    ·exact .inl q
   ·exact .inr ⟨by omega,cu _ q2⟩
  ·rcases Ej r n acc x c h with q|⟨q1,q2⟩
   ·exact .inl q
   ·exact .inr ⟨q1,cu _ q2⟩
theorem Ek:∀ (names:List (Str×NameKind)) (n lo:Nat) (acc:List (Str×Addr)) (x:Str) (c:Addr),lo<=n->((x,NameKind.cell)∈names\/∀ c',acc.lookup x=some c'->lo<=c')->(cellsFrom n names acc).lookup x=some c->lo<=c
 | [],_,_,acc,x,c,_,h,e=>by
  rcases h with h|h
  ·exact absurd h (by simp)
  ·exact h c e
 | (y,k)::r,n,lo,acc,x,c,hl,h,e=>by
  unfold cellsFrom at e;split at e
  ·rename_i ek;refine Ek r (n+1) lo _ x c (by omega) ?_ e;rcases h with h|h
   ·rcases gn.mp h with h|h
    ·cases h;right;intro c' hc;rw [iz] at hc;rw [beq_self_eq_true] at hc;cases hc;exact hl
    ·exact .inl h
   ·right;intro c' hc;rw [iz] at hc;split at hc
    ·cases hc;omega
    ·exact h c' hc
  ·rename_i ek;refine Ek r n lo acc x c hl ?_ e;rcases h with h|h
   ·rcases gn.mp h with h|h
    ·cases h;exact absurd rfl ek
    ·exact .inl h
   ·exact .inr h
theorem Gy:∀ (names:List (Str×NameKind)) (n:Nat) (acc:List (Str×Addr)),(∀ x y c,(x,c)∈acc->(y,c)∈acc->x=y)->(∀ x c,(x,c)∈acc->c < n) ->
  ∀ x y c,(x,c)∈cellsFrom n names acc->(y,c)∈cellsFrom n names acc->x=y
 | [],_,_,h,_=>h
 | (z,k)::r,n,acc,h,hb=>by
  unfold cellsFrom;split
  ·refine Gy r (n+1) _ (λx y c hx hy=>?_) λx c hx=>?_
   ·rcases gn.mp hx with hx | hx <;> rcases gn.mp hy with hy|hy
    ·cases hx;cases hy;rfl
    ·cases hx;exact absurd (hb _ _ hy) (jj _)
    ·cases hy;exact absurd (hb _ _ hx) (jj _)
    ·exact h x y c hx hy
   ·rcases gn.mp hx with hx|hx
    ·cases hx;exact jh _
    ·exact jz (hb x c hx)
  ·exact Gy r n acc h hb
theorem Ge:∀ (names:List (Str×NameKind)) (h:Heap) (acc:List (Str×Addr)) (x:Str) (c:Addr),(∀ x c,(x,c)∈acc->∃ v,h.IsCell c v)->(x,c)∈cellsFrom h.objs.size names acc->∃ v,(pushCells h names).IsCell c v
 | [],h,acc,x,c,hb,e=>hb x c e
 | (y,k)::r,h,acc,x,c,hb,e=>by
  unfold cellsFrom at e;unfold pushCells;split at e
  ·rename_i ek;rw [if_pos ek];refine Ge r _ ((y,h.objs.size)::acc) x c (λx c hx=>?_) (by rw [ir];exact e);rcases gn.mp hx with hx|hx
   ·cases hx;exact ⟨none,_,bh _ rfl,rfl⟩
   ·obtain ⟨v,q⟩:=hb x c hx;exact ⟨v,q.keeps λb o e=>ao _ e⟩
  ·rename_i ek;rw [if_neg ek];exact Ge r h acc x c hb e
theorem Gf:∀ (names:List (Str×NameKind)) (h:Heap),h.objs.size<=(pushCells h names).objs.size
 | [],h=>bx _
 | (y,k)::r,h=>by
  unfold pushCells;split
  ·refine jg ?_ (Gf r _);rw [ir];omega
  ·exact Gf r h
theorem U0 {M:Model}{A:Around}{E:Value->Shared->Prop}{s:Shared}{scope:Scope}{globals:Addr}{cl:List (Str×Addr)}{qual:Str}{env:Env}{Q:Env->Shared->Prop}
  (hQ:Q (newEnv scope s.heap.objs.size globals (cellsFrom (s.heap.objs.size+1) scope.names cl) qual none .none (some env) builtinsNs) { s with heap:=pushCells (s.heap.push { cls:=.type "dict",data:=.dict #[] }) scope.names }) :
  wpAny M A (newFunctionEnv scope globals cl [] qual none .none (some env)) Q E s:=by
 simp only [newFunctionEnv,TJ,if_true];refine ak (wpAny_alloc ?_);refine ak (wpAny_layCells _ (λname kind cells=>by cases hkc:kind==NameKind.cell <;> simp [hkc]) _ _ _ _ ?_)
 rw [show ({ s with heap:=s.heap.push { cls:=.type "dict",data:=.dict #[] } }:Shared).heap.objs.size=s.heap.objs.size+1 from ir ..];rw [GK];exact ak (bf (bf hQ))
theorem Bm {α:Type}:∀ {l:List (Str×α)}{n:Str}{c:α},(l.map (·.1)).Nodup->(n,c)∈l->l.lookup n=some c
 | [],_,_,_,h=>absurd h (by simp)
 | (k,v)::r,n,c,nd,h=>by
  rw [dm,jn] at nd;rw [iz];rcases gn.mp h with q|q
  ·cases q;rw [beq_self_eq_true]
  ·have:(n==k)=false:=by
    rw [beq_eq_false_iff_ne];intro e;subst e;exact nd.1 (jc.mpr ⟨(n,c),q,rfl⟩)
   rw [this];exact Bm nd.2 q
theorem Gg {env:Env}(scope:Scope) (x:Str):(relabel scope env).names.lookup x=(scope.names.lookup x).map λk=>if (k==.free&&env.scope.kind==.function&&env.kindOf x==some .cell) then .cell else k:=by
 show (scope.names.map _).lookup x=_
 induction scope.names with
 | nil=>rfl
 | cons a r ih =>
  obtain ⟨n,k⟩:=a;rw [dm];dsimp only;rw [iz (b:=k)]
  by_cases e:(x==n)=true
  ·rw [e];have e':=beq_iff_eq.mp e;subst e';dsimp only;split
   ·rename_i hc;rw [iz,e];simp only [ou,hc,if_true]
   ·rename_i hc;rw [iz,e];rw [ou,if_neg hc]
  ·have e2:(x==n)=false:=by simpa using e
   rw [e2];dsimp only;split
   ·rw [iz,e2];exact ih
   ·rw [iz,e2];exact ih
structure CompOk (X:Cx) (scope:Scope):Prop where
 kind:scope.kind=.function
 nd:(scope.names.map (·.1)).Nodup
 fr:∀ x∈scope.names,x.2=.free->X.env.kindOf x.1=some .cell\/X.env.kindOf x.1=some .free
noncomputable def Br (X:Cx) (pins:List (Addr×Obj)) (N':List Str) (scope:Scope) (C:Addr) (cells:List (Str×Addr)) (s₀:Shared) (H₀:Hp) (fp:List Addr):Cx where
 prog:=X.prog
 w:=X.w
 K:=X.K
 mg:=X.mg
 base:=X.base
 A:=X.A
 N:=N'
 s₀:=s₀
 H₀:=H₀
 env:={ scope:=relabel scope X.env,locals:=C,globals:=X.env.globals,cells:=cells,qual:=X.env.qual,func:=none,code:=X.env.code,frame:=X.env.frame,builtins:=X.env.builtins }
 outer:=X.stack
 stack:=X.stack
 ex:=fp
 fn:=λx=>decide ((x,NameKind.cell)∈scope.names)
 calm:=X.calm
 pn:=X.pn++pins
 xe:=λ_ _=>False
noncomputable def Cap (X:Cx) (N':List Str) (scope:Scope) (σ σ0:St):Prop:=σ0.length=N'.length/\∀ (i:Nat) (x:Str) (v:V),N'[i]?=some x->σ0[i]?=some (some v) ->
 scope.names.lookup x=some .free/\∃ j:Nat,X.N[j]?=some x/\σ[j]?=some (some v)
noncomputable abbrev Aq (its:List Value) (n:Nat):Obj:={ cls:=.type "list",data:=.seq its.toArray n }
section
variable {X:Cx}{pins:List (Addr×Obj)}{σ:St}{H:Hp}{s:Shared}
theorem W7 {N':List Str}{scope:Scope}{fp:List Addr}{σ0:St}(I:Inv X pins σ H s) (S:CompOk X scope) (hf:∀ b∈fp,Kh X pins H b) (hb:∀ b∈fp,∃ o,s.heap.get? b=some o) (hσ:Cap X N' scope σ σ0) :
    Inv (Br X pins N' scope (s.heap.objs.size+1) (cellsFrom (s.heap.objs.size+1+1) scope.names (Bg X.env scope.names)) s H fp) [(s.heap.objs.size,Aq [] 0)] σ0 H
      { s with heap:=pushCells ((s.heap.push (Aq [] 0)).push { cls:=.type "dict",data:=.dict #[] }) scope.names }:=by
  have sz1:(s.heap.push (Aq [] 0)).objs.size=s.heap.objs.size+1:=ir ..
  have sz2:((s.heap.push (Aq [] 0)).push { cls:=.type "dict",data:=.dict #[] }).objs.size=s.heap.objs.size+1+1:=by rw [ir,sz1]
  have keep:∀ b o,s.heap.get? b=some o->(pushCells ((s.heap.push (Aq [] 0)).push { cls:=.type "dict",data:=.dict #[] }) scope.names).get? b=some o:=λb o e=>FN _ _ b o (ao _ (ao _ e))
  have capt:∀ x c,(x,c)∈Bg X.env scope.names->X.env.cells.lookup x=some c:=λx c h=>by
    rcases Gd scope.names [] x c h with q|⟨q1,q2⟩
    · exact absurd q (by simp)
    · obtain ⟨c',e⟩:=I.ok.has x (S.fr _ q1 rfl);rw [e] at q2;rw [e,q2];rfl
  have cells:∀ x c,(cellsFrom (s.heap.objs.size+1+1) scope.names (Bg X.env scope.names)).lookup x=some c->X.env.cells.lookup x=some c\/s.heap.objs.size+1+1<=c:=λx c h=>by
    rcases Ej _ _ _ x c (gm h) with q|⟨q,_⟩
    · exact .inl (capt x c q)
    · exact .inr q
  have stk:∀ b∈frs X.stack,b < s.heap.objs.size:=λb hb=>by
    rcases Nat.lt_or_ge b s.heap.objs.size with z|z
    · exact z
    · rcases gn.mp (I.stkSub b hb) with q|q
      · rw [q];exact I.lt
      · exact absurd q (I.nofs z)
  have fpb:∀ b∈fp,b < s.heap.objs.size:=λb h=>let ⟨o,e⟩:=hb b h;Heap.lt_size e
  refine ⟨⟨I.ok.mod,S.kind,I.ok.glob,I.ok.blt,qw _,λx y c h1 h2=>?_,λx hx=>?_,λx c hx h=>?_,I.ok.hd,I.ok.frames,.inl rfl,λb hb=>⟨?_,λx c h=>?_⟩,I.bs,jg I.ok.bsz I.sz,λb o h z=>?_,λb hb z=>?_,I.stack,I.stkFree⟩,
    rfl,I.bare,Un.kept keep,⟨λ_=>none,?_,λi x v h1 h2 h3=>?_⟩,λx c h=>?_,I.hok.fresh (qw _),λx c h=>?_,λp hp=>?_,I.hok.kept keep,hσ.1⟩
  · refine Gy scope.names (s.heap.objs.size+1+1) (Bg X.env scope.names) (λx y c h1 h2=>I.ok.inj x y c (capt x c h1) (capt y c h2)) (λx c h=>?_) x y c (gm h1) (gm h2);obtain ⟨v,q⟩:=I.cell x c (capt x c h);exact jz (jz q.lt)
  · have hx:(relabel scope X.env).names.lookup x=some .cell\/(relabel scope X.env).names.lookup x=some .free:=hx;rw [Gg] at hx;refine wg.mp (mj scope.names _ _ ?_);cases e:scope.names.lookup x with
    | none=>rw [e] at hx;rcases hx with h | h <;> cases h
    | some k =>
      cases k with
      | cell=>exact .inl rfl
      | free=>right;rw [Je (gm e)];rfl
      | «local»=>rw [e] at hx;rcases hx with h | h <;> cases h
      | globalExplicit=>rw [e] at hx;rcases hx with h | h <;> cases h
      | globalImplicit=>rw [e] at hx;rcases hx with h | h <;> cases h
  · exact jg (VG (qw _)) (Ek scope.names _ (s.heap.objs.size+1+1) _ x c (bx _) (.inl (of_decide_eq_true hx)) h)
  · exact cj (jz (fpb b hb))
  · rcases cells x c h with q|q
    · exact (hf b hb).2.2.2.2.1 x c q
    · exact jo (di (fpb b hb) (by omega))
  · rcases (hf b z).2.2.2.1 with q|q
    · exact I.ok.noex b o h q
    · exact absurd (di (Heap.lt_size h) (jg I.ok.bsz q)) (jj _)
  · rcases gn.mp (I.stkSub b z) with q|q
    · exact (hf b hb).2.1 q
    · exact (hf b hb).2.2.1 q
  · show (pushCells _ _).Ns (s.heap.objs.size+1) _
    have n:=(Heap.Ns.new (s.heap.push (Aq [] 0)) (.type "dict")).keeps (FN scope.names _);rw [sz1] at n;exact n
  · obtain ⟨e1,j,e2,e3⟩:=hσ.2 i x v h1 h2;obtain ⟨m,hn,hl⟩:=I.loc;have fr:=S.fr _ (gm e1) rfl;have vis:Vis X.env.scope x:=by
      rcases fr with q|q
      · exact .inr (.inl q)
      · exact .inr (.inr q)
    obtain ⟨u,r,l⟩:=hl j x v e2 e3 vis;refine ⟨u,r,.inr ⟨?_,?_⟩⟩
    · show (relabel scope X.env).names.lookup x=some .cell\/(relabel scope X.env).names.lookup x=some .free;rw [Gg,e1];simp only [ou];split
      · exact .inl rfl
      · exact .inr rfl
    · rcases l with ⟨k,_⟩|⟨_,c,ec,hc⟩
      · rcases fr with q | q <;> · rw [k] at q;cases q
      · refine ⟨c,?_,hc.keeps keep⟩;obtain ⟨c2,e⟩:=wg.mp (mj (x:=x) scope.names (s.heap.objs.size+1+1) (Bg X.env scope.names) (.inr (by rw [Je (gm e1)];rfl)));show (cellsFrom _ _ _).lookup x=some c;rw [e];rcases Ej _ _ _ x c2 (gm e) with q|⟨_,q⟩
        · rw [capt x c2 q] at ec;exact ec
        · rw [Bm S.nd q] at e1;cases e1
  · refine Ge scope.names ((s.heap.push (Aq [] 0)).push { cls:=.type "dict",data:=.dict #[] }) (Bg X.env scope.names) x c (λx c h=>?_) ?_
    · obtain ⟨v,q⟩:=I.cell x c (capt x c h);exact ⟨v,q.keeps λb o e=>ao _ (ao _ e)⟩
    · rw [sz2];exact gm h
  · rcases cells x c h with q|q
    · rcases I.freeC x c q with fc|⟨_,oz,uz,fz⟩
      · exact .inl fc
      · refine .inr ⟨Bool.eq_false_iff.mpr λhx=>?_,oz,uz,fz⟩;have h1:=Ek scope.names _ (s.heap.objs.size+1+1) _ x c (bx _) (.inl (of_decide_eq_true hx)) h;have h2:c < s.heap.objs.size:=Heap.lt_size (I.hok c _ fz).1;have h3:s.heap.objs.size+1+1<=c:=by first | exact h1 | (rw [← sz2];exact h1)
        exact absurd (di h2 (jg (VG (qw _)) h3)) (jj _)
    · exact .inl (I.hok.fresh (by omega))
  · rcases ju.mp hp with hp|hp
    · obtain ⟨q1,q2,q3,q4,q5⟩:=I.pin p hp;have lt:=Heap.lt_size q1;refine ⟨keep _ _ q1,q2,cj (jz lt),λz=>?_,q5⟩;rcases gn.mp (I.stkSub p.1 z) with r|r
      · exact q3 r
      · exact q4 r
    · have e:p=(s.heap.objs.size,Aq [] 0):=by simpa using hp
      subst e;refine ⟨FN _ _ _ _ (ao _ (bh _ rfl)),I.hok.fresh (bx _),cj (jh _),λz=>?_,λv=>by intro z;cases z⟩;exact jj _ (stk _ z)
theorem gZ {N':List Str}{scope:Scope}{fp:List Addr}{σ':St}{C:Addr}{cells:List (Str×Addr)}{H':Hp}{s':Shared}{its:List Value}{n:Nat}{ys:List V}{pl:List (Addr×Obj)}(I:Inv X pins σ H s) (hf:∀ b∈fp,Kh X pins H b)
  (J:Inv (Br X pins N' scope C cells s H fp) ((s.heap.objs.size,Aq its n)::pl) σ' H' s') (r:Vals ys its) (hz:ys.length<=sizeLine) :
  Inv X pins σ (upd H' s.heap.objs.size (.lst ys)) s':=by
 obtain ⟨p1,p2,p3,p4,p5⟩:=J.pin (s.heap.objs.size,Aq its n) (gk _ dw);have hD:H' s.heap.objs.size=none:=p2;have ne:∀ b o,s.heap.get? b=some o->b≠s.heap.objs.size:=λb o e=>cj (Heap.lt_size e)
 have U:=J.base;refine I.call' (ch:=fp) J.os ⟨λb o e h1 h2 h3=>U.keep b o e h1 h2 h3,λb o e h1 h2 h3=>U.slot b o e h1 h2 h3,λb o e h1 h2=>?_,U.there,λb xs e=>?_,λb o u e=>?_,λb ps e=>?_⟩ ?_ J.bare λb hb=>?_
 ·rw [Ad (ne b o e)];exact U.free b o e h1 h2
 ·have q:=U.tups b xs e;rw [Ad (Ae q hD)];exact q
 ·have q:=U.frzs b o u e;rw [Ad (Ae q hD)];exact q
 ·obtain ⟨m,q⟩:=U.tbls b ps e;exact ⟨m,by rw [Ad (Ae q hD)];exact q⟩
 ·intro b u e
  by_cases hb:b=s.heap.objs.size
  ·subst hb;rw [Ag] at e;cases e;exact ⟨hz,its,n,r,p1⟩
  ·rw [Ad hb] at e;exact (J.hok b u e).stay (λ_ _ _ q=>q) (λc q=>by rw [Ad (Ae q hD)];exact q) λc xs q=>by rw [Ad (Ae q hD)];exact q
 ·obtain ⟨q0,q1,q2,q3,q4,q5⟩:=hf b hb;exact ⟨q3,q1,q4,q5⟩
end
section
variable {prog:Program}{w:World}{A:Around}{E:Value->Shared->Prop}{R:Result->Shared->Prop}{s:Shared}
noncomputable abbrev Za (ifs:List Expr) (env:Env):Sem Bool:=forIn ifs true λc r=>if r=true then do let ok ← isTrue c env (eval c env);pure (ForInStep.yield ok) else pure (ForInStep.yield r)
theorem Sh {elt target iter:Expr}{ifs:List Expr}{scope:Scope}{pos:Pos}{it acc:Value}{env:Env}(I:Nat->Shared->Prop)
  (turn:∀ n s,I n s->wpAny (model prog w) A (pyNext it) (λr s₁=>match r with
   | none=>R (.ok .next) s₁
   | some v=>wpAny (model prog w) A (letOwnedTupleGo target it v) (λ_ s'=>wpAny (model prog w) A (assign target env v) (λ_ s₂ =>
     wpAny (model prog w) A (Za ifs env) (λok s₃ =>
      if ok=true then wpAny (model prog w) A (eval elt env) (λx s₄ =>
       wpAny (model prog w) A (call (.builtin "list.append") [acc,x]) (λ_ s₅=>∃ m,m < n/\I m s₅) (λ_ _=>False) s₄) (λ_ _=>False) s₃
      else ∃ m,m < n/\I m s₃) (λ_ _=>False) s₂) (λ_ _=>False) s') (λ_ _=>False) s₁) (λ_ _=>False) s)
  (n:Nat) (h:I n s) :
  codeAny (model prog w) A (.compLoop (.ListComp elt [⟨target,iter,ifs,0⟩] scope pos) 0 it acc env) R s:=by
 refine codeAny_loop rfl I (λn s hI=>?_) n h;show wpAny _ A ((compTurn (.ListComp elt [⟨target,iter,ifs,0⟩] scope pos) 0 it acc env).onRaise (λx=>do noteFrame x env;theTreesLotGoes x)) _ _ s;refine wpAny_noted ?_;rw [compTurn_list];refine ak (HW (ak (nq (turn n s hI) (λr s₁ h₁=>?_) λ_ _ h'=>h'.elim)));cases r with
 | none=>exact bf h₁
 | some v =>
  refine ak (nq h₁ (λ_ s' h'=>?_) λ_ _ h'=>h'.elim);refine ak (nq h' (λ_ s₂ h₂=>ak (nq h₂ (λok s₃ h₃=>?_) λ_ _ h'=>h'.elim)) λ_ _ h'=>h'.elim);cases ok with
  | false=>exact bf ⟨rfl,h₃⟩
  | true =>
   exact ak (ak (nq h₃ (λx s₄ h₄=>ak (nq h₄ (λ_ s₅ h₅=>bf (bf ⟨rfl,h₅⟩)) λ_ _ h'=>h'.elim)) λ_ _ h'=>h'.elim))
end
noncomputable def PIf (X:Cx) (ifs:List Expr) (t:TT):Prop :=
 ∀ (pins:List (Addr×Obj)) (s:Shared) (σ:St) (H:Hp) (Q:Bool->Hp->Prop),Inv X pins σ H s->t σ H Q->wpAny (model X.prog X.w) X.A (Za ifs X.env) (TP X pins σ Q) X.xe s
theorem rR {X:Cx}:PIf X [] (λ_ H Q=>Q true H):=λpins s σ H Q I h=>wpAny_tests_nil ⟨H,I,h⟩
theorem rT {X:Cx}{c:Expr}{t:TT}(h:PT X c t):PIf X [c] t:=λpins s σ H Q I q=>wpAny_tests_one (h pins s σ H Q I q)
noncomputable def Kept (σ0 σ2:St):Prop:=σ2.length=σ0.length/\∀ (i:Nat) v,σ0[i]?=some (some v)->σ2[i]?=some (some v)
noncomputable def iB (X:Cx) (N':List Str) (scope:Scope) (wi:TI) (g:TG) (tc:TT) (te:TE):TE:=λσ H Q=>wi σ H λJ H1=>∃ σ0,Cap X N' scope σ σ0/\∃ W:Nat->Nat->List V->Hp->Prop,(∃ m,W 0 m [] H1)/\∀ i m acc H,W i m acc H ->
 (J.stop i H/\∀ p,H p=none->Q (.ref p) (upd H p (.lst acc))) \/
 (J.go i H/\∃ N:List V->Hp->Prop,(∀ acc' H',N acc' H'->∃ m',m' < m/\W (i+1) m' acc' H')/\∀ x H',J.yld i H x H'->g x σ0 H' λσ2 H2=>Kept σ0 σ2/\tc σ2 H2 λb H3=>if b=true then acc.length < sizeLine/\te σ2 H3 λy H4=>N (acc++[y]) H4 else N acc H3)
section
variable {X:Cx}{N':List Str}{scope:Scope}{wi:TI}{g:TG}{tc:TT}{te:TE}{elt target iter:Expr}{ifs:List Expr}{pos:Pos}
theorem Ol {pins:List (Addr×Obj)}{s:Shared}{σ σ0:St}{H:Hp}{it:Addr}{fp:List Addr}{tn:Nat->Heap->Prop}{J:It}{QQ:List V->Hp->Prop}{E:Value->Shared->Prop}{RR:Value->Addr->Result->Shared->Prop}(hc:X.calm=true) (S:CompOk X scope)
  (hg:∀ pins C cells s₀ H₀ fp,PG (Br X pins N' scope C cells s₀ H₀ fp) target g)
  (hi:∀ pins C cells s₀ H₀ fp,PIf (Br X pins N' scope C cells s₀ H₀ fp) ifs tc)
  (he:∀ pins C cells s₀ H₀ fp,PE (Br X pins N' scope C cells s₀ H₀ fp) elt te)
  (I:Inv X pins σ H s) (T:Turn X.prog X.w X.K target J fp it tn) (st:tn 0 s.heap) (hf:∀ b∈fp,Kh X pins H b) (hσ:Cap X N' scope σ σ0)
  (W:Nat->Nat->List V->Hp->Prop) (w0:∃ m,W 0 m [] H)
  (turn:∀ i m acc H,W i m acc H->(J.stop i H/\QQ acc H) \/
   (J.go i H/\∃ N:List V->Hp->Prop,(∀ acc' H',N acc' H'->∃ m',m' < m/\W (i+1) m' acc' H')/\∀ x H',J.yld i H x H'->g x σ0 H' λσ2 H2=>Kept σ0 σ2/\tc σ2 H2 λb H3=>if b=true then acc.length < sizeLine/\te σ2 H3 λy H4=>N (acc++[y]) H4 else N acc H3))
  (hRR:∀ (C:Addr) (acc:List V) (H':Hp) (s':Shared) (m:Str->Option Value),QQ acc H'->Inv X pins σ (upd H' s.heap.objs.size (.lst acc)) s'->H' s.heap.objs.size=none->s'.heap.Ns C m->H' C=none->C≠s.heap.objs.size->s.heap.objs.size<=C->RR (.ref s.heap.objs.size) C (.ok .next) s') :
  wpAny (model X.prog X.w) X.A (newList []) (λacc s₃=>wpAny (model X.prog X.w) X.A (newFunctionEnv scope X.env.globals (Bg X.env scope.names) [] X.env.qual none .none (some X.env)) (λcenv s₄ =>
   codeAny (model X.prog X.w) X.A (.compStart (.ListComp elt [⟨target,iter,ifs,0⟩] scope pos) 0 (.ref it) acc { cenv with scope:=relabel scope X.env }) (RR acc cenv.locals) s₄) E s₃) E s:=by
 refine jy (U0 ?_);have sz1:(s.heap.push (Aq [] 0)).objs.size=s.heap.objs.size+1:=ir ..;have I0:=W7 (N':=N') (σ0:=σ0) I S hf (λb hb=>let ⟨o,e,_⟩:=T.obj 0 _ st b hb;⟨o,e⟩) hσ
 show codeAny (model X.prog X.w) X.A (.compStart (.ListComp elt [⟨target,iter,ifs,0⟩] scope pos) 0 (.ref it) (.ref s.heap.objs.size) _) (RR (.ref s.heap.objs.size) (s.heap.push (Aq [] 0)).objs.size) { s with heap:=pushCells ((s.heap.push (Aq [] 0)).push { cls:=.type "dict",data:=.dict #[] }) scope.names };rw [sz1];show codeAny (model X.prog X.w) X.A (.compStart (.ListComp elt [⟨target,iter,ifs,0⟩] scope pos) 0 (.ref it) (.ref s.heap.objs.size) (Br X pins N' scope (s.heap.objs.size+1) (cellsFrom (s.heap.objs.size+1+1) scope.names (Bg X.env scope.names)) s H fp).env) _ _;generalize hX':Br X pins N' scope (s.heap.objs.size+1) (cellsFrom (s.heap.objs.size+1+1) scope.names (Bg X.env scope.names)) s H fp=X' at I0 ⊢
 have keep0:∀ b o,s.heap.get? b=some o->(pushCells ((s.heap.push (Aq [] 0)).push { cls:=.type "dict",data:=.dict #[] }) scope.names).get? b=some o:=λb o e=>FN _ _ b o (ao _ (ao _ e))
 have st0:tn 0 (pushCells ((s.heap.push (Aq [] 0)).push { cls:=.type "dict",data:=.dict #[] }) scope.names):=T.keep _ _ _ st λb _ o e=>keep0 b o e
 have hA:X'.A=X.A:=by rw [← hX'];rfl
 have hP:X'.prog=X.prog:=by rw [← hX'];rfl
 have hw:X'.w=X.w:=by rw [← hX'];rfl
 have hK:X'.K=X.K:=by rw [← hX'];rfl
 have hC:X'.calm=true:=by rw [← hX'];exact hc
 have hL:X'.env.locals=s.heap.objs.size+1:=by rw [← hX'];rfl
 have hS0:X'.s₀=s:=by rw [← hX'];rfl
 have hxe:X'.xe=λ_ _=>False:=by rw [← hX'];rfl
 have hex:X'.ex=fp:=by rw [← hX'];rfl
 have hpn:X'.pn=X.pn++pins:=by rw [← hX'];rfl
 have hgX:PG X' target g:=by rw [← hX'];exact hg _ _ _ _ _ _
 have hiX:PIf X' ifs tc:=by rw [← hX'];exact hi _ _ _ _ _ _
 have heX:PE X' elt te:=by rw [← hX'];exact he _ _ _ _ _ _
 -- the iterator's own objects,in the block
 have fpo:∀ {pl:List (Addr×Obj)} {H':Hp} {its:List Value} {n:Nat},(∀ b∈fp,H' b=none)->∀ b∈fp,Kh X' [(s.heap.objs.size,Aq its n)] H' b:=λ{pl H' its n} hn b hb=>by
  obtain ⟨q0,q1,q2,q3,q4,q5⟩:=hf b hb;obtain ⟨e1,e2⟩:=I0.ok.exf b (by rw [hex];exact hb);have lt:b < s.heap.objs.size:=let ⟨o,e,_⟩:=T.obj 0 _ st b hb;Heap.lt_size e;refine ⟨hn b hb,e1,I0.ok.exfs b (by rw [hex];exact hb),.inl (by rw [hex];exact hb),e2,λp hp=>?_⟩;rw [hpn] at hp;rcases ju.mp hp with hp|hp
  ·exact q5 p hp
  ·have e:p=(s.heap.objs.size,Aq its n):=by simpa using hp
   subst e;exact jo lt
 obtain ⟨m0,w0⟩:=w0
 have loop:codeAny (model X.prog X.w) X.A (.compLoop (.ListComp elt [⟨target,iter,ifs,0⟩] scope pos) 0 (.ref it) (.ref s.heap.objs.size) X'.env) (RR (.ref s.heap.objs.size) (s.heap.objs.size+1)) { s with heap:=pushCells ((s.heap.push (Aq [] 0)).push { cls:=.type "dict",data:=.dict #[] }) scope.names }:=by
  refine Sh (λk s'=>∃ i H' acc its n,Inv X' [(s.heap.objs.size,Aq its n)] σ0 H' s'/\tn i s'.heap/\(∀ b∈fp,H' b=none)/\Vals acc its/\acc.length<=sizeLine/\W i k acc H') ?_ m0
   ⟨0,H,[],[],0,I0,st0,λb hb=>(hf b hb).1,.nil,qx _,w0⟩
  rintro k s3 ⟨i,H3,acc,its,n,I3,st3,fr3,rv,hz,w3⟩;rcases turn i k acc H3 w3 with ⟨stop,qn⟩|⟨go,N,hN,step⟩
  ·have z:=T.done X' hP hw hK hC i _ s3 σ0 H3 (λ_ _=>False) I3 (fpo (pl:=[]) fr3) st3 stop;rw [hA] at z;refine thn z ?_;rintro r s4 ⟨hr,I4⟩;subst hr;obtain ⟨m,hn,_⟩:=I4.loc;rw [hL] at hn;have fC:=I4.free;rw [hL] at fC;have e:=I4;rw [← hX'] at e;exact hRR _ acc H3 s4 m qn (gZ I hf e rv hz) (I4.pin (s.heap.objs.size,Aq its n) (gk _ dw)).2.1 hn fC (Nat.succ_ne_self _) (qw _)
  ·have z:=T.item X' hP hw hK hC i _ s3 σ0 H3 (λ_ _=>False) I3 (fpo (pl:=[]) fr3) st3 go;rw [hA] at z;refine thn z ?_;rintro r s4 ⟨u,hr,h4⟩;subst hr;refine thn h4 ?_;rintro _ s5 ⟨x,H5,I5,r5,y5,st5,fr5⟩;have I5':=I5.pinned (fpo (pl:=[]) fr5) (T.obj _ _ st5);have zg:=hgX _ s5 σ0 H5 x u _ I5' r5 (step x H5 y5);rw [hP,hw,hA,hxe] at zg;refine thn zg ?_;rintro _ s6 ⟨σ6,H6,I6,kp,q6⟩;have zi:=hiX _ s6 σ6 H6 _ I6 q6;rw [hP,hw,hA,hxe] at zi;refine thn zi ?_;rintro b s7 ⟨H7,I7,q7⟩
   -- back to the loop's head
   have back:∀ {H8:Hp} {s8:Shared} {acc':List V} {its':List Value} {n':Nat},Inv X' ([(s.heap.objs.size,Aq its' n')]++Jw fp s5.heap) σ6 H8 s8->Vals acc' its'->acc'.length<=sizeLine->N acc' H8 ->
     ∃ m,m < k/\∃ i H' acc its n,Inv X' [(s.heap.objs.size,Aq its n)] σ0 H' s8/\tn i s8.heap/\(∀ b∈fp,H' b=none)/\Vals acc its/\acc.length<=sizeLine/\W i m acc H':=λ{H8 s8 acc' its' n'} I8 rv' hz' n8=>by
    obtain ⟨m',hm,w8⟩:=hN acc' H8 n8;refine ⟨m',hm,i+1,H8,acc',its',n',(I8.unpinned).weak kp.1.symm kp.2,T.keep _ _ _ st5 λb hb o e=>(I8.pin (b,o) (gk _ (gk _ (Hh hb e)))).1,λb hb=>?_,rv',hz',w8⟩;obtain ⟨o,e,d⟩:=T.obj _ _ st5 b hb;exact (I8.pin (b,o) (gk _ (gk _ (Hh hb e)))).2.1
   cases b with
   | false =>
    rw [if_neg iu] at q7;rw [if_neg iu];exact back I7 rv hz q7
   | true =>
    rw [if_pos rfl] at q7;rw [if_pos rfl];obtain ⟨hlt,q7⟩:=q7;have ze:=heX _ s7 σ6 H7 _ I7 q7;rw [hP,hw,hA,hxe] at ze;refine thn ze ?_;rintro y s8 ⟨yv,H8,I8,r8,q8⟩;obtain ⟨p1,p2,p3,p4,p5⟩:=I8.pin (s.heap.objs.size,Aq its n) (gk _ (DY _ dw));have len:its.toArray.size<=sizeLine:=by
     have:=rv.length;simp only [cg];omega
    refine wpAny_list_append_plain (hsz:=len) ⟨n,p1⟩ ?_;rintro h' ⟨n',pl⟩ sb;have pl':h'.get? s.heap.objs.size=some (Aq (its++[y]) n'):=by rw [pl];simp [Aq]
    have lD:s.heap.objs.size < (pushCells ((s.heap.push (Aq [] 0)).push { cls:=.type "dict",data:=.dict #[] }) scope.names).objs.size:=by
     refine di ?_ (Gf _ _);rw [ir,ir];omega
    have cne:∀ z c,X'.env.cells.lookup z=some c->c≠s.heap.objs.size:=λz c e q=>by
     obtain ⟨v,hv⟩:=I8.cell z c e;obtain ⟨o,ho,hd⟩:=hv;rw [q] at ho;rw [show s8.heap.get? s.heap.objs.size=some (Aq its n) from p1] at ho;cases ho;cases hd
    have J9:Inv X' (Jw fp s5.heap) σ6 H8 { s8 with heap:=h' }:=by
     refine Inv.turned (t':=s8.toks) (it:=s.heap.objs.size) (I8.pins_of λp hp=>I8.pin p (gk _ (gk _ hp))) (λb o hb e=>sb.extBut b o hb e) p2 (by rw [hL];exact cj (jh _)) (.inr (by rw [hS0];exact bx _)) cne λp hp=>?_
     rw [hpn] at hp;rcases ju.mp hp with hp|hp
     ·have:p.1 < s.heap.objs.size:=Heap.lt_size (I.pin p hp).1;exact cj this
     ·obtain ⟨hb,_⟩:=Qq hp;have:p.1 < s.heap.objs.size:=let ⟨o,e,_⟩:=T.obj 0 _ st p.1 hb;Heap.lt_size e;exact cj this
    have I9:Inv X' ([(s.heap.objs.size,Aq (its++[y]) n')]++Jw fp s5.heap) σ6 H8 { s8 with heap:=h' }:=by
     refine J9.pins_of λp hp=>?_
     rcases ju.mp hp with hp|hp
     ·have e:p=(s.heap.objs.size,Aq (its++[y]) n'):=by simpa using hp
      subst e;exact ⟨pl',p2,p3,p4,λv=>by intro z;cases z⟩
     ·exact J9.pin p (gk _ hp)
    exact back I9 (rv.append (.cons r8 .nil)) (by rw [dj,kj];omega) q8
 exact codeAny_compStart_list loop (T.self X.A 0 _ _ _ st0 loop)
theorem rW (hc:X.calm=true) (S:CompOk X scope) (hit:PI X target iter wi)
  (hg:∀ pins C cells s₀ H₀ fp,PG (Br X pins N' scope C cells s₀ H₀ fp) target g)
  (hi:∀ pins C cells s₀ H₀ fp,PIf (Br X pins N' scope C cells s₀ H₀ fp) ifs tc)
  (he:∀ pins C cells s₀ H₀ fp,PE (Br X pins N' scope C cells s₀ H₀ fp) elt te)
  (hs:∀ x,foldedSetIterable iter X.env x=pure x:=by intro _;rfl) :
  PE X (.ListComp elt [⟨target,iter,ifs,0⟩] scope pos) (iB X N' scope wi g tc te):=by
 intro pins s σ H Q I h;rw [eval_ListComp];have hfree:∀ x∈scope.names,x.2=.free->∃ c,X.env.cells.lookup x.1=some c:=λx hx e=>I.ok.has x.1 (S.fr x hx e)
 refine JT (use:=none) rfl hs (Ei hfree) S.kind (λx hx e=>Bm S.nd (by rw [← e];exact hx)) (thn (hit pins s σ H _ I h) λv s1 h1=>thn h1 λitv s2 h2=>?_);obtain ⟨it,fp,tn,J,H2,e,I2,T,st2,f2,σ0,hσ,W,w0,turn⟩:=h2;subst e;refine Ol (QQ:=λacc H=>∀ p,H p=none->Q (.ref p) (upd H p (.lst acc))) (RR:=λacc C=>compPost (model X.prog X.w) X.A X.xe none (EP X pins σ Q) acc C) hc S hg hi he I2 T st2 f2 hσ W w0 turn ?_;intro C acc H' s' m q I' hD hn hC hne hle;refine ⟨m,hn,λh' sb=>?_⟩;obtain ⟨oC,_,_,hoC,_⟩:=id hn;have uC:upd H' s2.heap.objs.size (.lst acc) C=none:=by rw [Ad hne];exact hC
 have hCL:C≠X.env.locals:=jo (di I2.lt hle);refine ⟨.ref s2.heap.objs.size,_,I'.turned (t':=s'.toks) (it:=C) (λb o hb e=>sb.extBut b o hb e) uC hCL (.inr (jg I2.sz hle)) (λx c e z=>?_) λp hp z=>?_,rfl,q _ hD⟩
 ·obtain ⟨v,hv⟩:=I2.cell x c e;have:=hv.lt;rw [z] at this;exact jj _ (di this hle)
 ·have:=Heap.lt_size (I2.pin p hp).1;rw [z] at this;exact jj _ (di this hle)
theorem W8 {y:Str}{py spos:Pos}{gy:TG}(hc:X.calm=true) (S:CompOk X scope) (hit:PI X target iter wi)
  (hg:∀ pins C cells s₀ H₀ fp,PG (Br X pins N' scope C cells s₀ H₀ fp) target g)
  (hi:∀ pins C cells s₀ H₀ fp,PIf (Br X pins N' scope C cells s₀ H₀ fp) ifs tc)
  (he:∀ pins C cells s₀ H₀ fp,PE (Br X pins N' scope C cells s₀ H₀ fp) elt te)
  (hgy:PG X (.Name y py) gy)
  (hsw:swapsWith (.ListComp elt [⟨target,iter,ifs,0⟩] scope pos) (some (.Name y py)) spos.line X.env=pure true)
  (hs:∀ x,foldedSetIterable iter X.env x=pure x:=by intro _;rfl) :
  PS X (.Assign [.Name y py] (.ListComp elt [⟨target,iter,ifs,0⟩] scope pos) spos) (zH (iB X N' scope wi g tc te) gy):=by
 intro pins s σ H D I h;rw [exec_Assign_Name_used _ _ _ _ hsw];refine ak (HW (ak ?_));show wpAny _ X.A (do let _ ← comprehension (.ListComp elt [⟨target,iter,ifs,0⟩] scope pos) scope X.env _ (newList []) false (eval iter X.env) (some (assign (.Name y py) X.env))) _ _ s;have hfree:∀ x∈scope.names,x.2=.free->∃ c,X.env.cells.lookup x.1=some c:=λx hx e=>I.ok.has x.1 (S.fr x hx e)
 refine ak (nq (JT (use:=some (assign (.Name y py) X.env)) (Q:=λ_ s'=>SP X pins D .next s') rfl hs (Ei hfree) S.kind (λx hx e=>Bm S.nd (by rw [← e];exact hx)) (thn (hit pins s σ H _ I h) λv s1 h1=>thn h1 λitv s2 h2=>?_))
  (λ_ s' hq=>bf (bf hq)) λ_ _ e=>e)
 obtain ⟨it,fp,tn,J,H2,e,I2,T,st2,f2,σ0,hσ,W,w0,turn⟩:=h2;subst e;refine Ol (QQ:=λacc H=>∀ p,H p=none->gy (.ref p) σ (upd H p (.lst acc)) D.nx) (RR:=λacc C=>compPost (model X.prog X.w) X.A X.xe (some (assign (.Name y py) X.env)) (λ_ s'=>SP X pins D .next s') acc C) hc S hg hi he I2 T st2 f2 hσ W w0 turn ?_;intro C acc H' s' m q I' hD hn hC hne hle;obtain ⟨oC,esC,epC,hoC,hdC⟩:=id hn;have uC:upd H' s2.heap.objs.size (.lst acc) C=none:=by rw [Ad hne];exact hC
 have hCL:C≠X.env.locals:=jo (di I2.lt hle);have hCfs:C ∉ X.fs:=I2.nofs hle;have pinC:Inv X (pins++[(C,oC)]) σ (upd H' s2.heap.objs.size (.lst acc)) s':=by
  refine I'.pins_of λp hp=>?_
  rcases ju.mp hp with hp|hp
  ·exact I'.pin p (gk _ hp)
  ·have e:p=(C,oC):=by simpa using hp
   subst e;refine ⟨hoC,uC,hCL,hCfs,λv z=>?_⟩;rw [hdC.1] at z;cases z
 refine thn (hgy _ s' σ _ (.ref s2.heap.objs.size) _ _ pinC rfl (q _ hD)) ?_;rintro _ s'' ⟨σ2,H3,I3,q3⟩;obtain ⟨p1,p2,p3,p4,p5⟩:=I3.pin (C,oC) (gk _ (gk _ dw));refine ⟨m,⟨oC,esC,epC,p1,hdC⟩,λh' sb=>?_⟩;refine ⟨σ2,H3,(Inv.unpinned I3).turned (t':=s''.toks) (it:=C) (λb o hb e=>sb.extBut b o hb e) p2 hCL (.inr (jg I2.sz hle)) (λx c e z=>?_) λp hp z=>?_,q3⟩
 ·obtain ⟨v,hv⟩:=I2.cell x c e;have:=hv.lt;rw [z] at this;exact jj _ (di this hle)
 ·have:=Heap.lt_size (I2.pin p hp).1;rw [z] at this;exact jj _ (di this hle)
end
end L2
namespace DL
open PySem PySem.Spec PyProof.Rows L2
noncomputable abbrev St:=L2.St
structure CloI where
 ps:List Str
 N:List Str
 fr:List Str
 scope:Scope
 body:List Stmt
inductive D where
 | non | bl (b:Bool) | int (i:Int) | str (x:Str) | tup (ds:List D) | ref (n:Nat) | rol (ds:List D) | obj (c:Str) (ks:List Str) (ds:List D) | fn (x:Str) | lam | clo (I:CloI) (ds:List D)
 deriving Inhabited
inductive MO where
 | lst (ds:List D)
 | dct (kvs:List (Key×D))
 | dtk (kvs:List (PyData×D))
 | plc
 | plq (x:Str)
 | fzd
noncomputable abbrev MH:=List MO
noncomputable abbrev Loc:=List (Option D)
noncomputable def Ih (K:aj) (H:Hp) (a:Addr) (xs:List V):Prop:=(∃ o,H a=some (.frz o (.lst xs))) \/
  ∃ (o:Obj) (its:Array Value) (n:Nat),K.lookup a=some o/\o.cls=.type "list"/\o.dict=none/\o.data=.seq its n/\its.size<=sizeLine/\Vals xs its.toList
theorem Ih.sq {K:aj}{H:Hp}{a:Addr}{xs:List V}(h:Ih K H a xs):SqL K H a xs:=by
 rcases h with ⟨o,h⟩|h
 ·exact .inl (.inr ⟨o,h⟩)
 ·exact .inr h
noncomputable def Zc (fd:FuncData):Prop:=∃ (name qual:Str) (ps:Arguments) (x y:Str) (p q pt:Pos) (k:Nat) (sc:Scope) (pm cdv ct:Value),fd=yh name qual ps (.Tuple [.Name x p,.Name y q] k pt) sc [] pm cdv ct /\
  FnScope [x,y] [x,y] sc/\(x==("__debug__":Str))=false/\(x==("__classdict__":Str))=false/\(y==("__debug__":Str))=false/\(y==("__classdict__":Str))=false/\∀ u v,bindArgs fd ⟨[u,v],[]⟩=pure [(x,u),(y,v)]
noncomputable def Kq (H:Hp) (v:Value) (q:Str):Prop:=∃ c oc u vs tq,v=.ref c/\H c=some (.frz oc u)/\oc.data=.fields vs/\vs[1]?=some (.str q tq)
noncomputable def Zd (H:Hp) (a:Addr):Prop:=∃ o u fd,H a=some (.frz o u)/\o.data=.func fd/\Zc fd/\Kq H fd.code fd.qualname
structure CloSc (I:CloI):Prop where
 kind:I.scope.kind=.function
 co:I.scope.isCoroutine=false
 gen:I.scope.isGenerator=false
 nd:(I.N++I.fr).Nodup
 pre:I.N.take I.ps.length=I.ps
 par:∀ x∈I.ps,I.scope.names.lookup x=some .local
 nocell:∀ y∈I.scope.names,y.2≠.cell
 free:∀ x,I.scope.names.lookup x=some .free->x∈I.fr
 frs:∀ x∈I.fr,I.scope.names.lookup x=some .free
noncomputable def Ze (I:CloI) (fd:FuncData) (cl:List (Str×Addr)):Prop:=((∃ (name qual:Str) (params:Arguments) (doc pm cdv ctv:Value),fd=NP name qual params I.body I.scope cl .none .none doc pm none cdv ctv) \/
  ∃ (name qual:Str) (params:Arguments) (body:Expr) (pos:Pos) (pm cdv ctv:Value),I.body=[.Return (some body) pos]/\fd=yh name qual params body I.scope cl pm cdv ctv)/\∀ us:List Value,us.length=I.ps.length->bindArgs fd ⟨us,[]⟩=pure (I.ps.zip us)
noncomputable def Bt (H:Hp):List Addr->List V->Prop
 | [],[]=>True
 | c::cs,v::vs=>(∃ oc u w,H c=some (.frz oc u)/\oc.data=.cell (some w)/\RelV v w)/\Bt H cs vs
 | _,_=>False
noncomputable def Zf (H:Hp) (a:Addr) (I:CloI) (xs:List V):Prop:=∃ o u fd cl,H a=some (.frz o u)/\o.data=.func fd/\CloSc I/\Ze I fd cl/\Kq H fd.code fd.qualname/\cl.map (·.1)=I.fr/\(cl.map (·.2)).Nodup/\Bt H (cl.map (·.2)) xs
mutual
inductive RD (K:aj) (H:Hp) (ρ:List Addr):D->V->Prop
 | non:RD K H ρ .non .non
 | bl (b:Bool):RD K H ρ (.bl b) (.bl b)
 | int (i:Int):RD K H ρ (.int i) (.int i)
 | str (x:Str):RD K H ρ (.str x) (.str x)
 | tup {ds:List D} {a:Addr} {xs:List V}:SqT K H a xs->RDs K H ρ ds xs->RD K H ρ (.tup ds) (.ref a)
 | ref {n:Nat} {a:Addr}:ρ[n]?=some a->RD K H ρ (.ref n) (.ref a)
 | rol {ds:List D} {a:Addr} {xs:List V}:Ih K H a xs->RDs K H ρ ds xs->RD K H ρ (.rol ds) (.ref a)
 | obj {c:Str} {ks:List Str} {ds:List D} {a C dx:Addr} {xs:List V}:dg K mainGlobals c=some (some (.ref C))->H a=some (.ins C dx (ks.zip xs))->ks.length=xs.length->RDs K H ρ ds xs->RD K H ρ (.obj c ks ds) (.ref a)
 | fn {x:Str} {a:Addr}:dg K mainGlobals x=some (some (.ref a))->RD K H ρ (.fn x) (.ref a)
 | lam {a:Addr}:Zd H a->RD K H ρ .lam (.ref a)
 | clo {I:CloI} {ds:List D} {a:Addr} {xs:List V}:Zf H a I xs->RDs K H ρ ds xs->RD K H ρ (.clo I ds) (.ref a)
inductive RDs (K:aj) (H:Hp) (ρ:List Addr):List D->List V->Prop
 | nil:RDs K H ρ [] []
 | cons {d:D} {v:V} {ds:List D} {vs:List V}:RD K H ρ d v->RDs K H ρ ds vs->RDs K H ρ (d::ds) (v::vs)
end
structure Ev (K:aj) (H:Hp) (ρ:List Addr) (H':Hp) (ρ':List Addr):Prop where
 tup:∀ a xs,SqT K H a xs->SqT K H' a xs
 pre:ρ <+: ρ'
 perm:∀ a xs,Ih K H a xs->Ih K H' a xs
 ins:∀ a C dx fs,H a=some (.ins C dx fs)->H' a=some (.ins C dx fs)
 frz:∀ a o u,H a=some (.frz o u)->H' a=some (.frz o u)
theorem Ev.refl {K:aj}{H:Hp}{ρ:List Addr}:Ev K H ρ H ρ:=⟨λ_ _ h=>h,wk _,λ_ _ h=>h,λ_ _ _ _ h=>h,λ_ _ _ h=>h⟩
theorem Ev.trans {K:aj}{H H1 H2:Hp}{ρ ρ1 ρ2:List Addr}(a:Ev K H ρ H1 ρ1) (b:Ev K H1 ρ1 H2 ρ2):Ev K H ρ H2 ρ2:=⟨λx xs h=>b.tup x xs (a.tup x xs h),a.pre.trans b.pre,λx xs h=>b.perm x xs (a.perm x xs h),λx C dx fs h=>b.ins x C dx fs (a.ins x C dx fs h),λx o u h=>b.frz x o u (a.frz x o u h)⟩
theorem Ev.at {K:aj}{H H':Hp}{ρ ρ':List Addr}(e:Ev K H ρ H' ρ') {n:Nat}{a:Addr}(h:ρ[n]?=some a):ρ'[n]?=some a:=by
 obtain ⟨t,rfl⟩:=e.pre;obtain ⟨hl,_⟩:=dh.mp h;rw [gh hl];exact h
theorem Kq.mono {H H':Hp}(e:∀ a o u,H a=some (.frz o u)->H' a=some (.frz o u)) {v:Value}{q:Str}(h:Kq H v q):Kq H' v q :=
 let ⟨c,oc,u,vs,tq,h1,h2,h3⟩:=h;⟨c,oc,u,vs,tq,h1,e _ _ _ h2,h3⟩
theorem Zd.mono {H H':Hp}(e:∀ a o u,H a=some (.frz o u)->H' a=some (.frz o u)) {a:Addr}(h:Zd H a):Zd H' a :=
 let ⟨o,u,fd,h1,h2,h3,h4⟩:=h;⟨o,u,fd,e _ _ _ h1,h2,h3,h4.mono e⟩
theorem Bt.mono {H H':Hp}(e:∀ a o u,H a=some (.frz o u)->H' a=some (.frz o u)):∀ {cs:List Addr}{vs:List V},Bt H cs vs->Bt H' cs vs
 | [],[],_=>trivial
 | _::_,_::_,⟨⟨oc,u,w,h1,h2,h3⟩,t⟩=>⟨⟨oc,u,w,e _ _ _ h1,h2,h3⟩,Bt.mono e t⟩
theorem Zf.mono {H H':Hp}(e:∀ a o u,H a=some (.frz o u)->H' a=some (.frz o u)) {a:Addr}{I:CloI}{xs:List V}(h:Zf H a I xs):Zf H' a I xs :=
 let ⟨o,u,fd,cl,h1,h2,h3,h4,h5,h6,h7,h8⟩:=h;⟨o,u,fd,cl,e _ _ _ h1,h2,h3,h4,h5.mono e,h6,h7,h8.mono e⟩
mutual
theorem RD.mono {K:aj}{H H':Hp}{ρ ρ':List Addr}(e:Ev K H ρ H' ρ'):∀ {d:D}{v:V},RD K H ρ d v->RD K H' ρ' d v
 | _,_,.non=>.non
 | _,_,.bl b=>.bl b
 | _,_,.int i=>.int i
 | _,_,.str x=>.str x
 | _,_,.tup s r=>.tup (e.tup _ _ s) (RDs.mono e r)
 | _,_,.ref h=>.ref (e.at h)
 | _,_,.rol s r=>.rol (e.perm _ _ s) (RDs.mono e r)
 | _,_,.obj n s l r=>.obj n (e.ins _ _ _ _ s) l (RDs.mono e r)
 | _,_,.fn h=>.fn h
 | _,_,.lam h=>.lam (h.mono e.frz)
 | _,_,.clo h r=>.clo (h.mono e.frz) (RDs.mono e r)
theorem RDs.mono {K:aj}{H H':Hp}{ρ ρ':List Addr}(e:Ev K H ρ H' ρ'):∀ {ds:List D}{vs:List V},RDs K H ρ ds vs->RDs K H' ρ' ds vs
 | _,_,.nil=>.nil
 | _,_,.cons r t=>.cons (RD.mono e r) (RDs.mono e t)
end
section
variable {K:aj}{H H':Hp}{ρ ρ':List Addr}
theorem RDs.length:∀ {ds:List D}{vs:List V},RDs K H ρ ds vs->ds.length=vs.length
 | _,_,.nil=>rfl
 | _,_,.cons _ t=>by rw [fj,fj,RDs.length t]
theorem RDs.get:∀ {ds:List D}{vs:List V}{i:Nat}{d:D},RDs K H ρ ds vs->ds[i]?=some d->∃ v,vs[i]?=some v/\RD K H ρ d v
 | _,_,_,_,.nil,e=>by simp at e
 | _,_,0,_,.cons r _,e=>by simp at e;subst e;exact ⟨_,by simp,r⟩
 | _,_,i+1,d,.cons _ t,e=>by
  obtain ⟨v,h1,h2⟩:=RDs.get (i:=i) (d:=d) t (by simpa using e);exact ⟨v,by simpa using h1,h2⟩
theorem RDs.append:∀ {ds es:List D}{vs us:List V},RDs K H ρ ds vs->RDs K H ρ es us->RDs K H ρ (ds++es) (vs++us)
 | _,_,_,_,.nil,s=>s
 | _,_,_,_,.cons r t,s=>.cons r (RDs.append t s)
theorem RDs.take:∀ {ds:List D}{vs:List V}(n:Nat),RDs K H ρ ds vs->RDs K H ρ (ds.take n) (vs.take n)
 | _,_,0,_=>.nil
 | _,_,_+1,.nil=>.nil
 | _,_,n+1,.cons r t=>.cons r (RDs.take n t)
theorem RDs.drop:∀ {ds:List D}{vs:List V}(n:Nat),RDs K H ρ ds vs->RDs K H ρ (ds.drop n) (vs.drop n)
 | _,_,0,r=>r
 | _,_,_+1,.nil=>.nil
 | _,_,n+1,.cons _ t=>RDs.drop n t
theorem RDs.set {d:D}{v:V}(r:RD K H ρ d v):∀ {ds:List D}{vs:List V}(n:Nat),RDs K H ρ ds vs->RDs K H ρ (ds.set n d) (vs.set n v)
 | _,_,_,.nil=>.nil
 | _,_,0,.cons _ t=>.cons r t
 | _,_,n+1,.cons q t=>.cons q (RDs.set r n t)
theorem RDs.reverse {ds:List D}{vs:List V}(h:RDs K H ρ ds vs):RDs K H ρ ds.reverse vs.reverse:=by
 induction ds generalizing vs with
 | nil=>cases h;exact .nil
 | cons d ds ih =>
  cases h with
  | cons r t =>
   rw [BZ,BZ];exact (ih t).append (.cons r .nil)
theorem RDs.ints:∀ (ns:List Int),RDs K H ρ (ns.map D.int) (ns.map V.int)
 | []=>.nil
 | n::r=>.cons (.int n) (RDs.ints r)
noncomputable def rY (K:aj) (a:Addr):Prop:=∃ (f:Addr) (o:Obj) (fd:FuncData) (c bm:Addr) (ob:Obj),dg K mainGlobals "pattern_of"=some (some (.ref f))/\K.lookup f=some o/\o.data=.func fd/\fd.code=.ref c/\wu K c a=true /\
  dg K mainGlobals "__builtins__"=some (some (.ref bm))/\K.lookup bm=some ob/\ob.cls=.type "module"/\ob.dict=some builtinsNs/\ob.data=.plain/\bm≠builtinsNs/\bm≠mainGlobals
noncomputable abbrev rZ:Str:=("pattern_of":Str) ++ ".<locals>." ++ "<lambda>"
noncomputable def iC (K:aj) (H:Hp) (a:Addr):Prop:=∃ ps,H a=some (.tbl ps)/\TriplesOk ps.toList/\(∀ pos v,codeAmong pos ps.toList=some v->Kq H v rZ)/\rY K a
noncomputable def sE (K:aj) (x:Str) (a:Addr):Prop:=∃ (f:Addr) (o:Obj) (fd:FuncData) (c bm:Addr) (ob:Obj),dg K mainGlobals x=some (some (.ref f))/\K.lookup f=some o/\o.data=.func fd/\fd.code=.ref c/\wu K c a=true /\
  dg K mainGlobals "__builtins__"=some (some (.ref bm))/\K.lookup bm=some ob/\ob.cls=.type "module"/\ob.dict=some builtinsNs/\ob.data=.plain/\bm≠builtinsNs/\bm≠mainGlobals
noncomputable def Om (x:Str):Str:=if x == "law" || x == "_law_worlds" || x == "_law_run" then "_law_pick" else "<lambda>"
noncomputable abbrev Sq (x:Str):Str:=x ++ ".<locals>."++Om x
noncomputable def Zg (K:aj) (H:Hp) (x:Str) (a:Addr):Prop:=∃ ps,H a=some (.tbl ps)/\TriplesOk ps.toList/\(∀ pos v,codeAmong pos ps.toList=some v->Kq H v (Sq x))/\sE K x a
mutual
noncomputable def toD:PyData->D
 | .int i=>.int i
 | .str x=>.str x
 | .bool b=>.bl b
 | .tuple xs=>.tup (W9 xs)
 | _=>.non
noncomputable def W9:List PyData->List D
 | []=>[]
 | x::r=>toD x::W9 r
end
noncomputable def kOk (k:PyData):Prop:=kCl k=true/\k.canLay0=true/\k.depth<=8
inductive KN (K:aj) (H:Hp) (ρ:List Addr):List (PyData×D)->List (PyData×Addr×V)->Prop
 | nil:KN K H ρ [] []
 | cons {k:PyData} {d:D} {b:Addr} {v:V} {kvs:List (PyData×D)} {xs:List (PyData×Addr×V)}:kOk k->RD K H ρ (toD k) (.ref b)->RD K H ρ d v->KN K H ρ kvs xs->KN K H ρ ((k,d)::kvs) ((k,b,v)::xs)
theorem KN.mono {kvs:List (PyData×D)}{xs:List (PyData×Addr×V)}(e:Ev K H ρ H' ρ') (h:KN K H ρ kvs xs):KN K H' ρ' kvs xs:=by
 induction h with
 | nil=>exact .nil
 | cons a b c _ ih=>exact .cons a (b.mono e) (c.mono e) ih
noncomputable def RO (K:aj) (H:Hp) (ρ:List Addr) (a:Addr):MO->Prop
 | .lst ds=>∃ xs,H a=some (.lst xs)/\RDs K H ρ ds xs
 | .plc=>iC K H a
 | .plq x=>Zg K H x a
 | .fzd=>∃ o u,H a=some (.frz o u)
 | .dtk kvs=>∃ xs,H a=some (.dN xs)/\KN K H ρ kvs xs
 | .dct kvs=>∃ xs:List (Key×V),H a=some (.dK xs)/\xs.map (·.1)=kvs.map (·.1)/\RDs K H ρ (kvs.map (·.2)) (xs.map (·.2))
structure RS (K:aj) (H:Hp) (ρ:List Addr) (mh:MH):Prop where
 len:ρ.length=mh.length
 nd:ρ.Nodup
 obj:∀ (n:Nat) (a:Addr) (o:MO),ρ[n]?=some a->mh[n]?=some o->RO K H ρ a o
noncomputable def RL (K:aj) (H:Hp) (ρ:List Addr) (loc:Loc) (σ:St):Prop:=loc.length=σ.length/\∀ (i:Nat) (d:D),loc[i]?=some (some d)->∃ v,σ[i]?=some (some v)/\RD K H ρ d v
theorem RL.mono {loc:Loc}{σ:St}(e:Ev K H ρ H' ρ') (h:RL K H ρ loc σ):RL K H' ρ' loc σ:=⟨h.1,λi d q=>let ⟨v,e1,r⟩:=h.2 i d q;⟨v,e1,r.mono e⟩⟩
theorem RL.set {loc:Loc}{σ:St}{d:D}{v:V}{i:Nat}(h:RL K H ρ loc σ) (r:RD K H ρ d v):RL K H ρ (loc.set i (some d)) (σ.set i (some v)):=by
 refine ⟨by rw [qu,qu];exact h.1,λj d' q=>?_⟩
 by_cases e:i=j
 ·subst e;rw [CG] at q;simp only [if_true] at q;split at q
  ·rename_i hl;cases q;refine ⟨v,?_,r⟩;rw [CG];simp only [if_true];rw [if_pos (by rw [← h.1];exact hl)]
  ·cases q
 ·rw [jk e] at q;rw [jk e];exact h.2 j d' q
theorem RS.at {mh:MH}(h:RS K H ρ mh) {n:Nat}{o:MO}(e:mh[n]?=some o):∃ a,ρ[n]?=some a/\RO K H ρ a o:=by
 obtain ⟨hl,_⟩:=dh.mp e;have hl':n < ρ.length:=by rw [h.len];exact hl
 exact ⟨ρ[n],gq hl',h.obj n _ o (gq hl') e⟩
theorem RS.tracked {mh:MH}(h:RS K H ρ mh) {a:Addr}(ha:a∈ρ):∃ o,H a=some o:=by
 obtain ⟨n,hn,rfl⟩:=RG ha;have hl:n < mh.length:=by rw [← h.len];exact hn
 have q:=h.obj n _ _ (gq hn) (gq hl);cases e:mh[n] with
 | lst ds=>rw [e] at q;obtain ⟨xs,q,_⟩:=q;exact ⟨_,q⟩
 | dct kvs=>rw [e] at q;obtain ⟨xs,q,_⟩:=q;exact ⟨_,q⟩
 | dtk kvs=>rw [e] at q;obtain ⟨xs,q,_⟩:=q;exact ⟨_,q⟩
 | plc=>rw [e] at q;obtain ⟨xs,q,_⟩:=q;exact ⟨_,q⟩
 | plq x=>rw [e] at q;obtain ⟨xs,q,_⟩:=q;exact ⟨_,q⟩
 | fzd=>rw [e] at q;obtain ⟨o,u,q⟩:=q;exact ⟨_,q⟩
theorem RO.read {a:Addr}{ds:List D}(h:RO K H ρ a (.lst ds)):∃ xs,SqL K H a xs/\RDs K H ρ ds xs:=by
 obtain ⟨xs,q,r⟩:=h;exact ⟨xs,.inl (.inl q),r⟩
theorem Zh {a p:Addr}{o:HO}{xs:List V}(hp:H p=none) (h:SqT K H a xs):SqT K (upd H p o) a xs:=by
 rcases h with (h|⟨ob,h⟩)|h
 ·exact .inl (.inl (by rw [Ad (Ae h hp)];exact h))
 ·exact .inl (.inr ⟨ob,by rw [Ad (Ae h hp)];exact h⟩)
 ·exact .inr h
theorem sG {a p:Addr}{ys zs xs:List V}(hp:H p=some (.lst ys)) (h:SqT K H a xs):SqT K (upd H p (.lst zs)) a xs:=by
 rcases h with (h|⟨ob,h⟩)|h
 ·exact .inl (.inl (by rw [Ad (Fw h hp (by intro z;cases z))];exact h))
 ·exact .inl (.inr ⟨ob,by rw [Ad (Fw h hp (by intro z;cases z))];exact h⟩)
 ·exact .inr h
theorem U3 {a p:Addr}{o:HO}{xs:List V}(hp:H p=none) (h:Ih K H a xs):Ih K (upd H p o) a xs:=by
 rcases h with ⟨ob,h⟩|h
 ·exact .inl ⟨ob,by rw [Ad (Ae h hp)];exact h⟩
 ·exact .inr h
theorem iD {a p:Addr}{ys zs xs:List V}(hp:H p=some (.lst ys)) (h:Ih K H a xs):Ih K (upd H p (.lst zs)) a xs:=by
 rcases h with ⟨ob,h⟩|h
 ·exact .inl ⟨ob,by rw [Ad (Fw h hp (by intro z;cases z))];exact h⟩
 ·exact .inr h
theorem Ev.new {p:Addr}{o:HO}(hp:H p=none):Ev K H ρ (upd H p o) ρ:=⟨λ_ _ h=>Zh hp h,wk _,λ_ _ h=>U3 hp h,λa _ _ _ h=>by rw [Ad (Ae h hp)];exact h,λa _ _ h=>by rw [Ad (Ae h hp)];exact h⟩
theorem Ev.newL {p:Addr}{o:HO}(hp:H p=none):Ev K H ρ (upd H p o) (ρ++[p]):=⟨λ_ _ h=>Zh hp h,List.prefix_append _ _,λ_ _ h=>U3 hp h,λa _ _ _ h=>by rw [Ad (Ae h hp)];exact h,λa _ _ h=>by rw [Ad (Ae h hp)];exact h⟩
theorem Ev.lst {p:Addr}{ys zs:List V}(hp:H p=some (.lst ys)):Ev K H ρ (upd H p (.lst zs)) ρ:=⟨λ_ _ h=>sG hp h,wk _,λ_ _ h=>iD hp h,λa _ _ _ h=>by rw [Ad (Fw h hp (by intro z;cases z))];exact h,λa _ _ h=>by rw [Ad (Fw h hp (by intro z;cases z))];exact h⟩
theorem RO.mono {a:Addr}{o:MO}(e:Ev K H ρ H' ρ') (s:H' a=H a) (h:RO K H ρ a o):RO K H' ρ' a o:=by
 cases o with
 | lst ds=>obtain ⟨xs,q,r⟩:=h;exact ⟨xs,by rw [s];exact q,r.mono e⟩
 | dct kvs=>obtain ⟨xs,q,k,r⟩:=h;exact ⟨xs,by rw [s];exact q,k,r.mono e⟩
 | dtk kvs=>obtain ⟨xs,q,r⟩:=h;exact ⟨xs,by rw [s];exact q,r.mono e⟩
 | plc=>obtain ⟨ps,q,t,c,k⟩:=h;exact ⟨ps,by rw [s];exact q,t,λpos v z=>(c pos v z).mono e.frz,k⟩
 | plq x=>obtain ⟨ps,q,t,c,k⟩:=h;exact ⟨ps,by rw [s];exact q,t,λpos v z=>(c pos v z).mono e.frz,k⟩
 | fzd=>obtain ⟨o,u,q⟩:=h;exact ⟨o,u,by rw [s];exact q⟩
theorem RS.new {mh:MH}{p:Addr}{o:HO}(h:RS K H ρ mh) (hp:H p=none):RS K (upd H p o) ρ mh :=
 ⟨h.len,h.nd,λn a ob e1 e2=>(h.obj n a ob e1 e2).mono (Ev.new hp) (by
  obtain ⟨oo,q⟩:=h.tracked (iy e1)
  rw [Ad (Ae q hp)])⟩
theorem RS.newL {mh:MH}{p:Addr}{xs:List V}{ds:List D}(h:RS K H ρ mh) (hp:H p=none) (r:RDs K H ρ ds xs):RS K (upd H p (.lst xs)) (ρ++[p]) (mh++[.lst ds]):=by
 have hnp:p ∉ ρ:=λz=>by
  obtain ⟨o,q⟩:=h.tracked z;rw [hp] at q;cases q
 refine ⟨by rw [dj,dj,h.len];rfl,?_,λn a ob e1 e2=>?_⟩
 ·rw [vh]
  exact ⟨h.nd,KZ _ _,λa ha b hb z=>by
   rw [jw.mp hb] at z;rw [z] at ha;exact hnp ha⟩
 ·by_cases hn:n < ρ.length
  ·rw [gh hn] at e1;rw [gh (by rw [← h.len];exact hn)] at e2;refine (h.obj n a ob e1 e2).mono (Ev.newL hp) ?_;obtain ⟨oo,q⟩:=h.tracked (iy e1);rw [Ad (Ae q hp)]
  ·rw [ig (by omega)] at e1;rw [ig (by rw [← h.len];omega)] at e2;have n0:n - ρ.length=0:=by
    have:=(dh.mp e1).1;simp at this;omega
   rw [n0] at e1;rw [← h.len,n0] at e2;cases e1;cases e2;exact ⟨xs,Ag,r.mono (Ev.newL hp)⟩
theorem RS.setL {mh:MH}{n:Nat}{p:Addr}{ys xs:List V}{ds:List D}(h:RS K H ρ mh) (hn:ρ[n]?=some p) (hp:H p=some (.lst ys)) (r:RDs K H ρ ds xs):RS K (upd H p (.lst xs)) ρ (mh.set n (.lst ds)):=by
 refine ⟨by rw [qu];exact h.len,h.nd,λm a ob e1 e2=>?_⟩
 by_cases hm:n=m
 ·subst hm;rw [hn] at e1;cases e1;rw [CG] at e2;simp only [if_true] at e2;split at e2
  ·cases e2;exact ⟨xs,Ag,r.mono (Ev.lst hp)⟩
  ·cases e2
 ·rw [jk hm] at e2;refine (h.obj m a ob e1 e2).mono (Ev.lst hp) ?_;rw [Ad];intro z;subst z;exact hm ((vm (dh.mp hn).1 h.nd).mp (hn.trans e1.symm))
end
noncomputable abbrev DM (α:Type):=Loc->MH->Option (α×MH)
noncomputable def DM.bnd {α β:Type}(m:DM α) (f:α->DM β):DM β:=λloc mh=>match m loc mh with
 | none=>none
 | some (a,mh')=>f a loc mh'
theorem Ah {α β:Type}{m:DM α}{f:α->DM β}{loc:Loc}{mh:MH}{r:β×MH}(h:m.bnd f loc mh=some r):∃ a m1,m loc mh=some (a,m1)/\f a loc m1=some r:=by
 unfold DM.bnd at h;split at h
 ·cases h
 ·rename_i a m1 e;exact ⟨a,m1,e,h⟩
noncomputable def Zr {α:Type}(a:α):DM α:=λ_ mh=>some (a,mh)
noncomputable def Zl {α:Type}(f:MH->Option (α×MH)):DM α:=λ_ mh=>f mh
noncomputable def Zb {α:Type}:DM α:=λ_ _=>none
noncomputable def Co (K:aj) (H:Hp) (ρ:List Addr) (mh':MH) (d:D) (Q:VK):Prop:=∀ H' ρ' v,Ev K H ρ H' ρ'->RS K H' ρ' mh'->RD K H' ρ' d v->Q v H'
noncomputable def tD (K:aj) (loc:Loc) (mh:MH) (r:Option (D×MH)):TE:=λσ H Q=>∃ ρ d mh',r=some (d,mh')/\RL K H ρ loc σ/\RS K H ρ mh/\Co K H ρ mh' d Q
noncomputable def tDT (K:aj) (loc:Loc) (mh:MH) (r:Option (Bool×MH)):TT:=λσ H Q=>∃ ρ b mh',r=some (b,mh')/\RL K H ρ loc σ/\RS K H ρ mh/\∀ H' ρ',Ev K H ρ H' ρ'->RS K H' ρ' mh'->Q b H'
noncomputable def tDA (K:aj) (loc:Loc) (mh:MH) (r:Option (List D×MH)):TA:=λσ H Q=>∃ ρ ds mh',r=some (ds,mh')/\RL K H ρ loc σ/\RS K H ρ mh/\∀ H' ρ' vs,Ev K H ρ H' ρ'->RS K H' ρ' mh'->RDs K H' ρ' ds vs->Q vs H'
noncomputable def DE (X:Cx) (e:Expr) (m:DM D):Prop:=∀ loc mh,PE X e (tD X.K loc mh (m loc mh))
noncomputable def DT (X:Cx) (e:Expr) (m:DM Bool):Prop:=∀ loc mh,PT X e (tDT X.K loc mh (m loc mh))
noncomputable def DA (X:Cx) (es:List Expr) (m:DM (List D)):Prop:=∀ loc mh,PA X es (tDA X.K loc mh (m loc mh))
theorem Ar {X:Cx}{e:Expr}{t t':TE}(h:PE X e t) (i:∀ σ H Q,t' σ H Q->t σ H Q):PE X e t':=λpins s σ H Q I q=>h pins s σ H Q I (i σ H Q q)
theorem Lb {X:Cx}{e:Expr}{t t':TT}(h:PT X e t) (i:∀ σ H Q,t' σ H Q->t σ H Q):PT X e t':=λpins s σ H Q I q=>h pins s σ H Q I (i σ H Q q)
theorem iH {X:Cx}{es:List Expr}{t t':TA}(h:PA X es t) (i:∀ σ H Q,t' σ H Q->t σ H Q):PA X es t':=λpos pins s σ H Q I q=>h pos pins s σ H Q I (i σ H Q q)
theorem sH {K:aj}{loc:Loc}{mh:MH}{σ:St}{H:Hp}{Q:VK}(h:tD K loc mh none σ H Q):False:=by obtain ⟨_,_,_,e,_⟩:=h;cases e
theorem Ax {X:Cx}{e:Expr}{loc:Loc}{mh:MH}:PE X e (tD X.K loc mh none):=λ_ _ _ _ _ _ h=>(sH h).elim
theorem Zi {X:Cx}{e:Expr}{loc:Loc}{mh:MH}:PT X e (tDT X.K loc mh none):=λ_ _ _ _ _ _ h=>by obtain ⟨_,_,_,e,_⟩:=h;cases e
theorem Zj {X:Cx}{es:List Expr}{loc:Loc}{mh:MH}:PA X es (tDA X.K loc mh none):=λ_ _ _ _ _ _ _ h=>by obtain ⟨_,_,_,e,_⟩:=h;cases e
theorem Ak {X:Cx}{e:Expr}:DE X e Zb:=λ_ _=>Ax
theorem Eo {X:Cx}{e:Expr}:DT X e Zb:=λ_ _=>Zi
theorem iJ {X:Cx}{es:List Expr}:DA X es Zb:=λ_ _=>Zj
section
variable {X:Cx}{a b c e:Expr}{ma mb mc:DM D}{pos:Pos}
theorem sI {d:D}{v:V}(h:PE X e (tC v)) (r:∀ K H ρ,RD K H ρ d v):DE X e (Zr d):=by
 refine λloc mh=>Ar h ?_
 rintro σ H Q ⟨ρ,d',mh',q,rl,rs,co⟩;cases q;exact co H ρ v Ev.refl rs (r _ _ _)
theorem iK {i:Nat}{x:Str}(hN:X.N[i]?=some x) (hv:Vis X.env.scope x) (hd:(x==("__debug__":Str))=false) (hcd:(x==("__classdict__":Str))=false) :
  DE X (.Name x pos) (λloc mh=>match loc[i]? with | some (some d)=>some (d,mh) | _=>none):=by
 refine λloc mh=>Ar (Hf hN hv hd hcd) ?_
 rintro σ H Q ⟨ρ,d',mh',q,rl,rs,co⟩;dsimp only at q;split at q
 ·rename_i d e;cases q;obtain ⟨v,h1,h2⟩:=rl.2 i d' e;exact ⟨v,h1,co H ρ v Ev.refl rs h2⟩
 ·cases q
noncomputable def rD (K:aj) (f:D->D->MH->Option (D×MH)):R2:=λx y H Q=>∃ ρ mh dx dy d mh',f dx dy mh=some (d,mh')/\RS K H ρ mh/\RD K H ρ dx x/\RD K H ρ dy y/\Co K H ρ mh' d Q
noncomputable def rD1 (K:aj) (f:D->MH->Option (D×MH)):V->Hp->VK->Prop:=λx H Q=>∃ ρ mh dx d mh',f dx mh=some (d,mh')/\RS K H ρ mh/\RD K H ρ dx x/\Co K H ρ mh' d Q
noncomputable def rDs (K:aj) (f:List D->MH->Option (D×MH)):List V->Hp->VK->Prop:=λxs H Q=>∃ ρ mh ds d mh',f ds mh=some (d,mh')/\RS K H ρ mh/\RDs K H ρ ds xs/\Co K H ρ mh' d Q
theorem Co.ev {K:aj}{H H1:Hp}{ρ ρ1:List Addr}{mh':MH}{d:D}{Q:VK}(e:Ev K H ρ H1 ρ1) (c:Co K H ρ mh' d Q):Co K H1 ρ1 mh' d Q:=λH' ρ' v e' rs r=>c H' ρ' v (e.trans e') rs r
noncomputable def dop (f:D->D->MH->Option (D×MH)) (ma mb:DM D):DM D:=ma.bnd λx=>mb.bnd λy=>Zl (f x y)
theorem two {K:aj}{f:D->D->MH->Option (D×MH)}{loc:Loc}{mh:MH}{σ:St}{H:Hp}{Q:VK}(h:tD K loc mh (dop f ma mb loc mh) σ H Q) :
  ∃ x m1,ma loc mh=some (x,m1)/\tOp (rD K f) (tD K loc mh (ma loc mh)) (tD K loc m1 (mb loc m1)) σ H Q:=by
 obtain ⟨ρ,d,mh',q,rl,rs,co⟩:=h;obtain ⟨x,m1,ea,q⟩:=Ah q;obtain ⟨y,m2,eb,q⟩:=Ah q;refine ⟨x,m1,ea,ρ,x,m1,ea,rl,rs,λH1 ρ1 v1 e1 rs1 r1=>⟨ρ1,y,m2,eb,rl.mono e1,rs1,λH2 ρ2 v2 e2 rs2 r2=>?_⟩⟩;exact ⟨ρ2,m2,x,y,d,mh',q,rs2,r1.mono e2,r2,co.ev (e1.trans e2)⟩
theorem Xa {f:D->D->MH->Option (D×MH)}(h:∀ ta tb,PE X a ta->PE X b tb->PE X e (tOp (rD X.K f) ta tb)) (ha:DE X a ma) (hb:DE X b mb):DE X e (dop f ma mb):=λloc mh=>by
 cases ea:ma loc mh with
 | none =>
  have:dop f ma mb loc mh=none:=by unfold dop DM.bnd;rw [ea]
  rw [this];exact Ax
 | some p =>
  refine Ar (h _ _ (ha loc mh) (hb loc p.2)) λσ H Q q=>?_
  obtain ⟨x,m1,e1,q⟩:=two q;rw [ea] at e1;cases e1;exact q
theorem Ad0 {op:Operator}{f:D->D->MH->Option (D×MH)}(ho:OpR X (binaryOp op) (rD X.K f)) (ha:DE X a ma) (hb:DE X b mb):DE X (.BinOp a op b pos) (dop f ma mb):=Xa (λ_ _ p q=>Adj ho p q) ha hb
theorem Aaj {op:CmpOp}{f:D->D->MH->Option (D×MH)}(ho:OpR X (compareOp op) (rD X.K f)) (hm:behindInMarks op b=false) (ha:DE X a ma) (hb:DE X b mb):DE X (.Compare a [op] [b] pos) (dop f ma mb):=Xa (λ_ _ p q=>Ry ho p q hm) ha hb
theorem Ad1 {f:D->D->MH->Option (D×MH)}(ho:IxR X (rD X.K f)) (hs:Nm b) (ha:DE X a ma) (hb:DE X b mb):DE X (.Subscript a b pos) (dop f ma mb):=Xa (λ_ _ p q=>xQ ho p q hs) ha hb
theorem Ad2 {op:UnaryOp}{f:D->MH->Option (D×MH)}(ho:UnR X (unaryOp op) (rD1 X.K f)) (ha:DE X a ma):DE X (.UnaryOp op a pos) (ma.bnd λx=>Zl (f x)):=λloc mh =>
 Ar (Adk ho (ha loc mh)) λσ H Q ⟨ρ,d,mh',q,rl,rs,co⟩=>by
 obtain ⟨x,m1,ea,q⟩:=Ah q
 ·exact ⟨ρ,x,m1,ea,rl,rs,λH1 ρ1 v1 e1 rs1 r1=>⟨ρ1,m1,x,d,mh',q,rs1,r1,co.ev e1⟩⟩
noncomputable def asB:D->Option Bool
 | .bl b=>some b
 | _=>none
noncomputable def Am (ma:DM D):DM Bool:=ma.bnd λx=>match asB x with | some b=>Zr b | none=>Zb
theorem sJ {f:D->D->MH->Option (D×MH)}(h:∀ ta tb,PE X a ta->PE X b tb->PT X e (fZ (tOp (rD X.K f) ta tb))) (ha:DE X a ma) (hb:DE X b mb):DT X e (Am (dop f ma mb)):=λloc mh=>by
 cases ea:ma loc mh with
 | none =>
  have:Am (dop f ma mb) loc mh=none:=by unfold Am dop DM.bnd;rw [ea]
  rw [this];exact Zi
 | some p =>
  refine Lb (h _ _ (ha loc mh) (hb loc p.2)) ?_;rintro σ H Q ⟨ρ,k,mh',q,rl,rs,co⟩;unfold Am at q;cases ed:dop f ma mb loc mh with
  | none=>unfold DM.bnd at q;rw [ed] at q;cases q
  | some z =>
   obtain ⟨d,m2⟩:=z;unfold DM.bnd at q;rw [ed] at q;cases d with
   | bl k' =>
    cases q;have t:tD X.K loc mh (dop f ma mb loc mh) σ H (λx H'=>∃ k,x=.bl k/\Q k H'):=⟨ρ,.bl k,mh',ed,rl,rs,λH' ρ' v e' rs' r'=>by cases r';exact ⟨k,rfl,co H' ρ' e' rs'⟩⟩;obtain ⟨x,m1,e1,q⟩:=two t;rw [ea] at e1;cases e1;exact q
   | non=>cases q
   | int i=>cases q
   | str s=>cases q
   | tup ds=>cases q
   | ref n=>cases q
   | rol ds=>cases q
   | obj c ks ds=>cases q
   | fn x=>cases q
   | lam=>cases q
   | clo=>cases q
theorem Aak {op:CmpOp}{f:D->D->MH->Option (D×MH)}(ho:OpR X (compareOp op) (rD X.K f)) (hm:behindInMarks op b=false) (ha:DE X a ma) (hb:DE X b mb):DT X (.Compare a [op] [b] pos) (Am (dop f ma mb)):=sJ (λ_ _ p q=>Rz ho p q hm) ha hb
noncomputable def Mt (t u:DM Bool):DM Bool:=t.bnd λc=>if c=true then u else Zr false
noncomputable def Ni (t u:DM Bool):DM Bool:=t.bnd λc=>if c=true then Zr true else u
noncomputable def Gs (t:DM Bool):DM Bool:=t.bnd λc=>Zr (!c)
noncomputable def DW (X:Cx) (e:Expr) (m:DM Bool):Prop:=∀ loc mh,PW X e (tDT X.K loc mh (m loc mh))
theorem Zk {loc:Loc}{mh:MH}:PW X e (tDT X.K loc mh none):=λ_ _ _ _ _ _ _ h=>by obtain ⟨_,_,_,e,_⟩:=h;cases e
theorem iM {t t':TT}(h:PW X e t) (i:∀ σ H Q,t' σ H Q->t σ H Q):PW X e t':=λwh pins s σ H Q I q=>h wh pins s σ H Q I (i σ H Q q)
theorem DW.dt {m:DM Bool}(h:DW X e m):DT X e m:=λloc mh=>(h loc mh).pt
variable {t u:DM Bool}{rest:List Expr}
theorem sO (ha:DT X a t):DW X (.BoolOp .And [a] pos) t:=λloc mh=>qR (ha loc mh)
theorem Aal (ha:DT X a t):DW X (.BoolOp .Or [a] pos) t:=λloc mh=>yS (ha loc mh)
theorem Aam (ha:DT X a t) (hb:DW X (.BoolOp .And (b::rest) pos) u):DW X (.BoolOp .And (a::b::rest) pos) (Mt t u):=λloc mh=>by
 cases ea:t loc mh with
 | none =>
  have:Mt t u loc mh=none:=by unfold Mt DM.bnd;rw [ea]
  rw [this];exact Zk
 | some p =>
  obtain ⟨k,m1⟩:=p;refine iM (yU (ha loc mh) (hb loc m1)) ?_;rintro σ H Q ⟨ρ,k',mh',q,rl,rs,co⟩;have q':(if k=true then u else Zr false) loc m1=some (k',mh'):=by unfold Mt DM.bnd at q;rw [ea] at q;exact q
  refine ⟨ρ,k,m1,ea,rl,rs,λH1 ρ1 e1 rs1=>?_⟩;cases k with
  | true=>exact Sd ⟨ρ1,k',mh',q',rl.mono e1,rs1,λH2 ρ2 e2 rs2=>co H2 ρ2 (e1.trans e2) rs2⟩
  | false=>cases q';exact R9 (co H1 ρ1 e1 rs1)
theorem Ad3 (ha:DT X a t) (hb:DW X (.BoolOp .Or (b::rest) pos) u):DW X (.BoolOp .Or (a::b::rest) pos) (Ni t u):=λloc mh=>by
 cases ea:t loc mh with
 | none =>
  have:Ni t u loc mh=none:=by unfold Ni DM.bnd;rw [ea]
  rw [this];exact Zk
 | some p =>
  obtain ⟨k,m1⟩:=p;refine iM (Ac6 (ha loc mh) (hb loc m1)) ?_;rintro σ H Q ⟨ρ,k',mh',q,rl,rs,co⟩;have q':(if k=true then Zr true else u) loc m1=some (k',mh'):=by unfold Ni DM.bnd at q;rw [ea] at q;exact q
  refine ⟨ρ,k,m1,ea,rl,rs,λH1 ρ1 e1 rs1=>?_⟩;cases k with
  | true=>cases q';exact Sd (co H1 ρ1 e1 rs1)
  | false=>exact R9 ⟨ρ1,k',mh',q',rl.mono e1,rs1,λH2 ρ2 e2 rs2=>co H2 ρ2 (e1.trans e2) rs2⟩
theorem Aan (ha:DT X a t):DT X (.UnaryOp .Not a pos) (Gs t):=λloc mh=>by
 refine Lb (yV (ha loc mh)) ?_;rintro σ H Q ⟨ρ,k',mh',q,rl,rs,co⟩;obtain ⟨k,m1,ea,q⟩:=Ah q
 ·cases q;exact ⟨ρ,k,mh',ea,rl,rs,λH1 ρ1 e1 rs1=>co H1 ρ1 e1 rs1⟩
noncomputable def dIf (t:DM Bool) (ma mb:DM D):DM D:=t.bnd λc=>if c=true then ma else mb
theorem Ad4 (hc:DT X c t) (ha:DE X a ma) (hb:DE X b mb):DE X (.IfExp c a b pos) (dIf t ma mb):=λloc mh=>by
 cases ea:t loc mh with
 | none =>
  have:dIf t ma mb loc mh=none:=by unfold dIf DM.bnd;rw [ea]
  rw [this];exact Ax
 | some p =>
  obtain ⟨k,m1⟩:=p;refine Ar (fP (hc loc mh) (ha loc m1) (hb loc m1)) ?_;rintro σ H Q ⟨ρ,d,mh',q,rl,rs,co⟩;have q':(if k=true then ma else mb) loc m1=some (d,mh'):=by unfold dIf DM.bnd at q;rw [ea] at q;exact q
  refine ⟨ρ,k,m1,ea,rl,rs,λH1 ρ1 e1 rs1=>?_⟩;cases k with
  | true=>exact Sd ⟨ρ1,d,mh',q',rl.mono e1,rs1,co.ev e1⟩
  | false=>exact R9 ⟨ρ1,d,mh',q',rl.mono e1,rs1,co.ev e1⟩
noncomputable def Jp (ma mb:DM D):DM D:=(Am ma).bnd λc=>if c=true then mb else Zr (.bl false)
noncomputable def Xb (ma mb:DM D):DM D:=(Am ma).bnd λc=>if c=true then Zr (.bl true) else mb
theorem Dj {loc:Loc}{mh:MH}{k:Bool}{m1:MH}(h:Am ma loc mh=some (k,m1)):ma loc mh=some (.bl k,m1):=by
 obtain ⟨x,m2,ea,h⟩:=Ah h
 ·cases x with
  | bl b=>cases h;exact ea
  | non=>cases h
  | int i=>cases h
  | str s=>cases h
  | tup ds=>cases h
  | ref n=>cases h
  | rol ds=>cases h
  | obj c ks ds=>cases h
  | fn x=>cases h
  | lam=>cases h
  | clo=>cases h
theorem Aao {op}(ha:DE X a ma):DE X (.BoolOp op [a] pos) ma:=λloc mh=>yW (ha loc mh)
theorem Aap (ha:DE X a ma) (hb:DE X (.BoolOp .And (b::rest) pos) mb):DE X (.BoolOp .And (a::b::rest) pos) (Jp ma mb):=λloc mh=>by
 cases ea:Am ma loc mh with
 | none =>
  have:Jp ma mb loc mh=none:=by unfold Jp DM.bnd;rw [ea]
  rw [this];exact Ax
 | some p =>
  obtain ⟨k,m1⟩:=p;refine Ar (yX (ha loc mh) (hb loc m1)) ?_;rintro σ H Q ⟨ρ,d,mh',q,rl,rs,co⟩;have q':(if k=true then mb else Zr (.bl false)) loc m1=some (d,mh'):=by unfold Jp DM.bnd at q;rw [ea] at q;exact q
  refine ⟨ρ,.bl k,m1,Dj ea,rl,rs,λH1 ρ1 v e1 rs1 r1=>?_⟩;cases r1;refine ⟨k,rfl,?_⟩;cases k with
  | true=>exact Sd ⟨ρ1,d,mh',q',rl.mono e1,rs1,co.ev e1⟩
  | false=>cases q';exact R9 (co H1 ρ1 _ e1 rs1 (.bl false))
theorem Ad5 (ha:DE X a ma) (hb:DE X (.BoolOp .Or (b::rest) pos) mb):DE X (.BoolOp .Or (a::b::rest) pos) (Xb ma mb):=λloc mh=>by
 cases ea:Am ma loc mh with
 | none =>
  have:Xb ma mb loc mh=none:=by unfold Xb DM.bnd;rw [ea]
  rw [this];exact Ax
 | some p =>
  obtain ⟨k,m1⟩:=p;refine Ar (Ac9 (ha loc mh) (hb loc m1)) ?_;rintro σ H Q ⟨ρ,d,mh',q,rl,rs,co⟩;have q':(if k=true then Zr (.bl true) else mb) loc m1=some (d,mh'):=by unfold Xb DM.bnd at q;rw [ea] at q;exact q
  refine ⟨ρ,.bl k,m1,Dj ea,rl,rs,λH1 ρ1 v e1 rs1 r1=>?_⟩;cases r1;refine ⟨k,rfl,?_⟩;cases k with
  | true=>cases q';exact Sd (co H1 ρ1 _ e1 rs1 (.bl true))
  | false=>exact R9 ⟨ρ1,d,mh',q',rl.mono e1,rs1,co.ev e1⟩
theorem Aaq (ha:DE X a ma):DE X (.UnaryOp .Not a pos) ((Am ma).bnd λc=>Zr (.bl (!c))):=λloc mh=>by
 refine Ar (yZ (ha loc mh)) ?_;rintro σ H Q ⟨ρ,d,mh',q,rl,rs,co⟩;cases ea:Am ma loc mh with
 | none=>unfold DM.bnd at q;rw [ea] at q;cases q
 | some p =>
  obtain ⟨k,m1⟩:=p;unfold DM.bnd at q;rw [ea] at q;cases q;refine ⟨ρ,.bl k,mh',Dj ea,rl,rs,λH1 ρ1 v e1 rs1 r1=>?_⟩;cases r1;exact ⟨k,rfl,co H1 ρ1 _ e1 rs1 (.bl _)⟩
noncomputable def iQ:D->MH->Option Bool
 | .non,_=>some false
 | .bl b,_=>some b
 | .int i,_=>some (i != 0)
 | .str y,_=>if y.length<=sizeLine then some ((y.length:Int) != 0) else none
 | .tup ds,_=>some (!ds.isEmpty)
 | .ref n,mh=>match mh[n]? with | some (.lst o)=>some (!o.isEmpty) | _=>none
 | .rol ds,_=>some (!ds.isEmpty)
 | .obj ..,_=>none
 | .fn _,_=>none
 | .lam,_=>none
 | .clo _ _,_=>none
theorem Ii {K:aj}{H:Hp}{ρ:List Addr}{ds:List D}{xs:List V}(r:RDs K H ρ ds xs):ds.isEmpty=xs.isEmpty:=by cases r <;> rfl
theorem sS {K:aj}{H:Hp}{ρ:List Addr}{mh:MH}{d:D}{v:V}{k:Bool}(rs:RS K H ρ mh) (r:RD K H ρ d v) (e:iQ d mh=some k):zW K v H k:=by
 cases r with
 | non=>cases e;rfl
 | bl b=>cases e;rfl
 | int i=>cases e;rfl
 | str x =>
  have e:(if x.length<=sizeLine then some ((x.length:Int) != 0) else none)=some k:=e;split at e
  ·rename_i hz;cases e;exact ⟨hz,rfl⟩
  ·cases e
 | tup s r=>cases e;exact .inr (.inl ⟨_,s,by rw [Ii r]⟩)
 | rol s r=>cases e;exact .inl ⟨_,s.sq,by rw [Ii r]⟩
 | obj n s l r=>cases e
 | fn h=>cases e
 | lam h=>cases e
 | clo=>cases e
 | @ref n a h =>
  have e:(match mh[n]? with | some (.lst o)=>some (!o.isEmpty) | _=>none)=some k:=e;split at e
  ·rename_i o eo;cases e;obtain ⟨a',ha,ro⟩:=rs.at eo;rw [h] at ha;cases ha;obtain ⟨xs,q,r⟩:=ro.read;exact .inl ⟨xs,q,by rw [Ii r]⟩
  ·cases e
noncomputable def Hi (ma:DM D):DM Bool:=ma.bnd λx=>λ_ mh=>match iQ x mh with | some k=>some (k,mh) | none=>none
theorem U4 (ha:DE X a ma) (he:∀ whole,isTrue a X.env whole=(do let v ← whole;standAt a.pos;holding [v] (truthy v))):DT X a (Hi ma):=λloc mh=>by
 refine Lb (gC (ha loc mh) he) ?_;rintro σ H Q ⟨ρ,k,mh',q,rl,rs,co⟩;obtain ⟨x,m1,ea,q⟩:=Ah q
 ·split at q
  ·rename_i k' ek;cases q;exact ⟨ρ,x,mh',ea,rl,rs,λH1 ρ1 v e1 rs1 r1=>⟨k,sS rs1 r1 ek,co H1 ρ1 e1 rs1⟩⟩
  ·cases q
noncomputable def Aa (ma:DM D) (mr:DM (List D)):DM (List D):=ma.bnd λx=>mr.bnd λxs=>Zr (x::xs)
theorem Ss:DA X [] (Zr []):=by
 refine λloc mh=>iH Ga ?_
 rintro σ H Q ⟨ρ,ds,mh',q,rl,rs,co⟩;cases q;exact co H ρ [] Ev.refl rs .nil
theorem Hj {es:List Expr}{mr:DM (List D)}(ha:DE X a ma) (hr:DA X es mr) (hs:starEach (a::es) X.env=(false,eval a X.env)::starEach es X.env):DA X (a::es) (Aa ma mr):=λloc mh=>by
 cases ea:ma loc mh with
 | none =>
  have:Aa ma mr loc mh=none:=by unfold Aa DM.bnd;rw [ea]
  rw [this];exact Zj
 | some p =>
  obtain ⟨x,m1⟩:=p;refine iH (Dr (ha loc mh) (hr loc m1) hs) ?_;rintro σ H Q ⟨ρ,ds,mh',q,rl,rs,co⟩;obtain ⟨x2,m2,ea2,q⟩:=Ah q;rw [ea] at ea2;cases ea2;obtain ⟨xs,m2,er,q'⟩:=Ah q
  ·cases q';exact ⟨ρ,x,m1,ea,rl,rs,λH1 ρ1 v e1 rs1 r1=>⟨ρ1,xs,mh',er,rl.mono e1,rs1,λH2 ρ2 vs e2 rs2 r2=>co H2 ρ2 _ (e1.trans e2) rs2 (.cons (r1.mono e2) r2)⟩⟩
noncomputable def Qx (ds:List D) (mh:MH):Option (D×MH):=if ds.length<=sizeLine then some (.tup ds,mh) else none
noncomputable def Qy (ds:List D) (mh:MH):Option (D×MH):=if ds.length<=sizeLine then some (.ref mh.length,mh++[.lst ds]) else none
theorem RS.last {K:aj}{H:Hp}{ρ:List Addr}{mh:MH}(h:RS K H ρ mh) (p:Addr):(ρ++[p])[mh.length]?=some p:=by rw [← h.len];simp
theorem Co.newT {K:aj}{H:Hp}{ρ:List Addr}{mh:MH}{ds:List D}{vs:List V}{Q:VK}(rs:RS K H ρ mh) (r:RDs K H ρ ds vs) (co:Co K H ρ mh (.tup ds) Q):∀ p,H p=none->Q (.ref p) (upd H p (.tup vs)):=λp hp =>
 co _ ρ _ (Ev.new hp) (rs.new hp) (.tup (.inl (.inl Ag)) (r.mono (Ev.new hp)))
theorem Co.newL {K:aj}{H:Hp}{ρ:List Addr}{mh:MH}{ds:List D}{vs:List V}{Q:VK}(rs:RS K H ρ mh) (r:RDs K H ρ ds vs) (co:Co K H ρ (mh++[.lst ds]) (.ref mh.length) Q):∀ p,H p=none->Q (.ref p) (upd H p (.lst vs)):=λp hp =>
 co _ (ρ++[p]) _ (Ev.newL hp) (rs.newL hp r) (.ref (rs.last p))
theorem Aar {es:List Expr}{mr:DM (List D)}{x1}(h:DA X es mr):DE X (.Tuple es x1 pos) (mr.bnd λds=>Zl (Qx ds)):=λloc mh=>by
 refine Ar (gJ (h loc mh)) ?_;rintro σ H Q ⟨ρ,d,mh',q,rl,rs,co⟩;obtain ⟨ds,m1,ea,q⟩:=Ah q
 ·unfold Zl Qx at q;split at q
  ·rename_i hz;cases q;exact ⟨ρ,ds,mh',ea,rl,rs,λH1 ρ1 vs e1 rs1 r1=>⟨by rw [← r1.length];exact hz,Co.newT rs1 r1 (co.ev e1)⟩⟩
  ·cases q
theorem Aas {es:List Expr}{mr:DM (List D)}(h:DA X es mr):DE X (.List es pos) (mr.bnd λds=>Zl (Qy ds)):=λloc mh=>by
 refine Ar (W2 (h loc mh)) ?_;rintro σ H Q ⟨ρ,d,mh',q,rl,rs,co⟩;obtain ⟨ds,m1,ea,q⟩:=Ah q
 ·unfold Zl Qy at q;split at q
  ·rename_i hz;cases q;exact ⟨ρ,ds,m1,ea,rl,rs,λH1 ρ1 vs e1 rs1 r1=>⟨by rw [← r1.length];exact hz,Co.newL rs1 r1 (co.ev e1)⟩⟩
  ·cases q
theorem Em {f:List D->MH->Option (D×MH)}{es:List Expr}{mr:DM (List D)}{x:Str}{p:Pos}{id:String}(hc:Ay X (.builtin id) (rDs X.K f)) (hg:Gl X x) (hm:X.mg x=none) (hv:bootBuiltins x=some (.builtin id)) (ha:DA X (a::es) mr)
  (hn:x ≠ "__name__") (hdb:(x==("__debug__":Str))=false) (he:starEach (a::es) X.env=(false,eval a X.env)::starEach es X.env) (hpl:(backTo pos (starEach es X.env)).any (·.1)=false) :
  DE X (.Call (.Name x p) (a::es) [] pos) (mr.bnd λds=>Zl (f ds)):=λloc mh=>by
 refine Ar (Ux hc hg hm hv (ha loc mh) hn hdb he hpl) ?_;rintro σ H Q ⟨ρ,d,mh',q,rl,rs,co⟩;obtain ⟨ds,m1,ea,q⟩:=Ah q
 ·exact ⟨ρ,ds,m1,ea,rl,rs,λH1 ρ1 vs e1 rs1 r1=>⟨ρ1,m1,ds,d,mh',q,rs1,r1,co.ev e1⟩⟩
theorem Ld {f:List D->MH->Option (D×MH)}{es:List Expr}{mr:DM (List D)}{x:Str}{p:Pos}{T:String}(hc:Ay X (.type T) (rDs X.K f)) (hg:Gl X x) (hm:X.mg x=none) (hv:bootBuiltins x=some (.type T)) (ha:DA X (a::es) mr)
  (hn:x ≠ "__name__") (hdb:(x==("__debug__":Str))=false) (he:starEach (a::es) X.env=(false,eval a X.env)::starEach es X.env) (hpl:(backTo pos (starEach es X.env)).any (·.1)=false) :
  DE X (.Call (.Name x p) (a::es) [] pos) (mr.bnd λds=>Zl (f ds)):=λloc mh=>by
 refine Ar (G4 hc hg hm hv (ha loc mh) hn hdb he hpl) ?_;rintro σ H Q ⟨ρ,d,mh',q,rl,rs,co⟩;obtain ⟨ds,m1,ea,q⟩:=Ah q
 ·exact ⟨ρ,ds,m1,ea,rl,rs,λH1 ρ1 vs e1 rs1 r1=>⟨ρ1,m1,ds,d,mh',q,rs1,r1,co.ev e1⟩⟩
end
section
variable {X:Cx}
theorem Nq {f:Value->Value->Sem Value}{r r':R2}(h:OpR X f r) (i:∀ x y H Q,r' x y H Q->r x y H Q):OpR X f r':=λpins s σ H x y v u Q I rx ry q=>h pins s σ H x y v u Q I rx ry (i x y H Q q)
noncomputable def iop (C:Int->Int->Bool) (g:Int->Int->Int):D->D->MH->Option (D×MH)
 | .int i,.int j,mh=>if C i j=true then some (.int (g i j),mh) else none
 | _,_,_=>none
theorem Oo {f:Value->Value->Sem Value}{C:Int->Int->Prop}{Cb:Int->Int->Bool}{g:Int->Int->Int}(h:OpR X f (rI C λi j=>.int (g i j))) (hC:∀ i j,Cb i j=true->C i j):OpR X f (rD X.K (iop Cb g)):=by
 refine Nq h ?_;rintro x y H Q ⟨ρ,mh,dx,dy,d,mh',q,rs,rx,ry,co⟩;cases rx with
 | int i =>
  cases ry with
  | int j =>
   have q:(if Cb i j=true then some (D.int (g i j),mh) else none)=some (d,mh'):=q;split at q
   ·rename_i hc;cases q;exact ⟨i,j,rfl,rfl,hC i j hc,co H ρ _ Ev.refl rs (.int _)⟩
   ·cases q
  | _=>cases q
 | _=>cases q
theorem sU {f:Value->Value->Sem Value}{g:Int->Int->Int}(h:OpR X f (rI0 λi j=>.int (g i j))):OpR X f (rD X.K (iop (λ_ _=>true) g)) :=
 Oo (C:=λ_ _=>True) (Nq h λx y H Q ⟨i,j,e1,e2,_,q⟩=>⟨i,j,e1,e2,q⟩) λ_ _ _=>trivial
noncomputable def Qh (g:Int->Int->Bool):D->D->MH->Option (D×MH)
 | .int i,.int j,mh=>some (.bl (g i j),mh)
 | _,_,_=>none
theorem Nr {f:Value->Value->Sem Value}{g:Int->Int->Bool}(h:OpR X f (rI0 λi j=>.bl (g i j))):OpR X f (rD X.K (Qh g)):=by
 refine Nq h ?_;rintro x y H Q ⟨ρ,mh,dx,dy,d,mh',q,rs,rx,ry,co⟩;cases rx with
 | int i =>
  cases ry with
  | int j =>
   cases q;exact ⟨i,j,rfl,rfl,co H ρ _ Ev.refl rs (.bl _)⟩
  | _=>cases q
 | _=>cases q
noncomputable def Ij:D->D->MH->Option (D×MH)
 | .int i,.int j,mh=>some (.int (i+j),mh)
 | .str i,.str j,mh=>if i.length+j.length<=sizeLine then some (.str (i++j),mh) else none
 | .tup xs,.tup ys,mh=>if xs.length+ys.length<=sizeLine then some (.tup (xs++ys),mh) else none
 | .ref n,.ref m,mh=>match mh[n]?,mh[m]? with
  | some (.lst xs),some (.lst ys)=>if xs.length+ys.length<=sizeLine then some (.ref mh.length,mh++[.lst (xs++ys)]) else none
  | _,_=>none
 | _,_,_=>none
end
noncomputable def mapO {α β:Type}(f:α->Option β):List α->Option (List β)
 | []=>some []
 | x::xs=>match f x with
  | some y=>match mapO f xs with
   | some ys=>some (y::ys)
   | none=>none
  | none=>none
noncomputable def py (mh:MH):Nat->D->Option PyData
 | _,.non=>some .none
 | _,.bl b=>some (.bool b)
 | _,.int i=>some (.int i)
 | _,.str x=>if jl x=true then some (.str x) else none
 | 0,.tup _=>none
 | 0,.ref _=>none
 | 0,.rol _=>none
 | 0,.obj ..=>none
 | _+1,.obj ..=>none
 | 0,.fn _=>none
 | 0,.lam=>none
 | 0,.clo _ _=>none
 | _+1,.fn _=>none
 | _+1,.lam=>none
 | _+1,.clo _ _=>none
 | n+1,.tup ds=>match mapO (py mh n) ds with | some xs=>some (.tuple xs) | none=>none
 | n+1,.rol ds=>match mapO (py mh n) ds with | some xs=>some (.list xs) | none=>none
 | n+1,.ref k=>match mh[k]? with
  | some (.lst o)=>match mapO (py mh n) o with | some xs=>some (.list xs) | none=>none
  | _=>none
section
variable {X:Cx}{pins:List (Addr×Obj)}{σ:St}{H:Hp}{s:Shared}{ρ:List Addr}{mh:MH}
theorem Cr (I:Inv X pins σ H s) (rs:RS X.K H ρ mh):∀ (n:Nat) (d:D) (v:V) (u:Value) (a:PyData),py mh n d=some a->RD X.K H ρ d v->RelV v u->(∃ as,Reads s.heap u a as)/\a.canLay0=true/\a.depth<=n:=by
 intro n
 induction n with
 | zero =>
  intro d v u a e r rv;cases r with
  | non=>cases e;cases rv;exact ⟨⟨_,.none⟩,rfl,bx _⟩
  | bl b=>cases e;cases rv;exact ⟨⟨_,.bool b⟩,rfl,bx _⟩
  | int i=>cases e;obtain ⟨t,rfl⟩:=rv;exact ⟨⟨_,.int i t⟩,rfl,bx _⟩
  | str x =>
   have e:(if jl x=true then some (FP x) else none)=some a:=e;split at e
   ·cases e;obtain ⟨t,rfl⟩:=rv;exact ⟨⟨_,.str x t⟩,by assumption,bx _⟩
   ·cases e
  | tup s r=>cases e
  | ref h=>cases e
  | rol s r=>cases e
  | obj n s l r=>cases e
  | fn h=>cases e
  | lam h=>cases e
  | clo=>cases e
 | succ n ih =>
  have all:∀ (ds:List D) (vs:List V) (us:List Value) (as:List PyData),mapO (py mh n) ds=some as->RDs X.K H ρ ds vs->Vals vs us->(∃ bs,ReadsAll s.heap us as bs)/\qm as=true/\qt as<=n:=by
   intro ds
   induction ds with
   | nil=>intro vs us as e r rv;cases e;cases r;cases rv;exact ⟨⟨_,.nil⟩,rfl,qx _⟩
   | cons d ds ihd =>
    intro vs us as e r rv;cases r with
    | cons r1 r2 =>
     cases rv with
     | cons v1 v2 =>
      simp only [mapO] at e;split at e
      ·rename_i y ey;split at e
       ·rename_i ys eys;cases e;obtain ⟨⟨a1,h1⟩,h2,h3⟩:=ih _ _ _ _ ey r1 v1;obtain ⟨⟨b1,g1⟩,g2,g3⟩:=ihd _ _ _ eys r2 v2;refine ⟨⟨_,.cons h1 g1⟩,?_,?_⟩
        ·simp only [qm,h2,g2,QT]
        ·simp only [qt];omega
       ·cases e
      ·cases e
  intro d v u a e r rv;cases r with
  | non=>cases e;cases rv;exact ⟨⟨_,.none⟩,rfl,qx _⟩
  | bl b=>cases e;cases rv;exact ⟨⟨_,.bool b⟩,rfl,qx _⟩
  | int i=>cases e;obtain ⟨t,rfl⟩:=rv;exact ⟨⟨_,.int i t⟩,rfl,qx _⟩
  | str x =>
   have e:(if jl x=true then some (FP x) else none)=some a:=e;split at e
   ·cases e;obtain ⟨t,rfl⟩:=rv;exact ⟨⟨_,.str x t⟩,by assumption,qx _⟩
   ·cases e
  | @tup ds a' xs sq r =>
   cases rv;have e:(match mapO (py mh n) ds with | some xs=>some (PyData.tuple xs) | none=>none)=some a:=e;split at e
   ·rename_i ys ey;cases e;obtain ⟨its,rv,⟨o,h1,h2,n',h3⟩,_⟩:=I.tuple sq;obtain ⟨⟨bs,g1⟩,g2,g3⟩:=all ds xs its ys ey r rv;refine ⟨⟨_,.tuple h1 h2 h3 (by simpa using g1)⟩,by simpa [ud] using g2,?_⟩;simp only [PyData.depth];omega
   ·cases e
  | obj n s l r=>cases e
  | fn h=>cases e
  | lam h=>cases e
  | clo=>cases e
  | @rol ds a' xs sq r =>
   cases rv;have e:(match mapO (py mh n) ds with | some xs=>some (PyData.list xs) | none=>none)=some a:=e;split at e
   ·rename_i ys ey;cases e;obtain ⟨its,rv,⟨ob,n',h1,h2,h2',h3⟩,_⟩:=I.list sq.sq;obtain ⟨⟨bs,g1⟩,g2,g3⟩:=all _ xs its ys ey r rv;refine ⟨⟨_,.list h1 h2 h3 (by simpa using g1)⟩,by simpa [ud] using g2,?_⟩;simp only [PyData.depth];omega
   ·cases e
  | @ref k a' h =>
   cases rv;have e:(match mh[k]? with | some (.lst o)=>(match mapO (py mh n) o with | some xs=>some (PyData.list xs) | none=>none) | _=>none)=some a:=e;split at e
   ·rename_i o eo;split at e
    ·rename_i ys ey;cases e;obtain ⟨a2,ha,ro⟩:=rs.at eo;rw [h] at ha;cases ha;obtain ⟨xs,sq,r⟩:=ro.read;obtain ⟨its,rv,⟨ob,n',h1,h2,h2',h3⟩,_⟩:=I.list sq;obtain ⟨⟨bs,g1⟩,g2,g3⟩:=all _ xs its ys ey r rv;refine ⟨⟨_,.list h1 h2 h3 (by simpa using g1)⟩,by simpa [ud] using g2,?_⟩;simp only [PyData.depth];omega
    ·cases e
   ·cases e
noncomputable def eqB (mh:MH) (x y:D):Option Bool:=match py mh 60 x,py mh 60 y with
 | some a,some b=>some (jf a b)
 | _,_=>none
noncomputable def eqD (x y:D) (mh:MH):Option (D×MH):=match eqB mh x y with | some k=>some (.bl k,mh) | none=>none
noncomputable def neD (x y:D) (mh:MH):Option (D×MH):=match eqB mh x y with | some k=>some (.bl (!k),mh) | none=>none
theorem iR {A:Around}{a b:PyData}(hu:A.units+64 < cLine) (h:a.depth<=60):A.units+min a.depth b.depth < cLine:=by omega
theorem U5 {x y:D}{k:Bool}(h:eqB mh x y=some k):∃ a b,py mh 60 x=some a/\py mh 60 y=some b/\k=jf a b:=by
 unfold eqB at h;split at h
 ·rename_i a b ea eb;cases h;exact ⟨a,b,ea,eb,rfl⟩
 ·cases h
theorem Aat (hu:X.A.units+64 < cLine):OpR X (compareOp .NotEq) (rD X.K neD):=by
 rintro pins s σ H x y v u Q I rx ry ⟨ρ,mh,dx,dy,d,mh',q,rs,r1,r2,co⟩;unfold neD at q;split at q
 ·rename_i k ek;cases q;obtain ⟨a,b,ea,eb,rfl⟩:=U5 ek;obtain ⟨⟨as,h1⟩,h2,h3⟩:=Cr I rs 60 dx x v a ea r1 rx;obtain ⟨⟨bs,g1⟩,g2,g3⟩:=Cr I rs 60 dy y u b eb r2 ry;exact SeqAt.compareNe_reads h1 g1 h2 g2 (iR hu h3) ⟨.bl _,H,I,rfl,co H ρ _ Ev.refl rs (.bl _)⟩
 ·cases q
noncomputable def inB (mh:MH) (x c:D):Option Bool:=match py mh 60 x,py mh 60 c with
 | some a,some (.list xs)=>some (xs.any λy=>jf y a)
 | some a,some (.tuple xs)=>some (xs.any λy=>jf y a)
 | _,_=>none
noncomputable def sV (neg:Bool) (x c:D) (mh:MH):Option (D×MH):=match inB mh x c with | some k=>some (.bl (if neg then !k else k),mh) | none=>none
theorem sW (hu:X.A.units+64 < cLine):OpR X (compareOp .In) (rD X.K (sV false)):=by
 rintro pins s σ H x y v u Q I rx ry ⟨ρ,mh,dx,dy,d,mh',q,rs,r1,r2,co⟩;unfold sV at q;split at q
 ·rename_i k ek;cases q;unfold inB at ek;split at ek
  ·rename_i a xs ea eb;cases ek;obtain ⟨⟨as,h1⟩,h2,h3⟩:=Cr I rs 60 dx x v a ea r1 rx;obtain ⟨⟨bs,g1⟩,g2,g3⟩:=Cr I rs 60 dy y u _ eb r2 ry;exact SeqAt.in_list_reads g1 h1 (by simpa [ud] using g2) h2 (by simp only [PyData.depth] at g3;omega) ⟨.bl _,H,I,rfl,co H ρ _ Ev.refl rs (.bl _)⟩
  ·rename_i a xs ea eb;cases ek;obtain ⟨⟨as,h1⟩,h2,h3⟩:=Cr I rs 60 dx x v a ea r1 rx;obtain ⟨⟨bs,g1⟩,g2,g3⟩:=Cr I rs 60 dy y u _ eb r2 ry;exact SeqAt.in_tuple_reads g1 h1 (by simpa [ud] using g2) h2 (by simp only [PyData.depth] at g3;omega) ⟨.bl _,H,I,rfl,co H ρ _ Ev.refl rs (.bl _)⟩
  ·cases ek
 ·cases q
end
section
variable {X:Cx}
noncomputable def isD (neg:Bool) (x y:D) (mh:MH):Option (D×MH):=match y with
 | .non=>some (.bl (if neg then !(match x with | .non=>true | _=>false) else match x with | .non=>true | _=>false),mh)
 | .bl b=>(match x with
  | .bl a=>some (.bl (if neg then a != b else a==b),mh)
  | .non=>some (.bl neg,mh)
  | _=>none)
 | _=>none
theorem Aau:OpR X (compareOp .Is) (rD X.K (isD false)):=by
 rintro pins s σ H x y v u Q I rx ry ⟨ρ,mh,dx,dy,d,mh',q,rs,r1,r2,co⟩;cases r2 with
 | non =>
  cases q;cases ry;refine is_none_gen ⟨.bl _,H,I,?_,co H ρ _ Ev.refl rs (.bl _)⟩;rw [rx.none_iff];cases r1 <;> rfl
 | bl b =>
  cases r1 with
  | bl a=>cases q;cases rx;cases ry;exact is_bool ⟨.bl _,H,I,rfl,co H ρ _ Ev.refl rs (.bl _)⟩
  | non=>cases q;cases rx;cases ry;exact bf (a:=Value.bool false) ⟨.bl _,H,I,rfl,co H ρ _ Ev.refl rs (.bl _)⟩
  | _=>cases q
 | _=>cases q
theorem bQ:OpR X (compareOp .IsNot) (rD X.K (isD true)):=by
 rintro pins s σ H x y v u Q I rx ry ⟨ρ,mh,dx,dy,d,mh',q,rs,r1,r2,co⟩;cases r2 with
 | non =>
  cases q;cases ry;refine isnot_none_gen ⟨.bl _,H,I,?_,co H ρ _ Ev.refl rs (.bl _)⟩;rw [rx.none_iff];cases r1 <;> rfl
 | bl b =>
  cases r1 with
  | bl a=>cases q;cases rx;cases ry;exact isnot_bool ⟨.bl _,H,I,rfl,co H ρ _ Ev.refl rs (.bl _)⟩
  | non=>cases q;cases rx;cases ry;exact bf (a:=Value.bool true) ⟨.bl _,H,I,rfl,co H ρ _ Ev.refl rs (.bl _)⟩
  | _=>cases q
 | _=>cases q
theorem iU:OpR X (binaryOp .Add) (λx y H Q=>∃ a b ys,x=.ref a/\y=.ref b/\SqT X.K H a []/\SqT X.K H b ys/\Q (.ref b) H):=by
 rintro pins s σ H x y v u Q I rx ry ⟨a,b,ys,e1,e2,ha,hb,q⟩;subst e1;subst e2;cases rx;cases ry;obtain ⟨its,r1,p1,_⟩:=I.tuple ha;obtain ⟨its2,r2,p2,_⟩:=I.tuple hb;cases r1;obtain ⟨⟨cls,dd,data,sl⟩,ho,hc,n,hd⟩:=id p1;obtain ⟨⟨cls2,dd2,data2,sl2⟩,ho2,hc2,n2,hd2⟩:=id p2;simp only at hc hd hc2 hd2;subst hc hd hc2 hd2;exact SN ⟨_,ho,rfl⟩ ⟨_,ho2,rfl⟩ JS QR CK BV (zx _ _) (tuple_addW0 a b _ _ n n2 dd dd2 sl sl2 (by simp)) ⟨ho,ho2,⟨.ref b,H,I,rfl,q⟩⟩
theorem sX:OpR X (binaryOp .Add) (rD X.K Ij):=by
 refine Nq (zQ.or (Ww.or (rK.or (Aaf.or iU)))) ?_;rintro x y H Q ⟨ρ,mh,dx,dy,d,mh',q,rs,rx,ry,co⟩;cases rx with
 | int i =>
  cases ry with
  | int j=>cases q;exact .inl ⟨i,j,rfl,rfl,co H ρ _ Ev.refl rs (.int _)⟩
  | _=>cases q
 | str i =>
  cases ry with
  | str j =>
   have q:(if i.length+j.length<=sizeLine then some (D.str (i++j),mh) else none)=some (d,mh'):=q;split at q
   ·rename_i hz;cases q;exact .inr (.inl ⟨i,j,rfl,rfl,hz,co H ρ _ Ev.refl rs (.str _)⟩)
   ·cases q
  | _=>cases q
 | @tup xs a us s1 r1 =>
  cases ry with
  | @tup ys b ws s2 r2 =>
   have q:(if xs.length+ys.length<=sizeLine then some (D.tup (xs++ys),mh) else none)=some (d,mh'):=q;split at q
   ·rename_i hz;cases q
    by_cases hne:xs=[]
    ·subst hne;cases r1;exact .inr (.inr (.inr (.inr ⟨a,b,ws,rfl,rfl,s1,s2,co H ρ _ Ev.refl rs (.tup s2 r2)⟩)))
    ·refine .inr (.inr (.inl ⟨a,b,us,ws,rfl,rfl,s1,s2,λz=>hne ?_,by rw [← r1.length,← r2.length];exact hz,?_⟩))
     ·rw [z] at r1;cases r1;rfl
     ·refine ⟨λz=>?_,λz=>Co.newT rs (r1.append r2) co⟩;subst z;cases r2;exact co H ρ _ Ev.refl rs (.tup s1 (by rw [oh];exact r1))
   ·cases q
  | _=>cases q
 | @ref n a ha =>
  cases ry with
  | @ref m b hb =>
   have q:(match mh[n]?,mh[m]? with
    | some (.lst xs),some (.lst ys)=>if xs.length+ys.length<=sizeLine then some (D.ref mh.length,mh++[.lst (xs++ys)]) else none
    | _,_=>none)=some (d,mh'):=q
   split at q
   ·rename_i xs ys e1 e2;split at q
    ·rename_i hz;cases q;obtain ⟨a2,h1,us,g1,r1⟩:=rs.at e1;obtain ⟨b2,h2,ws,g2,r2⟩:=rs.at e2;rw [ha] at h1;rw [hb] at h2;cases h1;cases h2;exact .inr (.inr (.inr (.inl ⟨a,b,us,ws,rfl,rfl,g1,g2,by rw [← r1.length,← r2.length];exact hz,Co.newL rs (r1.append r2) co⟩)))
    ·cases q
   ·cases q
  | _=>cases q
 | _=>cases q
end
section
variable {X:Cx}
theorem Le {f:Value}{r r':List V->Hp->VK->Prop}(h:Ay X f r) (i:∀ xs H Q,r' xs H Q->r xs H Q):Ay X f r':=λpins s σ H xs us Q I rx q=>h pins s σ H xs us Q I rx (i xs H Q q)
theorem sY {r r':R2}(h:IxR X r) (i:∀ x y H Q,r' x y H Q->r x y H Q):IxR X r':=λa b pins s σ H x y v u Q I rx ry q hs=>h a b pins s σ H x y v u Q I rx ry (i x y H Q q) hs
theorem sZ {r r':V->Option Int->Option Int->Hp->VK->Prop}(h:SlR X r) (i:∀ x lo hi H Q,r' x lo hi H Q->r x lo hi H Q):SlR X r':=λpins s σ H x v vl vu lo hi sl Q I rx hs pl pu q=>h pins s σ H x v vl vu lo hi sl Q I rx hs pl pu (i x lo hi H Q q)
noncomputable def Dv:D->MH->Option (List D)
 | .tup ds,_=>some ds
 | .ref n,mh=>match mh[n]? with | some (.lst o)=>some o | _=>none
 | .rol ds,_=>some ds
 | _,_=>none
theorem Jf {K:aj}{H:Hp}{ρ:List Addr}{mh:MH}{d:D}{v:V}{ds:List D}(rs:RS K H ρ mh) (r:RD K H ρ d v) (e:Dv d mh=some ds):∃ p xs,v=.ref p/\(SqL K H p xs\/SqT K H p xs)/\RDs K H ρ ds xs:=by
 cases r with
 | tup s r=>cases e;exact ⟨_,_,rfl,.inr s,r⟩
 | rol s r=>cases e;exact ⟨_,_,rfl,.inl s.sq,r⟩
 | @ref n a h =>
  have e:(match mh[n]? with | some (.lst o)=>some o | _=>none)=some ds:=e;split at e
  ·rename_i o eo;cases e;obtain ⟨a',ha,ro⟩:=rs.at eo;rw [h] at ha;cases ha;obtain ⟨xs,q,r⟩:=ro.read;exact ⟨_,xs,rfl,.inl q,r⟩
  ·cases e
 | _=>cases e
theorem tB {K:aj}{H:Hp}{ρ:List Addr}{ds:List D}{xs:List V}{i:Int}{d:D}(r:RDs K H ρ ds xs) (e:atI ds i=some d):∃ v,atI xs i=some v/\RD K H ρ d v:=by
 unfold atI at e ⊢;rw [← r.length];cases q:ixN ds.length i with
 | none=>rw [q] at e;cases e
 | some j =>
  rw [q] at e;exact r.get e
noncomputable def bR (x y:D) (mh:MH):Option (D×MH):=match y with
 | .int i=>(match x with
  | .str z=>if z.length<=sizeLine then (match atI z.cps.toList i with | some c=>some (.str ⟨#[c]⟩,mh) | none=>none) else none
  | _=>match Dv x mh with
   | some ds=>(match atI ds i with | some d=>some (d,mh) | none=>none)
   | none=>none)
 | _=>none
theorem Ad6:IxR X (rD X.K bR):=by
 refine sY (Aad (X:=X)) ?_;rintro x y H Q ⟨ρ,mh,dx,dy,d,mh',q,rs,rx,ry,co⟩;have seq:∀ i:Int,y=.int i->(match Dv dx mh with | some ds=>(match atI ds i with | some d=>some (d,mh) | none=>none) | none=>none)=some (d,mh')->rIx X.K x y H Q:=λi ey q=>by
  split at q
  ·rename_i ds e1;split at q
   ·rename_i d' e2;cases q;obtain ⟨p,xs,rfl,hq,r⟩:=Jf rs rx e1;obtain ⟨v,e3,r3⟩:=tB r e2;rcases hq with hq|hq
    ·exact .inl ⟨p,xs,i,v,rfl,ey,hq,e3,co H ρ v Ev.refl rs r3⟩
    ·exact .inr (.inl ⟨p,xs,i,v,rfl,ey,hq,e3,co H ρ v Ev.refl rs r3⟩)
   ·cases q
  ·cases q
 cases ry with
 | int i =>
  cases rx with
  | str z =>
   have q:(if z.length<=sizeLine then (match atI z.cps.toList i with | some c=>some (D.str ⟨#[c]⟩,mh) | none=>none) else none)=some (d,mh'):=q;split at q
   ·rename_i hz;split at q
    ·rename_i c ec;cases q;exact .inr (.inr ⟨z,i,c,rfl,rfl,hz,ec,co H ρ _ Ev.refl rs (.str _)⟩)
    ·cases q
   ·cases q
  | non=>exact seq i rfl q
  | bl b=>exact seq i rfl q
  | int j=>exact seq i rfl q
  | tup s r=>exact seq i rfl q
  | ref h=>exact seq i rfl q
  | rol s r=>exact seq i rfl q
  | obj n s l r=>exact seq i rfl q
  | fn h=>exact seq i rfl q
  | lam h=>exact seq i rfl q
  | clo=>exact seq i rfl q
 | _=>cases q
noncomputable def cutD {α:Type}(xs:List α) (lo hi:Option Int):List α:=(xs.drop (HT.sIx xs.length 0 lo)).take (HT.sIx xs.length xs.length hi - HT.sIx xs.length 0 lo)
theorem Sv {K:aj}{H:Hp}{ρ:List Addr}{ds:List D}{xs:List V}{lo hi:Option Int}(r:RDs K H ρ ds xs):RDs K H ρ (cutD ds lo hi) (Uy xs lo hi):=by
 unfold cutD Uy;rw [r.length];exact (r.drop _).take _
theorem Jk {prog:Program}{w:World}{A:Around}{E:Value->Shared->Prop}{s:Shared}{t sl:Addr}{items:Array Value}{vl vu:Value}{lo hi:Option Int}{Q:Value->Shared->Prop}(ht:IsTup s.heap t items) (hs:s.heap.IsSliceOf sl vl vu .none) (pl:IsPart vl lo) (pu:IsPart vu hi)
  (h0:HT.sIx items.size 0 lo=0) (h1:HT.sIx items.size items.size hi=items.size) (h:Q (.ref t) s):wpAny (model prog w) A (getItem (.ref t) (.ref sl)) Q E s:=by
 obtain ⟨os,hos,hcs,hds⟩:=id hs
 have hTs:s.TypeIs (.ref sl) "slice":=⟨os,hos,hcs⟩
 unfold getItem
 try with_reducible refine sy ?_
 first | refine ak (bf ?_) | skip
 refine ak (VD ht.typeIs (by decide) ?_)
 refine ak (jt (name:=Str.ofString "__getitem__") ht.typeIs PyProof.Rows.slot_tuple_getitem
  (qb PyProof.Rows.slot_tuple_getitem ht.typeIs RB ?_ (SQ _ _)))
 show wpAny _ _ (yq (.ref t) >>= _) _ _ s;refine ak (tupleItemsOf_ ht ?_);refine ak (zy hTs ?_);rw [if_pos (by decide)];refine ak (HT.sliceApplied_gen hs pl pu ?_);rw [h0,h1];have hyes:((((0:Nat):Int)==0&&(1:Int)==1&&(items.size - 0)==items.size)=true):=by simp
 show wpAny _ _ (if (((0:Nat):Int)==0&&(1:Int)==1&&(items.size - 0)==items.size)=true then _ else _) _ _ s;rw [if_pos hyes];unfold Builtin.Tuple.tupleIsExact;refine ak (ak (zy ht.typeIs (bf ?_)));rw [if_pos (by decide)];exact ak (EY (bf ⟨_,rfl,bf h⟩))
theorem bT:SlR X (λx lo hi H Q=>∃ a xs,x=.ref a/\SqT X.K H a xs/\HT.sIx xs.length 0 lo=0/\HT.sIx xs.length xs.length hi=xs.length/\Q (.ref a) H):=by
 intro pins s σ H x v vl vu lo hi sl Q I rx hs pl pu h;obtain ⟨a,xs,rfl,hx,h0,h1,q⟩:=h;cases rx;obtain ⟨its,r,ht,hz⟩:=I.tuple hx;have hlen:its.toArray.size=xs.length:=by rw [cg];exact r.length.symm
 refine ⟨"tuple",_,PyProof.Rows.slot_tuple_getitem.lookup,ht.typeIs,?_⟩;exact Jk ht hs pl pu (by rw [hlen];exact h0) (by rw [hlen];exact h1) ⟨.ref a,H,I,rfl,q⟩
noncomputable def slD (x:D) (lo hi:Option Int) (mh:MH):Option (D×MH):=match x with
 | .tup ds=>if HT.sIx ds.length 0 lo=0/\HT.sIx ds.length ds.length hi=ds.length then some (.tup ds,mh) else some (.tup (cutD ds lo hi),mh)
 | .ref n=>match mh[n]? with
  | some (.lst o)=>some (.ref mh.length,mh++[.lst (cutD o lo hi)])
  | _=>none
 | .rol ds=>some (.ref mh.length,mh++[.lst (cutD ds lo hi)])
 | _=>none
noncomputable def Afz (K:aj):V->Option Int->Option Int->Hp->VK->Prop:=λx lo hi H Q=>∃ ρ mh dx d mh',slD dx lo hi mh=some (d,mh')/\RS K H ρ mh/\RD K H ρ dx x/\Co K H ρ mh' d Q
theorem Af0:SlR X (Afz X.K):=by
 refine sZ (bT.or (Aaa.or rN)) ?_;rintro x lo hi H Q ⟨ρ,mh,dx,d,mh',q,rs,rx,co⟩;cases rx with
 | @tup ds a xs s r =>
  have q:(if HT.sIx ds.length 0 lo=0/\HT.sIx ds.length ds.length hi=ds.length then some (D.tup ds,mh) else some (D.tup (cutD ds lo hi),mh))=some (d,mh'):=q;have hl:=r.length;split at q
  ·rename_i hw;cases q;exact .inl ⟨a,xs,rfl,s,by rw [← hl];exact hw.1,by rw [← hl];exact hw.2,co H ρ _ Ev.refl rs (.tup s r)⟩
  ·rename_i hw;cases q;exact .inr (.inl ⟨a,xs,rfl,s,by rw [← hl];exact hw,Co.newT rs (Sv r) co⟩)
 | @ref n a h =>
  have q:(match mh[n]? with | some (.lst o)=>some (D.ref mh.length,mh++[.lst (cutD o lo hi)]) | _=>none)=some (d,mh'):=q;split at q
  ·rename_i o eo;cases q;obtain ⟨a',ha,ro⟩:=rs.at eo;rw [h] at ha;cases ha;obtain ⟨xs,sq,r⟩:=ro.read;exact .inr (.inr ⟨a,xs,rfl,sq,Co.newL rs (Sv r) co⟩)
  ·cases q
 | @rol ds a xs s r =>
  cases q;exact .inr (.inr ⟨a,xs,rfl,s.sq,Co.newL rs (Sv r) co⟩)
 | _=>cases q
noncomputable def Zm (m:Option (DM D)):DM (Option Int):=match m with
 | none=>Zr none
 | some m=>m.bnd λx=>match x with | .int i=>Zr (some i) | _=>Zb
noncomputable def iV (X:Cx) (e:Option Expr) (m:Option (DM D)):Prop:=match e,m with
 | none,none=>True
 | some e,some m=>DE X e m
 | _,_=>False
noncomputable def tDO (K:aj) (loc:Loc) (mh:MH) (r:Option (Option Int×MH)):TO:=λσ H Q=>∃ ρ o mh',r=some (o,mh')/\RL K H ρ loc σ/\RS K H ρ mh/\∀ H' ρ',Ev K H ρ H' ρ'->RS K H' ρ' mh'->Q o H'
theorem Ad7 {e:Option Expr}{m:Option (DM D)}(h:iV X e m) (loc:Loc) (mh:MH):PO X e (tDO X.K loc mh (Zm m loc mh)):=by
 rintro pins s σ H Q I ⟨ρ,o,mh',q,rl,rs,co⟩;cases e with
 | none =>
  cases m with
  | none =>
   cases q;exact rH pins s σ H Q I (co H ρ Ev.refl rs)
  | some m=>exact h.elim
 | some e =>
  cases m with
  | none=>exact h.elim
  | some m =>
   obtain ⟨x,m1,ea,q⟩:=Ah q;cases x with
   | int i =>
    cases q;refine rJ (h loc mh) pins s σ H Q I ⟨ρ,.int i,mh',ea,rl,rs,λH' ρ' v e' rs' r'=>?_⟩;cases r';exact ⟨i,rfl,co H' ρ' e' rs'⟩
   | non=>cases q
   | bl b=>cases q
   | str z=>cases q
   | tup ds=>cases q
   | ref n=>cases q
   | rol ds=>cases q
   | obj c ks ds=>cases q
   | fn x=>cases q
   | lam=>cases q
   | clo=>cases q
noncomputable def dSl (ma:DM D) (ml mu:Option (DM D)):DM D:=ma.bnd λx=>(Zm ml).bnd λl=>(Zm mu).bnd λu=>Zl (slD x l u)
theorem iW {a:Expr}{ma:DM D}{lo hi:Option Expr}{ml mu:Option (DM D)}{p2 pos:Pos}(ha:DE X a ma) (hl:iV X lo ml) (hu:iV X hi mu):DE X (.Subscript a (.Slice lo hi none p2) pos) (dSl ma ml mu):=λloc mh=>by
 cases ea:ma loc mh with
 | none =>
  have:dSl ma ml mu loc mh=none:=by unfold dSl DM.bnd;rw [ea]
  rw [this];exact Ax
 | some p =>
  obtain ⟨x,m1⟩:=p;cases el:Zm ml loc m1 with
  | none =>
   have:dSl ma ml mu loc mh=none:=by unfold dSl;unfold DM.bnd;rw [ea];dsimp only;rw [el]
   rw [this];exact Ax
  | some p2 =>
   obtain ⟨l,m2⟩:=p2;refine Ar (gQ Af0 (ha loc mh) (Ad7 hl loc m1) (Ad7 hu loc m2)) ?_;rintro σ H Q ⟨ρ,d,mh',q,rl,rs,co⟩;obtain ⟨x',m1',ea',q⟩:=Ah q;rw [ea] at ea';cases ea';obtain ⟨l',m2',el',q⟩:=Ah q;rw [el] at el';cases el';obtain ⟨u,m3,eu,q⟩:=Ah q
   exact ⟨ρ,x,m1,ea,rl,rs,λH1 ρ1 v e1 rs1 r1=>⟨ρ1,l,m2,el,rl.mono e1,rs1,λH2 ρ2 e2 rs2=>⟨ρ2,u,m3,eu,(rl.mono e1).mono e2,rs2,λH3 ρ3 e3 rs3 =>
    ⟨ρ3,m3,x,d,mh',q,rs3,(r1.mono e2).mono e3,co.ev (e1.trans (e2.trans e3))⟩⟩⟩⟩
end
end DL
namespace HT
open PySem PySem.Spec PyProof.Rows
section
variable {prog:Program}{w:World}{A:Around}{E:Value->Shared->Prop}{s:Shared}
end
end HT
namespace DL
open PySem PySem.Spec PyProof.Rows L2
section
variable {X:Cx}
noncomputable def Qz:List D->MH->Option (D×MH)
 | [.str z],mh=>if z.length<=sizeLine then some (.int z.length,mh) else none
 | [x],mh=>match Dv x mh with | some ds=>some (.int ds.length,mh) | none=>none
 | _,_=>none
theorem Ik {K:aj}{H:Hp}{ρ:List Addr}{d:D}{xs:List V}(h:RDs K H ρ [d] xs):∃ v,xs=[v]/\RD K H ρ d v:=by
 cases h with
 | cons r t=>cases t;exact ⟨_,rfl,r⟩
theorem Oq:Ay X (.builtin "len") (rDs X.K Qz):=by
 refine Le (R6.or R7) ?_;rintro xs H Q ⟨ρ,mh,ds,d,mh',q,rs,r,co⟩
 match ds,q with
 | [x],q =>
  obtain ⟨v,rfl,rx⟩:=Ik r;have seq:(match Dv x mh with | some ds=>some (D.int ds.length,mh) | none=>none)=some (d,mh')->∃ p ys,[v]=[.ref p]/\(SqL X.K H p ys\/SqT X.K H p ys)/\Q (.int ys.length) H:=λq=>by
   split at q
   ·rename_i ds e1;cases q;obtain ⟨p,ys,rfl,hq,r⟩:=Jf rs rx e1;exact ⟨p,ys,rfl,hq,by rw [← r.length];exact co H ρ _ Ev.refl rs (.int _)⟩
   ·cases q
  cases rx with
  | str z =>
   have q:(if z.length<=sizeLine then some (D.int z.length,mh) else none)=some (d,mh'):=q;split at q
   ·rename_i hz;cases q;exact .inr ⟨z,rfl,hz,co H ρ _ Ev.refl rs (.int _)⟩
   ·cases q
  | non=>exact .inl (seq q)
  | bl b=>exact .inl (seq q)
  | int i=>exact .inl (seq q)
  | tup s r=>exact .inl (seq q)
  | ref h=>exact .inl (seq q)
  | rol s r=>exact .inl (seq q)
  | obj n s l r=>exact .inl (seq q)
  | fn h=>exact .inl (seq q)
  | lam h=>exact .inl (seq q)
  | clo=>exact .inl (seq q)
 | [],q=>cases q
 | _::_::_,q=>simp [Qz] at q
noncomputable def iY:List D->MH->Option (D×MH)
 | [x],mh=>match Dv x mh with | some ds=>some (.ref mh.length,mh++[.lst ds]) | none=>none
 | _,_=>none
theorem Xc:Ay X (.type "list") (rDs X.K iY):=by
 refine Le R8 ?_;rintro xs H Q ⟨ρ,mh,ds,d,mh',q,rs,r,co⟩
 match ds,q with
 | [x],q =>
  obtain ⟨v,rfl,rx⟩:=Ik r;have q:(match Dv x mh with | some ds=>some (D.ref mh.length,mh++[.lst ds]) | none=>none)=some (d,mh'):=q;split at q
  ·rename_i ds e1;cases q;obtain ⟨p,ys,rfl,hq,r⟩:=Jf rs rx e1;exact ⟨p,ys,rfl,hq,Co.newL rs r co⟩
  ·cases q
 | [],q=>cases q
 | _::_::_,q=>cases q
noncomputable def Lf:List D->MH->Option (D×MH)
 | [x],mh=>match Dv x mh with | some ds=>some (.tup ds,mh) | none=>none
 | _,_=>none
theorem U6:Ay X (.type "tuple") (rDs X.K Lf):=by
 refine Le Qg ?_;rintro xs H Q ⟨ρ,mh,ds,d,mh',q,rs,r,co⟩
 match ds,q with
 | [x],q =>
  obtain ⟨v,rfl,rx⟩:=Ik r;have q:(match Dv x mh with | some ds=>some (D.tup ds,mh) | none=>none)=some (d,mh'):=q;split at q
  ·rename_i ds e1;cases q;obtain ⟨p,ys,rfl,hq,r⟩:=Jf rs rx e1;rcases hq with hq|hq
   ·exact ⟨p,ys,rfl,.inl ⟨hq,Co.newT rs r co⟩⟩
   ·exact ⟨p,ys,rfl,.inr ⟨hq,co H ρ _ Ev.refl rs (.tup hq r)⟩⟩
  ·cases q
 | [],q=>cases q
 | _::_::_,q=>cases q
noncomputable def Aav:D->MH->Option String
 | .non,_=>some "NoneType"
 | .bl _,_=>some "bool"
 | .int _,_=>some "int"
 | .str _,_=>some "str"
 | .tup _,_=>some "tuple"
 | .ref n,mh=>match mh[n]? with | some (.lst _)=>some "list" | _=>none
 | .rol _,_=>some "list"
 | .obj ..,_=>none
 | .fn _,_=>none
 | .lam,_=>none
 | .clo _ _,_=>none
noncomputable def Ad8 (t c:String):Option Bool :=
 if t==c then some true else
 if ["NoneType", "bool", "int", "str", "tuple", "list"].contains t&&["bool", "int", "str", "tuple", "list", "dict"].contains c then some (t == "bool"&&c == "int") else none
theorem Hl {K:aj}{t c:String}{b:Bool}(ht:t∈["NoneType", "bool", "int", "str", "tuple", "list"]) (hc:c∈["bool", "int", "str", "tuple", "list", "dict"]) (h:Ad8 t c=some b):PySem.W.kitOne K (.type t) (.type c)=some b:=by
 simp only [gn,List.mem_nil_iff,or_false] at ht hc;rcases ht with rfl | rfl | rfl | rfl | rfl | rfl <;> rcases hc with rfl | rfl | rfl | rfl | rfl | rfl <;> (first | (have e:b=true:=by (have h':=h;revert h';decide +revert));subst e;kernel_rfl | (have e:b=false:=by (have h':=h;revert h';decide +revert));subst e;kernel_rfl)
end
inductive Src where
 | seq (ds:List D) | lref (n:Nat) | enum (s:Src) | zip (s t:Src)
noncomputable def Jq:Nat->List D->List D
 | _,[]=>[]
 | i,d::r=>.tup [.int i,d]::Jq (i+1) r
noncomputable def Src.items:Src->MH->List D
 | .seq ds,_=>ds
 | .lref n,mh=>match mh[n]? with | some (.lst o)=>o | _=>[]
 | .enum s,mh=>Jq 0 (s.items mh)
 | .zip s t,mh=>BK (λa b=>.tup [a,b]) (s.items mh) (t.items mh)
noncomputable def Src.ok:Src->MH->Bool
 | .seq _,_=>true
 | .lref n,mh=>match mh[n]? with | some (.lst _)=>true | _=>false
 | .enum s,mh=>s.ok mh
 | .zip s t,mh=>s.ok mh&&t.ok mh
noncomputable def Src.get (s:Src) (mh:MH) (i:Nat):Option D:=(s.items mh)[i]?
noncomputable def Src.stop (s:Src) (mh:MH) (i:Nat):Bool:=s.ok mh&&decide ((s.items mh).length<=i)
structure JR (K:aj) (H0:Hp) (ρ0:List Addr) (src:Src) (J:It):Prop where
 go:∀ H ρ mh i d,Ev K H0 ρ0 H ρ->RS K H ρ mh->src.get mh i=some d->J.go i H/\∀ x H',J.yld i H x H'->Ev K H ρ H' ρ/\RS K H' ρ mh/\RD K H' ρ d x
 stop:∀ H ρ mh i,Ev K H0 ρ0 H ρ->RS K H ρ mh->src.stop mh i=true->J.stop i H
noncomputable def tDI (K:aj) (loc:Loc) (mh:MH) (r:Option (Src×MH)):TI:=λσ H R=>∃ ρ src mh',r=some (src,mh')/\RL K H ρ loc σ/\RS K H ρ mh/\∀ H' ρ' J,Ev K H ρ H' ρ'->RS K H' ρ' mh'->JR K H' ρ' src J->R J H'
noncomputable def DI (X:Cx) (tg iter:Expr) (m:DM Src):Prop:=∀ loc mh,PI X tg iter (tDI X.K loc mh (m loc mh))
theorem Aaw {X:Cx}{tg e:Expr}{t t':TI}(h:PI X tg e t) (i:∀ σ H R,t' σ H R->t σ H R):PI X tg e t':=λpins s σ H R I q=>h pins s σ H R I (i σ H R q)
theorem Cu {X:Cx}{tg e:Expr}{loc:Loc}{mh:MH}:PI X tg e (tDI X.K loc mh none):=λ_ _ _ _ _ _ h=>by obtain ⟨_,_,_,e,_⟩:=h;cases e
section
variable {X:Cx}{tg:Expr}
theorem JR.tup {K:aj}{H0:Hp}{ρ0:List Addr}{ds:List D}{a:Addr}{xs:List V}(s:SqT K H0 a xs) (r:RDs K H0 ρ0 ds xs):JR K H0 ρ0 (.seq ds) (Itt K a) where
 go:=λH ρ mh i d e rs q=>by
  obtain ⟨v,e1,r1⟩:=(r.mono e).get q;refine ⟨⟨xs,v,e.tup _ _ s,e1⟩,?_⟩;rintro x H' ⟨h1,h2⟩;subst h1;have:=h2 xs (e.tup _ _ s);rw [e1] at this;cases this;exact ⟨Ev.refl,rs,r1⟩
 stop:=λH ρ mh i e rs q=>by
  refine ⟨xs,e.tup _ _ s,?_⟩;rw [← r.length];have q:(true&&decide (ds.length<=i))=true:=q;rw [yt] at q;exact of_decide_eq_true q
theorem JR.lst {K:aj}{H0:Hp}{ρ0:List Addr}{n:Nat}{a:Addr}(h:ρ0[n]?=some a):JR K H0 ρ0 (.lref n) (Itl K a) where
 go:=λH ρ mh i d e rs q=>by
  unfold Src.get Src.items at q;cases eo:mh[n]? with
  | none=>simp only [eo] at q;simp at q
  | some ob =>
   cases ob with
   | dct kvs=>simp only [eo] at q;simp at q
   | dtk kvs=>simp only [eo] at q;simp at q
   | plc=>simp only [eo] at q;simp at q
   | plq=>simp only [eo] at q;simp at q
   | fzd=>simp only [eo] at q;simp at q
   | lst o =>
   simp only [eo] at q;obtain ⟨a',ha,ro⟩:=rs.at eo;rw [e.at h] at ha;cases ha;obtain ⟨xs,sq,r⟩:=ro.read;obtain ⟨v,e1,r1⟩:=r.get q;refine ⟨⟨xs,v,sq,e1⟩,?_⟩;rintro x H' ⟨h1,h2⟩;subst h1;have:=h2 xs sq;rw [e1] at this;cases this;exact ⟨Ev.refl,rs,r1⟩
 stop:=λH ρ mh i e rs q=>by
  unfold Src.stop Src.ok Src.items at q;cases eo:mh[n]? with
  | none=>simp only [eo] at q;simp at q
  | some ob =>
   cases ob with
   | dct kvs=>simp only [eo] at q;simp at q
   | dtk kvs=>simp only [eo] at q;simp at q
   | plc=>simp only [eo] at q;simp at q
   | plq=>simp only [eo] at q;simp at q
   | fzd=>simp only [eo] at q;simp at q
   | lst o =>
   simp only [eo] at q;obtain ⟨a',ha,ro⟩:=rs.at eo;rw [e.at h] at ha;cases ha;obtain ⟨xs,sq,r⟩:=ro.read;exact ⟨xs,sq,by rw [← r.length];simpa using q⟩
theorem JR.rol {K:aj}{H0:Hp}{ρ0:List Addr}{ds:List D}{a:Addr}{xs:List V}(s:Ih K H0 a xs) (r:RDs K H0 ρ0 ds xs):JR K H0 ρ0 (.seq ds) (Itl K a) where
 go:=λH ρ mh i d e rs q=>by
  obtain ⟨v,e1,r1⟩:=(r.mono e).get q;have sq:=(e.perm _ _ s).sq;refine ⟨⟨xs,v,sq,e1⟩,?_⟩;rintro x H' ⟨h1,h2⟩;subst h1;have:=h2 xs sq;rw [e1] at this;cases this;exact ⟨Ev.refl,rs,r1⟩
 stop:=λH ρ mh i e rs q=>by
  refine ⟨xs,(e.perm _ _ s).sq,?_⟩;rw [← r.length];have q:(true&&decide (ds.length<=i))=true:=q;rw [yt] at q;exact of_decide_eq_true q
noncomputable def Dw (lo:Int) (n:Nat):List D:=(gw n).map λ(k:Nat)=>D.int (lo+(k:Int))
theorem JR.rng {K:aj}{H0:Hp}{ρ0:List Addr}{lo:Int}{n:Nat}:JR K H0 ρ0 (.seq (Dw lo n)) (Itr lo n) where
 go:=λH ρ mh i d e rs q=>by
  have q:(Dw lo n)[i]?=some d:=q;unfold Dw at q;rw [gb] at q
  by_cases hi:i < n
  ·rw [RJ hi] at q;cases q;refine ⟨hi,?_⟩;rintro x H' ⟨h1,h2⟩;subst h1;subst h2;exact ⟨Ev.refl,rs,.int _⟩
  ·rw [DR (by simp;omega)] at q;cases q
 stop:=λH ρ mh i e rs q=>by
  show n<=i;have q:(true&&decide ((Dw lo n).length<=i))=true:=q;rw [yt] at q;have:=of_decide_eq_true q;unfold Dw at this
  simpa using this
noncomputable def srcOf:D->MH->Option Src
 | .tup ds,_=>some (.seq ds)
 | .ref n,mh=>match mh[n]? with | some (.lst _)=>some (.lref n) | _=>none
 | .rol ds,_=>some (.seq ds)
 | _,_=>none
noncomputable def Gr (ma:DM D):DM Src:=ma.bnd λx=>λ_ mh=>match srcOf x mh with | some s=>some (s,mh) | none=>none
theorem Dy {a:Expr}{ma:DM D}(ha:DE X a ma):DI X tg a (Gr ma):=λloc mh=>by
 cases ea:ma loc mh with
 | none =>
  have:Gr ma loc mh=none:=by unfold Gr DM.bnd;rw [ea]
  rw [this];exact Cu
 | some p =>
  obtain ⟨x,m1⟩:=p;have eq:Gr ma loc mh=(match srcOf x m1 with | some s=>some (s,m1) | none=>none):=by unfold Gr DM.bnd;rw [ea]
  rw [eq];cases x with
  | tup ds =>
   rintro pins s σ H R I ⟨ρ,src,mh',q,rl,rs,co⟩;cases q;refine zM (ha loc mh) pins s σ H R I ⟨ρ,_,_,ea,rl,rs,λH1 ρ1 v e1 rs1 r1=>?_⟩;cases r1 with
   | tup s r=>exact ⟨_,rfl,⟨_,s⟩,co H1 ρ1 _ e1 rs1 (JR.tup s r)⟩
  | ref n =>
   rintro pins s σ H R I ⟨ρ,src,mh',q,rl,rs,co⟩;cases eo:m1[n]? with
   | none=>simp only [srcOf,eo] at q;cases q
   | some ob =>
    cases ob with
    | dct kvs=>simp only [srcOf,eo] at q;cases q
    | dtk kvs=>simp only [srcOf,eo] at q;cases q
    | plc=>simp only [srcOf,eo] at q;cases q
    | plq=>simp only [srcOf,eo] at q;cases q
    | fzd=>simp only [srcOf,eo] at q;cases q
    | lst o =>
    simp only [srcOf,eo] at q;cases q;refine Y4 (ha loc mh) pins s σ H R I ⟨ρ,_,_,ea,rl,rs,λH1 ρ1 v e1 rs1 r1=>?_⟩;cases r1 with
    | @ref _ a' h =>
     obtain ⟨a2,ha2,ro⟩:=rs1.at eo;rw [h] at ha2;cases ha2;obtain ⟨xs,sq,r⟩:=ro.read;exact ⟨_,rfl,⟨xs,sq⟩,co H1 ρ1 _ e1 rs1 (JR.lst h)⟩
  | rol ds =>
   rintro pins s σ H R I ⟨ρ,src,mh',q,rl,rs,co⟩;cases q;refine Y4 (ha loc mh) pins s σ H R I ⟨ρ,_,_,ea,rl,rs,λH1 ρ1 v e1 rs1 r1=>?_⟩;cases r1 with
   | rol s r=>exact ⟨_,rfl,⟨_,s.sq⟩,co H1 ρ1 _ e1 rs1 (JR.rol s r)⟩
  | non=>exact Cu
  | bl b=>exact Cu
  | int i=>exact Cu
  | str z=>exact Cu
  | obj c ks ds=>exact Cu
  | fn x=>exact Cu
  | lam=>exact Cu
  | clo=>exact Cu
noncomputable def iZ (ds:List D):Option Src:=match ds with
 | [.int j]=>if -(2 ^ 62)<=j/\j < 2 ^ 62 then some (.seq (Dw 0 j.toNat)) else none
 | _=>none
theorem bU {ds:List D}{s:Src}(h:iZ ds=some s):∃ j,ds=[.int j]/\-(2 ^ 62)<=j/\j < 2 ^ 62/\s=.seq (Dw 0 j.toNat):=by
 unfold iZ at h;split at h
 ·rename_i j;split at h
  ·rename_i hj;cases h;exact ⟨j,rfl,hj.1,hj.2,rfl⟩
  ·cases h
 ·cases h
noncomputable def tE (f:List D->Option Src) (mr:DM (List D)):DM Src:=mr.bnd λds=>match f ds with | some s=>Zr s | none=>Zb
theorem bV {f:List D->Option Src}{mr:DM (List D)}{loc:Loc}{mh:MH}{r:Src×MH}(h:tE f mr loc mh=some r):∃ ds,mr loc mh=some (ds,r.2)/\f ds=some r.1:=by
 obtain ⟨ds,m1,ea,q⟩:=Ah h;cases e:f ds with
 | none=>rw [e] at q;cases q
 | some s=>rw [e] at q;cases q;exact ⟨ds,ea,e⟩
theorem Af1 {K:aj}{H:Hp}{ρ:List Addr}{d e:D}{xs:List V}(h:RDs K H ρ [d,e] xs):∃ v u,xs=[v,u]/\RD K H ρ d v/\RD K H ρ e u:=by
 cases h with
 | cons r t =>
  cases t with
  | cons r2 t=>cases t;exact ⟨_,_,rfl,r,r2⟩
theorem bW {a:Expr}{mr:DM (List D)}{p pos:Pos}(hg:Gl X "range") (hm:X.mg "range"=none) (ha:DA X [a] mr) (hs:starEach [a] X.env=[(false,eval a X.env)]):DI X tg (.Call (.Name "range" p) [a] [] pos) (tE iZ mr):=λloc mh=>by
 refine Aaw (bG hg hm (ha loc mh) hs) ?_;rintro σ H R ⟨ρ,src,mh',q,rl,rs,co⟩;obtain ⟨ds,ea,q⟩:=bV q;refine ⟨ρ,ds,mh',ea,rl,rs,λH1 ρ1 vs e1 rs1 r1=>?_⟩;obtain ⟨j,rfl,h1,h2,e⟩:=bU q;obtain ⟨v,rfl,rv⟩:=Ik r1;cases rv;have e:src=.seq (Dw 0 j.toNat):=e;subst e;exact ⟨j,rfl,h1,h2,co H1 ρ1 _ e1 rs1 JR.rng⟩
end
inductive Fl where
 | nx | bk | ct | rt (d:D)
noncomputable abbrev SM:=Loc->MH->Option (Fl×Loc×MH)
noncomputable def CoS (K:aj) (H:Hp) (ρ:List Addr) (f:Fl) (loc':Loc) (mh':MH) (N:Ends):Prop:=match f with
 | .nx=>∀ H' ρ' σ',Ev K H ρ H' ρ'->RS K H' ρ' mh'->RL K H' ρ' loc' σ'->N.nx σ' H'
 | .bk=>∀ H' ρ' σ',Ev K H ρ H' ρ'->RS K H' ρ' mh'->RL K H' ρ' loc' σ'->N.bk σ' H'
 | .ct=>∀ H' ρ' σ',Ev K H ρ H' ρ'->RS K H' ρ' mh'->RL K H' ρ' loc' σ'->N.ct σ' H'
 | .rt d=>∀ H' ρ' v,Ev K H ρ H' ρ'->RS K H' ρ' mh'->RD K H' ρ' d v->N.rt v H'
theorem CoS.ev {K:aj}{H H1:Hp}{ρ ρ1:List Addr}{f:Fl}{loc':Loc}{mh':MH}{N:Ends}(e:Ev K H ρ H1 ρ1) (c:CoS K H ρ f loc' mh' N):CoS K H1 ρ1 f loc' mh' N:=by
 cases f with
 | nx=>exact λH' ρ' σ' e' rs r=>c H' ρ' σ' (e.trans e') rs r
 | bk=>exact λH' ρ' σ' e' rs r=>c H' ρ' σ' (e.trans e') rs r
 | ct=>exact λH' ρ' σ' e' rs r=>c H' ρ' σ' (e.trans e') rs r
 | rt d=>exact λH' ρ' σ' e' rs r=>c H' ρ' σ' (e.trans e') rs r
noncomputable def tS (K:aj) (m:SM):TS:=λN σ H=>∃ loc mh ρ f loc' mh',m loc mh=some (f,loc',mh')/\RL K H ρ loc σ/\RS K H ρ mh/\CoS K H ρ f loc' mh' N
noncomputable def DS (X:Cx) (st:Stmt) (m:SM):Prop:=PS X st (tS X.K m)
noncomputable def DSs (X:Cx) (sts:List Stmt) (m:SM):Prop:=PSs X sts (tS X.K m)
theorem Gh {X:Cx}{st:Stmt}{t t':TS}(h:PS X st t) (i:∀ N σ H,t' N σ H->t N σ H):PS X st t':=λpins s σ H N I q=>h pins s σ H N I (i N σ H q)
theorem Zo {X:Cx}{st:List Stmt}{t t':TS}(h:PSs X st t) (i:∀ N σ H,t' N σ H->t N σ H):PSs X st t':=λpins s σ H N I q=>h pins s σ H N I (i N σ H q)
noncomputable def SM.bad:SM:=λ_ _=>none
theorem Cq {X:Cx}{st:Stmt}:DS X st SM.bad:=λ_ _ _ _ _ _ h=>by obtain ⟨_,_,_,_,_,_,e,_⟩:=h;cases e
noncomputable def tDx (K:aj) (m:DM D):TE:=λσ H Q=>∃ loc mh,tD K loc mh (m loc mh) σ H Q
noncomputable def tTx (K:aj) (m:DM Bool):TT:=λσ H Q=>∃ loc mh,tDT K loc mh (m loc mh) σ H Q
noncomputable def tIx (K:aj) (m:DM Src):TI:=λσ H R=>∃ loc mh,tDI K loc mh (m loc mh) σ H R
theorem DE.x {X:Cx}{e:Expr}{m:DM D}(h:DE X e m):PE X e (tDx X.K m):=λpins s σ H Q I ⟨loc,mh,q⟩=>h loc mh pins s σ H Q I q
theorem DT.x {X:Cx}{e:Expr}{m:DM Bool}(h:DT X e m):PT X e (tTx X.K m):=λpins s σ H Q I ⟨loc,mh,q⟩=>h loc mh pins s σ H Q I q
theorem DI.x {X:Cx}{tg e:Expr}{m:DM Src}(h:DI X tg e m):PI X tg e (tIx X.K m):=λpins s σ H Q I ⟨loc,mh,q⟩=>h loc mh pins s σ H Q I q
section
variable {X:Cx}{st:Stmt}{sts:List Stmt}{m m1 m2:SM}{e:Expr}{me:DM D}{pos:Pos}
noncomputable def Zn:SM:=λloc mh=>some (.nx,loc,mh)
noncomputable def Af (m1 m2:SM):SM:=λloc mh=>match m1 loc mh with
 | some (.nx,l,h)=>m2 l h
 | r=>r
theorem Zq:DSs X [] Zn:=by
 refine Zo Rx ?_;rintro N σ H ⟨loc,mh,ρ,f,loc',mh',q,rl,rs,co⟩;cases q;exact co H ρ σ Ev.refl rs rl
theorem U7 (h1:DS X st m1) (h2:DSs X sts m2):DSs X (st::sts) (Af m1 m2):=by
 refine Zo (G3 h1 h2) ?_;rintro N σ H ⟨loc,mh,ρ,f,loc',mh',q,rl,rs,co⟩;unfold Af at q;split at q
 ·rename_i l h e1;exact ⟨loc,mh,ρ,.nx,l,h,e1,rl,rs,λH1 ρ1 σ1 ev1 rs1 rl1=>⟨l,h,ρ1,f,loc',mh',q,rl1,rs1,co.ev ev1⟩⟩
 ·rename_i r hne;refine ⟨loc,mh,ρ,f,loc',mh',q,rl,rs,?_⟩;cases f with
  | nx=>exact absurd q (hne _ _)
  | bk=>exact co
  | ct=>exact co
  | rt d=>exact co
theorem tH:DS X (.Pass pos) Zn:=by
 refine Gh qT ?_;rintro N σ H ⟨loc,mh,ρ,f,loc',mh',q,rl,rs,co⟩;cases q;exact co H ρ σ Ev.refl rs rl
theorem jA:DS X (.Break pos) (λloc mh=>some (.bk,loc,mh)):=by
 refine Gh fQ ?_;rintro N σ H ⟨loc,mh,ρ,f,loc',mh',q,rl,rs,co⟩;cases q;exact co H ρ σ Ev.refl rs rl
theorem U8:DS X (.Continue pos) (λloc mh=>some (.ct,loc,mh)):=by
 refine Gh Uu ?_;rintro N σ H ⟨loc,mh,ρ,f,loc',mh',q,rl,rs,co⟩;cases q;exact co H ρ σ Ev.refl rs rl
noncomputable def retS (me:DM D):SM:=λloc mh=>match me loc mh with | some (d,mh')=>some (.rt d,loc,mh') | none=>none
theorem jB (he:DE X e me):DS X (.Return (some e) pos) (retS me):=by
 refine Gh (zB he.x) ?_;rintro N σ H ⟨loc,mh,ρ,f,loc',mh',q,rl,rs,co⟩;unfold retS at q;split at q
 ·rename_i d h1 ee;cases q;exact ⟨loc,mh,ρ,d,_,ee,rl,rs,co⟩
 ·cases q
theorem tK:DS X (.Return none pos) (λloc mh=>some (.rt .non,loc,mh)):=by
 refine Gh qW ?_;rintro N σ H ⟨loc,mh,ρ,f,loc',mh',q,rl,rs,co⟩;cases q;exact co H ρ _ Ev.refl rs .non
noncomputable def Hv (me:DM D):SM:=λloc mh=>match me loc mh with | some (_,mh')=>some (.nx,loc,mh') | none=>none
theorem tL (he:DE X e me) (hs:swapsWith e none pos.line X.env=pure false):DS X (.Expr e pos) (Hv me):=by
 refine Gh (qU he.x hs) ?_;rintro N σ H ⟨loc,mh,ρ,f,loc',mh',q,rl,rs,co⟩;unfold Hv at q;split at q
 ·rename_i d h1 ee;cases q;exact ⟨loc,mh,ρ,d,_,ee,rl,rs,λH' ρ' v e' rs' r'=>co H' ρ' σ e' rs' (rl.mono e')⟩
 ·cases q
noncomputable def ifS (t:DM Bool) (m1 m2:SM):SM:=λloc mh=>match t loc mh with
 | some (k,h)=>if k=true then m1 loc h else m2 loc h
 | none=>none
theorem Ad9 {c:Expr}{a b:List Stmt}{t:DM Bool}(hc:DT X c t) (ha:DSs X a m1) (hb:DSs X b m2):DS X (.If c a b pos) (ifS t m1 m2):=by
 refine Gh (Ade hc.x ha hb) ?_;rintro N σ H ⟨loc,mh,ρ,f,loc',mh',q,rl,rs,co⟩;unfold ifS at q;split at q
 ·rename_i k h ek;refine ⟨loc,mh,ρ,k,h,ek,rl,rs,λH1 ρ1 e1 rs1=>?_⟩;cases k with
  | true=>exact Sd ⟨loc,h,ρ1,f,loc',mh',by rw [if_pos rfl] at q;exact q,rl.mono e1,rs1,co.ev e1⟩
  | false=>exact R9 ⟨loc,h,ρ1,f,loc',mh',by rw [if_neg iu] at q;exact q,rl.mono e1,rs1,co.ev e1⟩
 ·cases q
noncomputable abbrev GM:=D->Loc->MH->Option (Loc×MH)
noncomputable def Jg (ws:List Nat) (σ σ':St):Prop:=σ'.length=σ.length/\∀ i,i ∉ ws->σ'[i]?=σ[i]?
noncomputable def tG (K:aj) (ws:List Nat) (g:GM):TG:=λv σ H Q=>∃ d loc mh ρ loc' mh',g d loc mh=some (loc',mh')/\RL K H ρ loc σ/\RS K H ρ mh/\RD K H ρ d v /\
 ∀ H' ρ' σ',Ev K H ρ H' ρ'->RS K H' ρ' mh'->RL K H' ρ' loc' σ'->Jg ws σ σ'->Q σ' H'
noncomputable def DG (X:Cx) (tg:Expr) (ws:List Nat) (g:GM):Prop:=PG X tg (tG X.K ws g)
theorem Xd {tg:Expr}{t t':TG}(h:PG X tg t) (i:∀ v σ H Q,t' v σ H Q->t v σ H Q):PG X tg t':=λpins s σ H v u Q I r q=>h pins s σ H v u Q I r (i v σ H Q q)
noncomputable def Bf (i:Nat):GM:=λd loc mh=>some (loc.set i (some d),mh)
theorem Jg.set {σ:St}{i:Nat}{o:Option V}:Jg [i] σ (σ.set i o):=⟨qu,λj hj=>jk (λe=>hj (by simp [e]))⟩
theorem tM {i:Nat}{x:Str}(hN:X.N.Nodup) (hi:X.N[i]?=some x) (hx:L2.Loc X.env.scope x) (hf:X.fn x=true\/X.env.scope.names.lookup x=some .local):DG X (.Name x pos) [i] (Bf i):=by
 refine Xd (Y0 hN hi hx hf) ?_;rintro v σ H Q ⟨d,loc,mh,ρ,loc',mh',q,rl,rs,r,co⟩;cases q;exact co H ρ _ Ev.refl rs (rl.set r) Jg.set
noncomputable def Sw:List Nat->List D->Loc->Loc
 | i::is,d::ds,loc=>Sw is ds (loc.set i (some d))
 | _,_,loc=>loc
noncomputable def Kr:List Nat->List V->St->St
 | i::is,d::ds,loc=>Kr is ds (loc.set i (some d))
 | _,_,loc=>loc
noncomputable def gNs:List Nat->TGs
 | []=>Adg
 | i::is=>xM (fU i) (gNs is)
theorem jC:∀ (is:List Nat) (vs:List V) (σ:St) (H:Hp) (Q:St->Hp->Prop),vs.length=is.length->Q (Kr is vs σ) H->gNs is vs σ H Q
 | [],[],_,_,_,_,q=>⟨rfl,q⟩
 | [],_::_,_,_,_,h,_=>by simp at h
 | _::_,[],_,_,_,h,_=>by simp at h
 | i::is,v::vs,σ,H,Q,h,q=>⟨v,vs,rfl,jC is vs _ H Q (by simpa using h) q⟩
theorem Q0 {K:aj}{H:Hp}{ρ:List Addr}:∀ (is:List Nat) {ds:List D}{vs:List V}{loc:Loc}{σ:St},RDs K H ρ ds vs->RL K H ρ loc σ->RL K H ρ (Sw is ds loc) (Kr is vs σ)
 | [],_,_,_,_,.nil,rl=>rl
 | [],_,_,_,_,.cons _ _,rl=>rl
 | _::_,_,_,_,_,.nil,rl=>rl
 | i::is,_,_,_,_,.cons r t,rl=>Q0 is t (rl.set r)
theorem Mu:∀ (is:List Nat) (vs:List V) (σ:St),Jg is σ (Kr is vs σ)
 | [],[],_=>⟨rfl,λ_ _=>rfl⟩
 | [],_::_,_=>⟨rfl,λ_ _=>rfl⟩
 | _::_,[],_=>⟨rfl,λ_ _=>rfl⟩
 | i::is,v::vs,σ=>by
  obtain ⟨h1,h2⟩:=Mu is vs (σ.set i (some v));refine ⟨h1.trans qu,λj hj=>?_⟩;have hj':¬ (j=i)/\j ∉ is:=by simpa using hj
  show (Kr is vs (σ.set i (some v)))[j]?=σ[j]?;rw [h2 j hj'.2,jk (λe=>hj'.1 e.symm)]
noncomputable def Ot (is:List Nat):GM:=λd loc mh=>match d with
 | .tup ds=>if ds.length=is.length then some (Sw is ds loc,mh) else none
 | _=>none
theorem Aax {es:List Expr}{k:Nat}{is:List Nat}(hc:X.calm=true) (h:PGs X es (gNs is)) (hn:(assignEach es X.env).length=is.length) (hst:(assignEach es X.env).findIdx? (·.1)=none):DG X (.Tuple es k pos) is (Ot is):=by
 refine Xd (zF hc h hn hst) ?_;rintro v σ H Q ⟨d,loc,mh,ρ,loc',mh',q,rl,rs,r,co⟩;cases r with
 | @tup ds a xs s r =>
  have q:(if ds.length=is.length then some (Sw is ds loc,mh) else none)=some (loc',mh'):=q;split at q
  ·rename_i hl;cases q;exact ⟨a,xs,rfl,s,by rw [← r.length];exact hl,jC is xs σ H Q (by rw [← r.length];exact hl) (co H ρ _ Ev.refl rs (Q0 is r rl) (Mu is xs σ))⟩
  ·cases q
 | _=>cases q
noncomputable def Mv (o i v:D) (mh:MH):Option MH:=match o with
 | .ref n=>(match i with
  | .int k=>(match mh[n]? with
   | some (.lst ds)=>(match ixN ds.length k with
    | some j=>some (mh.set n (.lst (ds.set j v)))
    | none=>none)
   | _=>none)
  | _=>none)
 | _=>none
noncomputable def U9 (mo mi:DM D):GM:=λv loc mh=>match mo loc mh with
 | some (o,m1)=>match mi loc m1 with
  | some (i,m2)=>match Mv o i v m2 with
   | some m3=>some (loc,m3)
   | none=>none
  | none=>none
 | none=>none
theorem Xe {o i v:D}{mh m:MH}(h:Mv o i v mh=some m):∃ n k ds j,o=.ref n/\i=.int k/\mh[n]?=some (.lst ds)/\ixN ds.length k=some j/\m=mh.set n (.lst (ds.set j v)):=by
 cases o with
 | ref n =>
  cases i with
  | int k =>
   have h:(match mh[n]? with | some (.lst ds)=>(match ixN ds.length k with | some j=>some (mh.set n (.lst (ds.set j v))) | none=>none) | _=>none)=some m:=h;split at h
   ·rename_i ds em;split at h
    ·rename_i j ej;cases h;exact ⟨n,k,ds,j,rfl,rfl,em,ej,rfl⟩
    ·cases h
   ·cases h
  | _=>cases h
 | _=>cases h
theorem Aay {o i:Expr}{mo mi:DM D}(ho:DE X o mo) (hi:DE X i mi) (ha:∀ v,assign (.Subscript o i pos) X.env v=(do
      let ov ← holding [v] (eval o X.env)
      let iv ← holding [v,ov] (eval i X.env)
      standAt pos
      holding [v,ov,iv] (setItem ov iv v)
      release [v,ov,iv] [])):DG X (.Subscript o i pos) [] (U9 mo mi):=by
  refine Xd (zG ho.x hi.x set_list ha) ?_;rintro v σ H Q ⟨d,loc,mh,ρ,loc',mh',q,rl,rs,r,co⟩;unfold U9 at q;split at q
  · rename_i od m1 eo;split at q
    · rename_i idx m2 ei;split at q
      · rename_i m3 es;cases q;refine ⟨loc,mh,ρ,od,m1,eo,rl,rs,λH1 ρ1 v1 e1 rs1 r1=>⟨loc,m1,ρ1,idx,m2,ei,rl.mono e1,rs1,λH2 ρ2 v2 e2 rs2 r2=>?_⟩⟩;obtain ⟨n,k,ds,j,rfl,rfl,em,ej,rfl⟩:=Xe es;have r':=(r.mono e1).mono e2;cases r1.mono e2 with
        | @ref _ a hn =>
          cases r2;obtain ⟨a',ha',xs,hx,rx⟩:=rs2.at em;rw [hn] at ha';cases ha';refine ⟨a,xs,k,j,rfl,rfl,hx,by rw [← rx.length];exact ej,?_⟩;exact co _ ρ2 σ ((e1.trans e2).trans (Ev.lst hx)) (rs2.setL hn hx (rx.set r' j)) (((rl.mono e1).mono e2).mono (Ev.lst hx)) ⟨rfl,λ_ _=>rfl⟩
      · cases q
    · cases q
  · cases q
noncomputable def Ba (me:DM D) (g:GM):SM:=λloc mh=>match me loc mh with
 | some (d,h)=>match g d loc h with
  | some (l,h')=>some (.nx,l,h')
  | none=>none
 | none=>none
theorem Va {ws:List Nat}{g:GM}{N:Ends}{σ:St}{H:Hp}(h:tS X.K (Ba me g) N σ H):zH (tDx X.K me) (tG X.K ws g) N σ H:=by
 obtain ⟨loc,mh,ρ,f,loc',mh',q,rl,rs,co⟩:=h;unfold Ba at q;split at q
 ·rename_i d h1 ee;split at q
  ·rename_i l h2 eg;cases q;exact ⟨loc,mh,ρ,d,h1,ee,rl,rs,λH1 ρ1 v e1 rs1 r1=>⟨d,loc,h1,ρ1,_,_,eg,rl.mono e1,rs1,r1,λH2 ρ2 σ2 e2 rs2 rl2 _=>co H2 ρ2 σ2 (e1.trans e2) rs2 rl2⟩⟩
  ·cases q
 ·cases q
theorem Sx {tg:Expr}{ws:List Nat}{g:GM}(he:DE X e me) (hg:DG X tg ws g) (hs:swapsWithSole [tg] e pos.line X.env=pure false) (hw:swappedStores [tg] e X.env=pure none) (h1:(assignEach [tg] X.env).map (·.2)=[assign tg X.env]):DS X (.Assign [tg] e pos) (Ba me g) :=
 Gh (zJ he.x hg hs hw h1) λN σ H h=>Va h
noncomputable def Nj (src:Src) (g:GM) (body:SM):Nat->Nat->SM
 | 0,i,loc,mh=>if src.stop mh i=true then some (.nx,loc,mh) else none
 | k+1,i,loc,mh=>match src.get mh i with
  | none=>if src.stop mh i=true then some (.nx,loc,mh) else none
  | some d=>match g d loc mh with
   | none=>none
   | some (l1,h1)=>match body l1 h1 with
    | some (.nx,l,h)=>Nj src g body k (i+1) l h
    | some (.ct,l,h)=>Nj src g body k (i+1) l h
    | some (.bk,l,h)=>some (.nx,l,h)
    | some (.rt d,l,h)=>some (.rt d,l,h)
    | none=>none
noncomputable def Nk (mi:DM Src) (g:GM) (body:SM):SM:=λloc mh=>match mi loc mh with
 | some (src,h)=>Nj src g body (src.items h).length 0 loc h
 | none=>none
theorem Aaz {tg iter:Expr}{body:List Stmt}{mi:DM Src}{ws:List Nat}{g:GM}{mb:SM}(hp:PassesOwn (model X.prog X.w) X.A X.env X.xe) (hc:X.calm=true) (hi:DI X tg iter mi) (hg:DG X tg ws g) (hb:DSs X body mb)
  (hs:∀ x,foldedSetIterable iter X.env x=pure x):DS X (.For tg iter body [] pos) (Nk mi g mb):=by
 refine Gh (zN hp hc hi.x hg hb hs) ?_;rintro N σ H ⟨loc,mh,ρ,f,loc',mh',q,rl,rs,co⟩;unfold Nk at q;split at q
 ·rename_i src h0 ei;refine ⟨loc,mh,ρ,src,h0,ei,rl,rs,λH1 ρ1 J e1 rs1 jr=>?_⟩
  refine ⟨λi k σ H=>∃ ρ loc mh f loc' mh',Ev X.K H1 ρ1 H ρ/\RL X.K H ρ loc σ/\RS X.K H ρ mh/\Nj src g mb k i loc mh=some (f,loc',mh')/\CoS X.K H ρ f loc' mh' N,
   ⟨_,ρ1,loc,h0,f,loc',mh',Ev.refl,rl.mono e1,rs1,q,co.ev e1⟩,?_⟩
  rintro i k σ H ⟨ρ,loc,mh,f,loc',mh',ev,rl,rs,q,co⟩;have stop:(if src.stop mh i=true then some (Fl.nx,loc,mh) else none)=some (f,loc',mh')->J.stop i H/\N.nx σ H:=λq=>by
   split at q
   ·rename_i hst;cases q;exact ⟨jr.stop H ρ mh i ev rs hst,co H ρ σ Ev.refl rs rl⟩
   ·cases q
  cases k with
  | zero=>exact .inl (stop q)
  | succ k =>
   simp only [Nj] at q;split at q
   ·exact .inl (stop q)
   ·rename_i d ed;obtain ⟨hgo,hyld⟩:=jr.go H ρ mh i d ev rs ed;split at q
    ·cases q
    ·rename_i l1 h1 eg
     refine .inr ⟨hgo,λσ' H'=>∃ ρ' loc mh f loc' mh',Ev X.K H1 ρ1 H' ρ'/\RL X.K H' ρ' loc σ'/\RS X.K H' ρ' mh/\Nj src g mb k (i+1) loc mh=some (f,loc',mh')/\CoS X.K H' ρ' f loc' mh' N,
      λσ' H' h=>⟨k,jh _,h⟩,λx H' hy=>?_⟩
     obtain ⟨ev2,rs2,rd2⟩:=hyld x H' hy;refine ⟨d,loc,mh,ρ,l1,h1,eg,rl.mono ev2,rs2,rd2,λH3 ρ3 σ3 ev3 rs3 rl3 _=>?_⟩;split at q
     ·rename_i l h eb;exact ⟨l1,h1,ρ3,.nx,l,h,eb,rl3,rs3,λH4 ρ4 σ4 ev4 rs4 rl4=>⟨ρ4,l,h,f,loc',mh',ev.trans (ev2.trans (ev3.trans ev4)),rl4,rs4,q,co.ev (ev2.trans (ev3.trans ev4))⟩⟩
     ·rename_i l h eb;exact ⟨l1,h1,ρ3,.ct,l,h,eb,rl3,rs3,λH4 ρ4 σ4 ev4 rs4 rl4=>⟨ρ4,l,h,f,loc',mh',ev.trans (ev2.trans (ev3.trans ev4)),rl4,rs4,q,co.ev (ev2.trans (ev3.trans ev4))⟩⟩
     ·rename_i l h eb;cases q;exact ⟨l1,h1,ρ3,.bk,_,_,eb,rl3,rs3,λH4 ρ4 σ4 ev4 rs4 rl4=>co H4 ρ4 σ4 (ev2.trans (ev3.trans ev4)) rs4 rl4⟩
     ·rename_i d' l h eb;cases q;exact ⟨l1,h1,ρ3,.rt d',_,_,eb,rl3,rs3,λH4 ρ4 v4 ev4 rs4 r4=>co H4 ρ4 v4 (ev2.trans (ev3.trans ev4)) rs4 r4⟩
     ·cases q
 ·cases q
end
noncomputable def Ep (t:DM Bool) (body:SM):Nat->SM
 | 0,_,_=>none
 | k+1,loc,mh=>match t loc mh with
  | none=>none
  | some (false,h)=>some (.nx,loc,h)
  | some (true,h)=>match body loc h with
   | some (.nx,l,h)=>Ep t body k l h
   | some (.ct,l,h)=>Ep t body k l h
   | some (.bk,l,h)=>some (.nx,l,h)
   | some (.rt d,l,h)=>some (.rt d,l,h)
   | none=>none
noncomputable def Ou (t:DM Bool) (body:SM):SM:=Ep t body 1000000
section
variable {X:Cx}{pos:Pos}
theorem jD {c:Expr}{body:List Stmt}{t:DM Bool}{mb:SM}(hp:PassesOwn (model X.prog X.w) X.A X.env X.xe) (hc:DT X c t) (hb:DSs X body mb):DS X (.While c body [] pos) (Ou t mb):=by
 refine Gh (fW hp hc.x hb) ?_;rintro N σ H ⟨loc,mh,ρ,f,loc',mh',q,rl,rs,co⟩;refine ⟨λk σ H=>∃ ρ loc mh f loc' mh',RL X.K H ρ loc σ/\RS X.K H ρ mh/\Ep t mb k loc mh=some (f,loc',mh')/\CoS X.K H ρ f loc' mh' N,⟨_,ρ,loc,mh,f,loc',mh',rl,rs,q,co⟩,?_⟩;rintro k σ H ⟨ρ,loc,mh,f,loc',mh',rl,rs,q,co⟩;cases k with
 | zero=>cases q
 | succ k =>
  simp only [Ep] at q;split at q
  ·cases q
  ·rename_i h et;cases q;exact ⟨_,mh,ρ,false,_,et,rl,rs,λH1 ρ1 e1 rs1=>R9 (co H1 ρ1 σ e1 rs1 (rl.mono e1))⟩
  ·rename_i h et;refine ⟨loc,mh,ρ,true,h,et,rl,rs,λH1 ρ1 e1 rs1=>Sd ⟨λσ' H'=>∃ ρ' loc mh f loc' mh',RL X.K H' ρ' loc σ'/\RS X.K H' ρ' mh/\Ep t mb k loc mh=some (f,loc',mh')/\CoS X.K H' ρ' f loc' mh' N,λσ' H' h=>⟨k,jh _,h⟩,?_⟩⟩;have rl1:=rl.mono e1;split at q
   ·rename_i l h2 eb;exact ⟨loc,h,ρ1,.nx,l,h2,eb,rl1,rs1,λH4 ρ4 σ4 ev4 rs4 rl4=>⟨ρ4,l,h2,f,loc',mh',rl4,rs4,q,co.ev (e1.trans ev4)⟩⟩
   ·rename_i l h2 eb;exact ⟨loc,h,ρ1,.ct,l,h2,eb,rl1,rs1,λH4 ρ4 σ4 ev4 rs4 rl4=>⟨ρ4,l,h2,f,loc',mh',rl4,rs4,q,co.ev (e1.trans ev4)⟩⟩
   ·rename_i l h2 eb;cases q;exact ⟨loc,h,ρ1,.bk,_,_,eb,rl1,rs1,λH4 ρ4 σ4 ev4 rs4 rl4=>co H4 ρ4 σ4 (e1.trans ev4) rs4 rl4⟩
   ·rename_i d' l h2 eb;cases q;exact ⟨loc,h,ρ1,.rt d',_,_,eb,rl1,rs1,λH4 ρ4 v4 ev4 rs4 r4=>co H4 ρ4 v4 (e1.trans ev4) rs4 r4⟩
   ·cases q
end
noncomputable def Sy (cs:List (Option Nat)) (loc:Loc):Loc:=cs.map λo=>match o with | some j=>(match loc[j]? with | some d=>d | none=>none) | none=>none
noncomputable def Qi (cs:List (Option Nat)) (σ:St):St:=cs.map λo=>match o with | some j=>(match σ[j]? with | some d=>d | none=>none) | none=>none
theorem Aa0 {K:aj}{H:Hp}{ρ:List Addr}{loc:Loc}{σ:St}(cs:List (Option Nat)) (h:RL K H ρ loc σ):RL K H ρ (Sy cs loc) (Qi cs σ):=by
 refine ⟨by unfold Sy Qi;rw [fu,fu],λi d e=>?_⟩;unfold Sy at e;unfold Qi;rw [gb] at e ⊢;cases q:cs[i]? with
 | none=>rw [q] at e;cases e
 | some o =>
  rw [q] at e;cases o with
  | none=>simp at e
  | some j =>
   simp only [ou,JC] at e;cases ej:loc[j]? with
   | none=>rw [ej] at e;cases e
   | some d' =>
    rw [ej] at e;have e:d'=some d:=e;subst e;obtain ⟨v,e1,r⟩:=h.2 j d ej;exact ⟨v,by simp only [ou,e1],r⟩
structure CapOk (X:Cx) (N':List Str) (scope:Scope) (cs:List (Option Nat)):Prop where
 len:N'.length=cs.length
 cap:∀ (i:Nat) (x:Str) (j:Nat),N'[i]?=some x->cs[i]?=some (some j)->scope.names.lookup x=some .free/\X.N[j]?=some x
theorem CapOk.to {X:Cx}{N':List Str}{scope:Scope}{cs:List (Option Nat)}(h:CapOk X N' scope cs) (σ:St):Cap X N' scope σ (Qi cs σ):=by
 refine ⟨by unfold Qi;rw [fu];exact h.len.symm,λi x v e1 e2=>?_⟩;unfold Qi at e2;rw [gb] at e2;cases q:cs[i]? with
 | none=>rw [q] at e2;cases e2
 | some o =>
  rw [q] at e2;cases o with
  | none=>simp at e2
  | some j =>
   obtain ⟨h1,h2⟩:=h.cap i x j e1 q;refine ⟨h1,j,h2,?_⟩;simp only [ou,JC] at e2;cases ej:σ[j]? with
   | none=>rw [ej] at e2;cases e2
   | some d'=>rw [ej] at e2;have e2:d'=some v:=e2;rw [e2]
theorem tO {cs:List (Option Nat)}{ws:List Nat}{σ σ2:St}(hw:∀ i∈ws,∀ j,cs[i]?≠some (some j)) (h:Jg ws (Qi cs σ) σ2):Kept (Qi cs σ) σ2:=by
 refine ⟨h.1,λi v e=>?_⟩;rw [h.2 i λhi=>?_]
 ·exact e
 ·unfold Qi at e;rw [gb] at e;cases q:cs[i]? with
  | none=>rw [q] at e;cases e
  | some o =>
   cases o with
   | none=>rw [q] at e;simp at e
   | some j=>exact hw i hi j q
noncomputable def Jr (src:Src) (g:GM) (tc:DM Bool) (me:DM D) (loc:Loc):Nat->Nat->List D->MH->Option (List D×MH)
 | 0,i,acc,mh=>if src.stop mh i=true then some (acc,mh) else none
 | k+1,i,acc,mh=>match src.get mh i with
  | none=>if src.stop mh i=true then some (acc,mh) else none
  | some d=>match g d loc mh with
   | none=>none
   | some (l1,h1)=>match tc l1 h1 with
    | none=>none
    | some (c,h2)=>if c=true then (match me l1 h2 with
      | some (y,h3)=>if acc.length < sizeLine then Jr src g tc me loc k (i+1) (acc++[y]) h3 else none
      | none=>none) else Jr src g tc me loc k (i+1) acc h2
noncomputable def Dt (mi:DM Src) (cs:List (Option Nat)) (g:GM) (tc:DM Bool) (me:DM D):DM D:=λloc mh=>match mi loc mh with
 | some (src,h)=>match Jr src g tc me (Sy cs loc) (src.items h).length 0 [] h with
  | some (ds,h')=>some (.ref h'.length,h'++[.lst ds])
  | none=>none
 | none=>none
section
variable {X:Cx}{N':List Str}{scope:Scope}{cs:List (Option Nat)}{ws:List Nat}{mi:DM Src}{g:GM}{tc:DM Bool}{me:DM D}{elt target iter:Expr}{ifs:List Expr}{pos:Pos}
theorem Vb (hcap:CapOk X N' scope cs) (hw:∀ i∈ws,∀ j,cs[i]?≠some (some j)) {σ:St}{H:Hp}{Q:VK}(h:tDx X.K (Dt mi cs g tc me) σ H Q) :
  iB X N' scope (tIx X.K mi) (tG X.K ws g) (tTx X.K tc) (tDx X.K me) σ H Q:=by
 obtain ⟨loc,mh,ρ,d,mh',q,rl,rs,co⟩:=h;unfold Dt at q;split at q
 ·rename_i src h0 ei;split at q
  ·rename_i ds h1 ec;cases q;refine ⟨loc,mh,ρ,src,h0,ei,rl,rs,λH1 ρ1 J e1 rs1 jr=>?_⟩;refine ⟨Qi cs σ,hcap.to σ,λi k acc H=>∃ ρ accD mh,Ev X.K H1 ρ1 H ρ/\RS X.K H ρ mh/\RDs X.K H ρ accD acc/\Jr src g tc me (Sy cs loc) k i accD mh=some (ds,h1),⟨_,ρ1,[],h0,Ev.refl,rs1,.nil,ec⟩,?_⟩;have co1:=co.ev e1;have rl1:=Aa0 cs (rl.mono e1);rintro i k acc H ⟨ρ,accD,mh,ev,rs,ra,q⟩;have stop:(if src.stop mh i=true then some (accD,mh) else none)=some (ds,h1)->J.stop i H/\∀ p,H p=none->Q (.ref p) (upd H p (.lst acc)):=λq=>by
    split at q
    ·rename_i hst;cases q;exact ⟨jr.stop H ρ _ i ev rs hst,Co.newL rs ra (co1.ev ev)⟩
    ·cases q
   cases k with
   | zero=>exact .inl (stop q)
   | succ k =>
    simp only [Jr] at q;split at q
    ·exact .inl (stop q)
    ·rename_i d ed;obtain ⟨hgo,hyld⟩:=jr.go H ρ mh i d ev rs ed;split at q
     ·cases q
     ·rename_i l1 h2 eg;refine .inr ⟨hgo,λacc' H'=>∃ ρ accD mh,Ev X.K H1 ρ1 H' ρ/\RS X.K H' ρ mh/\RDs X.K H' ρ accD acc'/\Jr src g tc me (Sy cs loc) k (i+1) accD mh=some (ds,h1),λacc' H' h=>⟨k,jh _,h⟩,λx H' hy=>?_⟩;obtain ⟨ev2,rs2,rd2⟩:=hyld x H' hy;refine ⟨d,Sy cs loc,mh,ρ,l1,h2,eg,rl1.mono (ev.trans ev2),rs2,rd2,λH3 ρ3 σ3 ev3 rs3 rl3 kb=>⟨tO hw kb,?_⟩⟩;split at q
      ·cases q
      ·rename_i c h3 et;refine ⟨l1,h2,ρ3,c,h3,et,rl3,rs3,λH4 ρ4 ev4 rs4=>?_⟩;have evA:=ev2.trans (ev3.trans ev4);cases c with
       | false =>
        rw [if_neg iu] at q;exact R9 ⟨ρ4,accD,h3,ev.trans evA,rs4,ra.mono evA,q⟩
       | true =>
        rw [if_pos rfl] at q;split at q
        ·rename_i y h4 ey;split at q
         ·rename_i hz;refine Sd ⟨by rw [← ra.length];exact hz,l1,h3,ρ4,y,h4,ey,rl3.mono ev4,rs4,λH5 ρ5 v ev5 rs5 r5=>⟨ρ5,accD++[y],h4,ev.trans (evA.trans ev5),rs5,(ra.mono (evA.trans ev5)).append (.cons r5 .nil),q⟩⟩
         ·cases q
        ·cases q
  ·cases q
 ·cases q
noncomputable def DIf (X:Cx) (ifs:List Expr) (m:DM Bool):Prop:=PIf X ifs (tTx X.K m)
theorem tQ:DIf X [] (Zr true):=by
 rintro pins s σ H Q I ⟨loc,mh,ρ,b,mh',q,rl,rs,co⟩;cases q;exact rR pins s σ H Q I (co H ρ Ev.refl rs)
theorem tR {c:Expr}{m:DM Bool}(h:DT X c m):DIf X [c] m:=rT h.x
theorem tU (hc:X.calm=true) (S:CompOk X scope) (hcap:CapOk X N' scope cs) (hw:∀ i∈ws,∀ j,cs[i]?≠some (some j)) (hit:DI X target iter mi)
  (hg:∀ pins C cells s₀ H₀ fp,DG (Br X pins N' scope C cells s₀ H₀ fp) target ws g)
  (hi:∀ pins C cells s₀ H₀ fp,DIf (Br X pins N' scope C cells s₀ H₀ fp) ifs tc)
  (he:∀ pins C cells s₀ H₀ fp,DE (Br X pins N' scope C cells s₀ H₀ fp) elt me)
  (hs:∀ x,foldedSetIterable iter X.env x=pure x):DE X (.ListComp elt [⟨target,iter,ifs,0⟩] scope pos) (Dt mi cs g tc me):=λloc mh =>
 Ar (rW (N':=N') (g:=tG X.K ws g) (tc:=tTx X.K tc) (te:=tDx X.K me) hc S hit.x (λp C c s h f=>hg p C c s h f) (λp C c s h f=>hi p C c s h f) (λp C c s h f=>(he p C c s h f).x) hs) λσ H Q h=>Vb hcap hw ⟨loc,mh,h⟩
theorem Xf {y:Str}{py spos:Pos}{wy:List Nat}{gy:GM}(hc:X.calm=true) (S:CompOk X scope) (hcap:CapOk X N' scope cs) (hw:∀ i∈ws,∀ j,cs[i]?≠some (some j)) (hit:DI X target iter mi)
  (hg:∀ pins C cells s₀ H₀ fp,DG (Br X pins N' scope C cells s₀ H₀ fp) target ws g)
  (hi:∀ pins C cells s₀ H₀ fp,DIf (Br X pins N' scope C cells s₀ H₀ fp) ifs tc)
  (he:∀ pins C cells s₀ H₀ fp,DE (Br X pins N' scope C cells s₀ H₀ fp) elt me) (hgy:DG X (.Name y py) wy gy)
  (hsw:swapsWith (.ListComp elt [⟨target,iter,ifs,0⟩] scope pos) (some (.Name y py)) spos.line X.env=pure true)
  (hs:∀ x,foldedSetIterable iter X.env x=pure x):DS X (.Assign [.Name y py] (.ListComp elt [⟨target,iter,ifs,0⟩] scope pos) spos) (Ba (Dt mi cs g tc me) gy) :=
 Gh (W8 (N':=N') (g:=tG X.K ws g) (tc:=tTx X.K tc) (te:=tDx X.K me) hc S hit.x (λp C c s h f=>hg p C c s h f) (λp C c s h f=>hi p C c s h f) (λp C c s h f=>(he p C c s h f).x) hgy hsw hs) λN σ H h=>Vb hcap hw (Va h)
end
noncomputable def spD (K:aj) (n:Nat) (f:List D->MH->Option (D×MH)):Sp:=λvs H Q _=>vs.length=n/\rDs K f vs H Q
section
variable {X:Cx}
theorem S5 {CX:CXT}{k:Nat}{fa:Addr}{fd:FuncData}{ps:List Str}{f:List D->MH->Option (D×MH)}{x:Str}{p pos:Pos}{a:Expr}{es:List Expr}{mr:DM (List D)}{E:XK}
  (F:FnOk X.prog X.w X.K X.mg X.base CX k fa fd ps (spD X.K ps.length f)) (hr:Room k X.A) (hg:Gl X x) (hm:X.mg x=some (.ref fa)) (hk:iw X.K (.ref fa)=true) (hb:Binds X.K fd ps []) (hx:Bh CX X E)
  (ha:DA X (a::es) mr) (hf:∀ ds mh r,f ds mh=some r->ds.length=ps.length) (hdb:(x==("__debug__":Str))=false) (he:starEach (a::es) X.env=(false,eval a X.env)::starEach es X.env) (hpl:(backTo pos (starEach es X.env)).any (·.1)=false) :
  DE X (.Call (.Name x p) (a::es) [] pos) (mr.bnd λds=>Zl (f ds)):=λloc mh=>by
 refine Ar (rC F hr hg hm hk hb .nil hx (ha loc mh) hdb he hpl) ?_;rintro σ H Q ⟨ρ,d,mh',q,rl,rs,co⟩;obtain ⟨ds,m1,ea,q⟩:=Ah q;refine ⟨ρ,ds,m1,ea,rl,rs,λH1 ρ1 vs e1 rs1 r1=>?_⟩;show spD X.K ps.length f (vs++[]) H1 Q E;rw [oh];exact ⟨by rw [← r1.length];exact hf _ _ _ q,ρ1,m1,ds,d,mh',q,rs1,r1,co.ev e1⟩
theorem jE {CX:CXT}{k:Nat}{fa:Addr}{fd:FuncData}{f:List D->MH->Option (D×MH)}{x:Str}{p pos:Pos}{E:XK}
  (F:FnOk X.prog X.w X.K X.mg X.base CX k fa fd [] (spD X.K 0 f)) (hr:Room k X.A) (hg:Gl X x) (hm:X.mg x=some (.ref fa)) (hk:iw X.K (.ref fa)=true) (hb:Binds X.K fd [] []) (hx:Bh CX X E) (hdb:(x==("__debug__":Str))=false) :
  DE X (.Call (.Name x p) [] [] pos) (Zl (f [])):=λloc mh=>by
 refine Ar (gK F hr hg hm hk hb .nil hx hdb) ?_;rintro σ H Q ⟨ρ,d,mh',q,rl,rs,co⟩;exact ⟨rfl,ρ,mh,[],d,mh',q,rs,.nil,co⟩
noncomputable def jF (c:String) (x:D) (mh:MH):Option (D×MH):=match Aav x mh with
 | some t=>match Ad8 t c with
  | some b=>some (.bl b,mh)
  | none=>none
 | none=>none
theorem jG {c:String}(hc:c∈["bool", "int", "str", "tuple", "list", "dict"]):Ay X (.builtin "isinstance") (λxs H Q=>∃ v,xs=[v,.ty c]/\rD1 X.K (jF c) v H Q):=by
 rintro pins s σ H xs us Q I r ⟨v,e,ρ,mh,dx,d,mh',q,rs,rd,co⟩;subst e;obtain ⟨u,w',rfl,r1,r2⟩:=Vals.two r;cases (show w'=Value.type c from r2);unfold jF at q;split at q
 ·rename_i t et;split at q
  ·rename_i b eb;cases q;have fin:∀ tk,EP X pins σ Q (.bool b) { s with toks:=tk }:=λtk=>⟨.bl b,H,I.tok tk,rfl,co H ρ _ Ev.refl rs (.bl b)⟩
   cases rd with
   | non=>cases et;cases (show u=Value.none from r1);exact ux PySem.W.kitx_none I.kIn True.intro (Hl (by decide) hc eb) (λz=>nomatch z) fin
   | bl y=>cases et;cases (show u=Value.bool y from r1);exact ux PySem.W.kitx_bool I.kIn True.intro (Hl (by decide) hc eb) (λz=>nomatch z) fin
   | int i=>cases et;obtain ⟨t,q⟩:=(show ∃ t,u=Value.int i t from r1);cases q;exact ux PySem.W.kitx_int I.kIn True.intro (Hl (by decide) hc eb) (λz=>nomatch z) fin
   | str y=>cases et;obtain ⟨t,q⟩:=(show ∃ t,u=Value.str y t from r1);cases q;exact ux PySem.W.kitx_str I.kIn True.intro (Hl (by decide) hc eb) (λz=>nomatch z) fin
   | @tup ds a xs sq r =>
    cases et;cases (show u=Value.ref a from r1);obtain ⟨its,_,⟨o,h1,h2,_⟩,_⟩:=I.tuple sq;exact ux PySem.W.kitx_tuple I.kIn ⟨o,h1,h2⟩ (Hl (by decide) hc eb) (λz=>nomatch z) fin
   | obj n s l r=>cases et
   | fn h=>cases et
   | lam h=>cases et
   | clo=>cases et
   | @rol ds a xs sq r =>
    cases et;cases (show u=Value.ref a from r1);obtain ⟨its,_,⟨ob,n',h1,h2,_⟩,_⟩:=I.list sq.sq;exact ux VH I.kIn ⟨ob,h1,h2⟩ (Hl (by decide) hc eb) (λz=>nomatch z) fin
   | @ref n a h =>
    have et:(match mh[n]? with | some (.lst _)=>some "list" | _=>none)=some t:=et;split at et
    ·rename_i o eo;cases et;cases (show u=Value.ref a from r1);obtain ⟨a',ha,ro⟩:=rs.at eo;rw [h] at ha;cases ha;obtain ⟨xs,sq,_⟩:=ro.read;obtain ⟨its,_,⟨ob,n',h1,h2,_⟩,_⟩:=I.list sq;exact ux VH I.kIn ⟨ob,h1,h2⟩ (Hl (by decide) hc eb) (λz=>nomatch z) fin
    ·cases et
  ·cases q
 ·cases q
theorem Aa1 {c:Str}{T:String}{p p2 pos:Pos}{a:Expr}{ma:DM D}(hT:T∈["bool", "int", "str", "tuple", "list", "dict"]) (hg:Gl X "isinstance") (hm:X.mg "isinstance"=none) (hg2:Gl X c) (hm2:X.mg c=none) (hv2:bootBuiltins c=some (.type T)) (hn2:c ≠ "__name__") (hd2:(c==("__debug__":Str))=false) (ha:DE X a ma)
  (he:starEach (a::[.Name c p2]) X.env=(false,eval a X.env)::starEach [.Name c p2] X.env):DE X (.Call (.Name "isinstance" p) [a,.Name c p2] [] pos) (ma.bnd λx=>Zl (jF T x)):=λloc mh=>by
 refine Ar (Ux (jG hT) hg hm boot_isinstance (Dr (ha loc mh) (Dr (qQ hg2 hm2 hv2 (v:=.ty T) rfl hn2 hd2) Ga) he) (by decide) (by decide) he) ?_;rintro σ H Q ⟨ρ,d,mh',q,rl,rs,co⟩;obtain ⟨x,m1,ea,q⟩:=Ah q;exact ⟨ρ,x,m1,ea,rl,rs,λH1 ρ1 v e1 rs1 r1=>⟨v,rfl,ρ1,m1,x,d,mh',q,rs1,r1,co.ev e1⟩⟩
end
section
variable {X:Cx}{a b c e o:Expr}{ma mb mc mo:DM D}{pos:Pos}
noncomputable def J1 (f f':D->D->MH->Option (D×MH)) (ma mb mc:DM D):DM D:=ma.bnd λx=>mb.bnd λy=>(Am (Zl (f x y))).bnd λk=>if k=true then mc.bnd λz=>Zl (f' y z) else Zr (.bl false)
theorem Q5 {f f':D->D->MH->Option (D×MH)}{σ:St}{H:Hp}{Q:VK}(h:tDx X.K (J1 f f' ma mb mc) σ H Q):Wu (rD X.K f) (rD X.K f') (tDx X.K ma) (tDx X.K mb) (tDx X.K mc) σ H Q:=by
 obtain ⟨loc,mh,ρ,d,mh',q,rl,rs,co⟩:=h;obtain ⟨x,m1,ea,q⟩:=Ah q;obtain ⟨y,m2,eb,q⟩:=Ah q;obtain ⟨k,m3,ek,q⟩:=Ah q;have ek:=Dj ek;refine ⟨loc,mh,ρ,x,m1,ea,rl,rs,λH1 ρ1 v1 e1 rs1 r1=>⟨loc,m1,ρ1,y,m2,eb,rl.mono e1,rs1,λH2 ρ2 v2 e2 rs2 r2=>⟨ρ2,m2,x,y,.bl k,m3,ek,rs2,r1.mono e2,r2,λH3 ρ3 v3 e3 rs3 r3=>?_⟩⟩⟩;cases r3;refine ⟨k,rfl,?_⟩;cases k with
 | true =>
  rw [if_pos rfl] at q;obtain ⟨z,m4,ec,q⟩:=Ah q;exact Sd ⟨loc,m3,ρ3,z,m4,ec,((rl.mono e1).mono e2).mono e3,rs3,λH4 ρ4 v4 e4 rs4 r4=>⟨ρ4,m4,y,z,d,mh',q,rs4,(r2.mono e3).mono e4,r4,co.ev (e1.trans (e2.trans (e3.trans e4)))⟩⟩
 | false =>
  rw [if_neg iu] at q;cases q;exact R9 (co H3 ρ3 _ (e1.trans (e2.trans e3)) rs3 (.bl false))
theorem jH {op op':CmpOp}{f f':D->D->MH->Option (D×MH)}(ho:OpR X (compareOp op) (rD X.K f)) (ho':OpR X (compareOp op') (rD X.K f')) (hm:lastMarks [op,op'] [b,c]=false) (ha:DE X a ma) (hb:DE X b mb) (hc:DE X c mc) :
  DE X (.Compare a [op,op'] [b,c] pos) (J1 f f' ma mb mc):=λloc mh=>Ar (gA ho ho' ha.x hb.x hc.x hm) λσ H Q h=>Q5 ⟨loc,mh,h⟩
theorem jJ {op op':CmpOp}{f f':D->D->MH->Option (D×MH)}(ho:OpR X (compareOp op) (rD X.K f)) (ho':OpR X (compareOp op') (rD X.K f')) (hm:lastMarks [op,op'] [b,c]=false) (ha:DE X a ma) (hb:DE X b mb) (hc:DE X c mc) :
  DT X (.Compare a [op,op'] [b,c] pos) (Am (J1 f f' ma mb mc)):=by
 refine λloc mh=>Lb (gB ho ho' ha.x hb.x hc.x hm) ?_
 rintro σ H Q ⟨ρ,k,mh',q,rl,rs,co⟩;have q:=Dj q;exact Q5 ⟨loc,mh,ρ,_,_,q,rl,rs,λH' ρ' v e' rs' r'=>by cases r';exact ⟨k,rfl,co H' ρ' e' rs'⟩⟩
noncomputable def rDM (K:aj) (f:D->List D->MH->Option (D×MH)):V->List V->Hp->VK->Prop:=λx xs H Q=>∃ ρ mh dx ds d mh',f dx ds mh=some (d,mh')/\RS K H ρ mh/\RD K H ρ dx x/\RDs K H ρ ds xs/\Co K H ρ mh' d Q
noncomputable def S6 (T:String) (x:D) (mh:MH):Bool:=match x with
 | .str _=>T == "str"
 | .int _=>T == "int"
 | .ref n=>T == "list"&&(match mh[n]? with | some (.lst _)=>true | _=>false)
 | .tup _=>T == "tuple"
 | _=>false
theorem jK {K:aj}{H:Hp}{ρ:List Addr}{mh:MH}{T:String}{x:D}{v:V}(rs:RS K H ρ mh) (r:RD K H ρ x v) (h:S6 T x mh=true):tyV K T v H:=by
 cases r with
 | str z=>exact bw h
 | int i=>exact bw h
 | @ref n a hn =>
  have h:(T == "list"&&(match mh[n]? with | some (.lst _)=>true | _=>false))=true:=h;rw [aq] at h;obtain ⟨o,eo⟩:∃ o,mh[n]?=some (.lst o):=by
   have h:=h.2;split at h
   ·exact ⟨_,‹_›⟩
   ·cases h
  obtain ⟨a',ha,ro⟩:=rs.at eo;rw [hn] at ha;cases ha;obtain ⟨xs,sq,_⟩:=ro.read;exact .inl ⟨bw h.1,xs,sq⟩
 | tup s r=>exact .inr (.inl ⟨bw h,_,s⟩)
 | _=>cases h
noncomputable def Du (T:String) (f:D->List D->MH->Option (D×MH)) (mo:DM D) (mr:DM (List D)):DM D:=mo.bnd λx=>λloc mh=>if S6 T x mh=true then (mr.bnd λds=>Zl (f x ds)) loc mh else none
theorem Mw {T id:String}{name:Str}{apos:Pos}{es:List Expr}{mr:DM (List D)}{f:D->List D->MH->Option (D×MH)}(pa:PlainAttrs T) (slot:Slot T name id) (hty:typeOf (.builtin id)=pure (.type "method_descriptor")) (hm:MtR X id (rDM X.K f)) (ho:DE X o mo) (ha:DA X (a::es) mr)
  (hbase:attributeBase o name X.env (eval o X.env)=eval o X.env)
  (hfew:((backTo pos (starEach (a::es) X.env)).all (λx=>!x.1)&&(backToKw pos (keywordEach [] X.env)).all (λx=>x.1.isSome)
   && decide ((a::es).length+([]:List Keyword).length+(if ([]:List Keyword).isEmpty then 0 else 1) < 30))=true)
  (hline:(apos.endLine==pos.line)=true) (hs:starEach (a::es) X.env=(false,eval a X.env)::starEach es X.env) (hplain:(backTo pos (starEach es X.env)).any (·.1)=false) :
  DE X (.Call (.Attribute o name apos) (a::es) [] pos) (Du T f mo mr):=λloc mh=>by
 cases eo:mo loc mh with
 | none =>
  have:Du T f mo mr loc mh=none:=by unfold Du DM.bnd;rw [eo]
  rw [this];exact Ax
 | some p =>
  obtain ⟨x,m1⟩:=p;refine Ar (Adx pa slot hty hm (ho loc mh) (ha loc m1) hbase hfew hline hs hplain) ?_;rintro σ H Q ⟨ρ,d,mh',q,rl,rs,co⟩;obtain ⟨x',m1',eo',q⟩:=Ah q;rw [eo] at eo';cases eo';split at q
  ·rename_i ht;obtain ⟨ds,m2,er,q⟩:=Ah q;exact ⟨ρ,x,m1,eo,rl,rs,λH1 ρ1 v e1 rs1 r1=>⟨jK rs1 r1 ht,ρ1,ds,m2,er,rl.mono e1,rs1,λH2 ρ2 vs e2 rs2 r2=>⟨ρ2,m2,x,ds,d,mh',q,rs2,r1.mono e2,r2,co.ev (e1.trans e2)⟩⟩⟩
  ·cases q
theorem jL {T id:String}{name:Str}{apos:Pos}{f:D->List D->MH->Option (D×MH)}(pa:PlainAttrs T) (slot:Slot T name id) (hty:typeOf (.builtin id)=pure (.type "method_descriptor")) (hm:MtR X id (rDM X.K f)) (ho:DE X o mo)
  (hbase:attributeBase o name X.env (eval o X.env)=eval o X.env) (hline:(apos.endLine==pos.line)=true):DE X (.Call (.Attribute o name apos) [] [] pos) (Du T f mo (Zr [])):=λloc mh=>by
 refine Ar (Aae pa slot hty hm (ho loc mh) hbase hline) ?_;rintro σ H Q ⟨ρ,d,mh',q,rl,rs,co⟩;obtain ⟨x,m1,eo,q⟩:=Ah q;split at q
 ·rename_i ht;exact ⟨ρ,x,m1,eo,rl,rs,λH1 ρ1 v e1 rs1 r1=>⟨jK rs1 r1 ht,ρ1,m1,x,[],d,mh',q,rs1,r1,.nil,co.ev e1⟩⟩
 ·cases q
theorem tV {id:String}{r r':V->List V->Hp->VK->Prop}(h:MtR X id r) (i:∀ x xs H Q,r' x xs H Q->r x xs H Q):MtR X id r':=λpins s σ H x xs v us Q I rx rs q=>h pins s σ H x xs v us Q I rx rs (i x xs H Q q)
noncomputable def Fx:D->List D->MH->Option (D×MH)
 | .ref n,[y],mh=>match mh[n]? with
  | some (.lst ds)=>if ds.length < sizeLine then some (.non,mh.set n (.lst (ds++[y]))) else none
  | _=>none
 | _,_,_=>none
theorem Xg:MtR X "list.append" (rDM X.K Fx):=by
 refine tV bL ?_;rintro x xs H Q ⟨ρ,mh,dx,ds,d,mh',q,rs,rx,r,co⟩
 match ds,q with
 | [y],q =>
  obtain ⟨v,rfl,rv⟩:=Ik r;cases rx with
  | @ref n a hn =>
   have q:(match mh[n]? with | some (.lst ds)=>if ds.length < sizeLine then some (D.non,mh.set n (.lst (ds++[y]))) else none | _=>none)=some (d,mh'):=q;split at q
   ·rename_i ds em;split at q
    ·rename_i hz;cases q;obtain ⟨a',ha,us,hu,ru⟩:=rs.at em;rw [hn] at ha;cases ha;exact ⟨a,us,v,rfl,rfl,hu,by rw [← ru.length];exact hz,co _ ρ _ (Ev.lst hu) (rs.setL hn hu (ru.append (.cons rv .nil))) .non⟩
    ·cases q
   ·cases q
  | _=>cases q
 | [],q=>cases dx <;> cases q
 | _::_::_,q=>cases dx <;> cases q
noncomputable def Aa2:D->MH->Option (D×MH)
 | .int i,mh=>some (.int (-i),mh)
 | _,_=>none
theorem tW:UnR X (unaryOp .USub) (rD1 X.K Aa2):=by
 rintro pins s σ H x v Q I rx ⟨ρ,mh,dx,d,mh',q,rs,r1,co⟩;cases r1 with
 | int i=>cases q;exact zV pins s σ H _ v Q I rx ⟨i,rfl,co H ρ _ Ev.refl rs (.int _)⟩
 | _=>cases q
end
section
variable {P:Program}{w:World}
variable {A:Around}{E:Value->Shared->Prop}{s:Shared}
end
section
variable {P:Program}{w:World}{A:Around}{R:Result->Shared->Prop}{I:Addr}{fp wr:List Addr}{G:Array GenState->Array GenState->Prop}{n:Nat}{V:Nat->Value->Prop}{T:Nat->Shared->Prop}
end
section
variable {P:Program}{w:World}{A:Around}{E:Value->Shared->Prop}{s:Shared}
end
section
variable {P:Program}{w:World}{A:Around}{E:Value->Shared->Prop}{s:Shared}
noncomputable def jM (ns:List Int):List Int:=firstMet (λi=>ns.getD i 0) ns.length
end
section
variable {P:Program}{w:World}{A:Around}{E:Value->Shared->Prop}{s:Shared}
end
section
variable {P:Program}{w:World}{A:Around}{E:Value->Shared->Prop}
end
namespace SI
end SI
section
variable {P:Program}{w:World}{A:Around}{E:Value->Shared->Prop}{s:Shared}{a I:Addr}{o:Obj}{es:Array (Int×Value)}{ep n:Nat}{t:SetTable}{S:Int->Bool}
end
section
variable {P:Program}{w:World}{A:Around}{E:Value->Shared->Prop}{s:Shared}{a I:Addr}{o:Obj}{es:Array (Int×Value)}{ep n:Nat}{t:SetTable}{S:Int->Bool}
end
noncomputable def Aea (ns:List Int):List Int:=(jM ns).mergeSort λa b=>decide (a<=b)
theorem jN {l l':List Int}(p:l.Perm l') (h:l.Pairwise (·<=·)) (h':l'.Pairwise (·<=·)):l=l':=p.eq_of_pairwise (le:=(·<=·)) (λa b _ _ x y=>Int.le_antisymm x y) h h'
theorem Fz:∀ {us:List Value}{ns:List Int},IntsAre us ns->Vals (ns.map V.int) us
 | _,_,.nil=>.nil
 | _,_,.cons n t h=>.cons ⟨t,rfl⟩ (Fz h)
section
variable {X:Cx}
end
section
variable {P:Program}{w:World}{A:Around}{E:Value->Shared->Prop}{s:Shared}{a b:Addr}{o o':Obj}{es es':Array (Int×Value)}{ep n ep' n':Nat}{t t':SetTable}{S S':Int->Bool}
end
noncomputable def Aeb (ns ms:List Int):Bool:=ns.all (λk=>ms.contains k)&&ms.all λk=>ns.contains k
section
variable {P:Program}{w:World}{K:Type} [DecidableEq K] {knd:KeyKind P w K}{A:Around}{E:Value->Shared->Prop}{s:Shared}
end
section
variable {P:Program}{w:World}{K:Type} [DecidableEq K] {knd:KeyKind P w K}{A:Around}{E:Value->Shared->Prop}{s:Shared}
end
section
variable {P:Program}{w:World}{K:Type} [DecidableEq K] {knd:KeyKind P w K}
end
section
variable {P:Program}{w:World}{K:Type} [DecidableEq K] {knd:KeyKind P w K}{A:Around}{R:Result->Shared->Prop}{I:Addr}{fp wr:List Addr}{G:Array GenState->Array GenState->Prop}{n:Nat}{V:Nat->Value->Prop}{T:Nat->Shared->Prop}
end
section
variable {P:Program}{w:World}{K:Type} [DecidableEq K] {knd:KeyKind P w K}{A:Around}{E:Value->Shared->Prop}{s:Shared}
end
section
variable {X:Cx}
end
noncomputable def intsOf:List D->Option (List Int)
 | []=>some []
 | .int i::r=>match intsOf r with
  | some l=>some (i::l)
  | none=>none
 | _=>none
noncomputable def jO:D->MH->Option (List Int)
 | .ref n,mh=>match mh[n]? with
  | some (.lst o)=>intsOf o
  | _=>none
 | .rol ds,_=>intsOf ds
 | .tup ds,_=>intsOf ds
 | _,_=>none
theorem Dm:∀ {ds:List D}{ns:List Int},intsOf ds=some ns->ds=ns.map D.int
 | [],ns,h=>by cases h;rfl
 | d::r,ns,h=>by
  cases d with
  | int i =>
   have h:(match intsOf r with | some l=>some (i::l) | none=>none)=some ns:=h;split at h
   ·rename_i l e;cases h;rw [Dm e];rfl
   ·cases h
  | _=>cases h
section
variable {K:aj}{H:Hp}{ρ:List Addr}{mh:MH}
theorem Il {ns:List Int}{vs:List V}(h:RDs K H ρ (ns.map D.int) vs):vs=ns.map V.int:=by
 induction ns generalizing vs with
 | nil=>cases h;rfl
 | cons n r ih =>
  cases h with
  | cons a t=>cases a;rw [ih t];rfl
end
noncomputable def tX (x:D) (mh:MH):Option (D×MH):=match jO x mh with
 | some ns=>if ns.length < 4000 then some (.int (jM ns).length,mh) else none
 | none=>none
noncomputable def Aa3 (x y:D) (mh:MH):Option (D×MH):=match jO x mh,jO y mh with
 | some ns,some ms=>if ns.length < 4000/\ms.length < 4000 then some (.bl (Aeb ns ms),mh) else none
 | _,_=>none
section
variable {X:Cx}{a:Expr}{ma:DM D}{p p2 pos pos2:Pos}
noncomputable def jP (mx my:DM D):DM D:=mx.bnd λx=>my.bnd λy=>Zl (Aa3 x y)
end
section
variable {X:Cx}{pins:List (Addr×Obj)}{σ:L2.St}{H:Hp}{s:Shared}
theorem Vc (I:Inv X pins σ H s) {A:Around}(hh:A.handled=none) {p:Addr}{ys:List V}(hq:SqL X.K H p ys\/SqT X.K H p ys) {Q:Value->Shared->Prop}{E:Value->Shared->Prop}
  (h:∀ (its:List Value) (St:Nat->Heap->Prop) (h2:Heap),Vals ys its->Walks X.prog X.w A s.heap.objs.size [s.heap.objs.size,p] [s.heap.objs.size] its.length (λi v=>its[i]?=some v) St->St 0 h2 ->
   (∀ b∈[s.heap.objs.size,p],b < h2.objs.size)->(∀ b o,s.heap.get? b=some o->h2.get? b=some o)->Q (.ref s.heap.objs.size) { s with heap:=h2 }) :
  wpAny (model X.prog X.w) A (pyIter (.ref p)) Q E s:=by
 rcases hq with hq|hq
 ·obtain ⟨its,rv,pl,hz⟩:=I.list hq;have hlt:p < s.heap.objs.size:=by obtain ⟨_,_,e,_⟩:=pl;exact Heap.lt_size e
  refine JB pl.isList ?_;have W:=Walks.list (prog:=X.prog) (w:=X.w) hh s.heap.objs.size p (cj hlt) its.toArray;refine h its (λi h=>h.IsListIter s.heap.objs.size p i/\h.IsList p its.toArray) _ rv (by simpa using W) ⟨⟨_,bh _ rfl,rfl,rfl⟩,pl.isList.push _⟩ (λb hb=>?_) λb o e=>ao _ e
  rw [ir];simp at hb;rcases hb with e|e
  ·rw [e];exact jh _
  ·rw [e];exact jz hlt
 ·obtain ⟨its,rv,pl,hz⟩:=I.tuple hq;have pl:s.heap.IsTuple p its.toArray:=pl;have hlt:p < s.heap.objs.size:=by obtain ⟨_,e,_⟩:=id pl;exact Heap.lt_size e
  refine yd pl ?_;have W:=Walks.tuple (prog:=X.prog) (w:=X.w) hh s.heap.objs.size p (cj hlt) its.toArray;refine h its (λi h=>h.IsTupleIter s.heap.objs.size p i/\h.IsTuple p its.toArray) _ rv (by simpa using W) ⟨⟨_,bh _ rfl,rfl,rfl⟩,pl.push _⟩ (λb hb=>?_) λb o e=>ao _ e
  rw [ir];simp at hb;rcases hb with e|e
  ·rw [e];exact jh _
  ·rw [e];exact jz hlt
theorem Vd {h2 h':Heap}(hk:∀ b o,b ∉ [s.heap.objs.size]->h2.get? b=some o->h'.get? b=some o) (h1:∀ b o,s.heap.get? b=some o->h2.get? b=some o):∀ b o,s.heap.get? b=some o->h'.get? b=some o :=
 λb o e=>hk b o (λhm=>by rw [jw.mp hm] at e;exact jj _ (Heap.lt_size e)) (h1 b o e)
end
noncomputable def boolsOf:List D->Option (List Bool)
 | []=>some []
 | .bl i::r=>match boolsOf r with
  | some l=>some (i::l)
  | none=>none
 | _=>none
theorem Mx:∀ (ns:List Bool),boolsOf (ns.map D.bl)=some ns
 | []=>rfl
 | n::r=>by
  show (match boolsOf (r.map D.bl) with | some l=>some (n::l) | none=>none)=_;rw [Mx r]
theorem Ks:∀ {ds:List D}{ns:List Bool},boolsOf ds=some ns->ds=ns.map D.bl
 | [],ns,h=>by cases h;rfl
 | d::r,ns,h=>by
  cases d with
  | bl i =>
   have h:(match boolsOf r with | some l=>some (i::l) | none=>none)=some ns:=h;split at h
   ·rename_i l e;cases h;rw [Ks e];rfl
   ·cases h
  | _=>cases h
theorem bY {K:aj}{H:Hp}{ρ:List Addr}{ns:List Bool}{vs:List V}(h:RDs K H ρ (ns.map D.bl) vs):vs=ns.map V.bl:=by
 induction ns generalizing vs with
 | nil=>cases h;rfl
 | cons n r ih =>
  cases h with
  | cons a t=>cases a;rw [ih t];rfl
theorem Zt:∀ {bs:List Bool}{its:List Value},Vals (bs.map V.bl) its->its=bs.map Value.bool
 | [],_,.nil=>rfl
 | b::r,_,.cons h t=>by
  have h:_=Value.bool b:=h;rw [h,Zt t];rfl
theorem Ku:∀ {ns:List Int}{its:List Value}{i:Nat}{v:Value},Vals (ns.map V.int) its->its[i]?=some v->∃ n t,ns[i]?=some n/\v=.int n t
 | [],_,_,_,.nil,e=>by simp at e
 | n::r,_,0,_,.cons h t,e=>by
  obtain ⟨k,rfl⟩:=h;cases e;exact ⟨n,k,rfl,rfl⟩
 | n::r,_,i+1,_,.cons h t,e=>by
  obtain ⟨m,k,h1,h2⟩:=Ku (i:=i) t (by simpa using e);exact ⟨m,k,by simpa using h1,h2⟩
noncomputable def Kv (f:List Bool->Bool):List D->MH->Option (D×MH)
 | [x],mh=>match Dv x mh with
  | some ds=>match boolsOf ds with
   | some bs=>some (.bl (f bs),mh)
   | none=>none
  | none=>none
 | _,_=>none
theorem S7 {f:List Bool->Bool}{ds:List D}{mh mh':MH}{d:D}(h:Kv f ds mh=some (d,mh')):∃ x bs,ds=[x]/\Dv x mh=some (bs.map D.bl)/\d=.bl (f bs)/\mh'=mh:=by
 match ds,h with
 | [x],h =>
  have h:(match Dv x mh with | some ds=>(match boolsOf ds with | some bs=>some (D.bl (f bs),mh) | none=>none) | none=>none)=some (d,mh'):=h;split at h
  ·rename_i es e;split at h
   ·rename_i bs eb;cases h;rw [Ks eb] at e;exact ⟨x,bs,rfl,e,rfl,rfl⟩
   ·cases h
  ·cases h
 | [],h=>cases h
 | _::_::_,h=>cases h
noncomputable def bZ:List D->MH->Option (D×MH):=Kv λbs=>bs.all id
section
variable {X:Cx}
theorem jQ (hc:X.calm=true) {id:String}{f:List Bool->Bool}{dflt:Bool}{g:List Nat->(Nat->Bool)->Bool}(hg:∀ bs:List Bool,g (gw bs.length) (λi=>(bs[i]?).getD dflt)=f bs)
  (call_w:∀ {A:Around} {x:Value} {Q:Value->Shared->Prop} {E:Value->Shared->Prop} {s:Shared},wpAny (model X.prog X.w) A.in1 (pyIter x) (λit s₂=>∃ I fp wr n P St tr,it=.ref I/\Walks X.prog X.w A.in1 I fp wr n P St/\St 0 s₂.heap/\TruthOf X.prog X.w A.in1 P tr /\
   ∀ h' tk,(∀ b o,b ∉ wr->s₂.heap.get? b=some o->h'.get? b=some o)->Q (.bool (g (gw n) tr)) { s₂ with heap:=h',toks:=tk }) E s->wpAny (model X.prog X.w) A (call (.builtin id) [x]) Q E s) :
  Ay X (.builtin id) (rDs X.K (Kv f)):=by
 rintro pins s σ H xs us Q I r ⟨ρ,mh,ds,d,mh',q,rs,rd,co⟩;obtain ⟨x,bs,rfl,e,rfl,rfl⟩:=S7 q;obtain ⟨v,rfl,rx⟩:=Ik rd;obtain ⟨u,rfl,ru⟩:=vals1 r;obtain ⟨p,ys,rfl,hq,ry⟩:=Jf rs rx e;cases ru;rw [bY ry] at hq;refine call_w (Vc I (A:=X.A.in1) (I.ok.hd hc) hq λits St h2 rv W st _ hk=>?_);have ei:=Zt rv;refine ⟨_,_,_,its.length,_,St,λi=>(bs[i]?).getD dflt,rfl,W,st,λi v s' Q' E' hP hQ=>?_,λh' tk hk'=>?_⟩
 ·rw [ei,gb] at hP;cases eb:bs[i]? with
  | none=>rw [eb] at hP;cases hP
  | some b =>
   rw [eb] at hP;cases hP;simp only [eb,Option.getD_some] at hQ;exact mq hQ
 ·have e2:its.length=bs.length:=by rw [ei,fu]
  rw [e2,hg bs];exact ⟨.bl _,H,I.kept (t':=tk) (Vd hk' hk),rfl,co H ρ _ Ev.refl rs (.bl _)⟩
theorem cA (hc:X.calm=true):Ay X (.builtin "all") (rDs X.K bZ):=jQ (dflt:=true) hc (g:=λl f=>l.all f) (λbs=>LSm.range_all bs) λh=>call_all_walk h
end
noncomputable def Jl:Int->List Int->Int
 | m,[]=>m
 | m,x::r=>Jl (if m < x then x else m) r
noncomputable def Jm:Int->List Int->Int
 | m,[]=>m
 | m,x::r=>Jm (if x < m then x else m) r
theorem Kw (bt:Nat->Nat->Bool) (f:Int->List Int->Int) (ns:List Int) (b:Int->Int->Bool) (hb:∀ i j x y,ns[i]?=some x->ns[j]?=some y->bt i j=b x y) (f0:∀ m,f m []=m) (f1:∀ m l x,f m (l++[x])=if b x (f m l)=true then x else f m l) :
  ∀ (k:Nat) (h:k < ns.length),∀ m r,ns=m::r->ns[argBest bt k]?=some (f m (r.take k))
 | 0,h,m,r,e=>by
  subst e;simp [argBest,f0]
 | k+1,h,m,r,e=>by
  have ih:=Kw bt f ns b hb f0 f1 k (by omega) m r e;have hk:k < r.length:=by rw [e,fj] at h;omega
  have e1:ns[k+1]?=some r[k]:=by rw [e,LC,gq hk]
  have e2:r.take (k+1)=r.take k++[r[k]]:=by rw [List.take_add_one,gq hk];rfl
  have e3:=hb (k+1) (argBest bt k) _ _ e1 ih;rw [e2,f1];unfold argBest;rw [e3];split
  ·exact e1
  ·exact ih
theorem Q6:∀ (l:List Int) (m x:Int),Jl m (l++[x])=if decide (Jl m l < x)=true then x else Jl m l
 | [],m,x=>by by_cases h:m < x <;> simp [Jl,h]
 | y::l,m,x=>by
  show Jl _ (l++[x])=_;rw [Q6 l];rfl
theorem Q7:∀ (l:List Int) (m x:Int),Jm m (l++[x])=if decide (x < Jm m l)=true then x else Jm m l
 | [],m,x=>by by_cases h:x < m <;> simp [Jm,h]
 | y::l,m,x=>by
  show Jm _ (l++[x])=_;rw [Q7 l];rfl
noncomputable def S8 (f:Int->List Int->Int):List D->MH->Option (D×MH)
 | [x],mh=>match Dv x mh with
  | some ds=>match intsOf ds with
   | some (n::r)=>some (.int (f n r),mh)
   | _=>none
  | none=>none
 | _,_=>none
theorem Ve {f:Int->List Int->Int}{ds:List D}{mh mh':MH}{d:D}(h:S8 f ds mh=some (d,mh')):∃ x n r,ds=[x]/\Dv x mh=some ((n::r).map D.int)/\d=.int (f n r)/\mh'=mh:=by
 match ds,h with
 | [x],h =>
  have h:(match Dv x mh with | some ds=>(match intsOf ds with | some (n::r)=>some (D.int (f n r),mh) | _=>none) | none=>none)=some (d,mh'):=h;split at h
  ·rename_i es e;split at h
   ·rename_i n r eb;cases h;rw [Dm eb] at e;exact ⟨x,n,r,rfl,e,rfl,rfl⟩
   ·cases h
  ·cases h
 | [],h=>cases h
 | _::_::_,h=>cases h
noncomputable def maxD:List D->MH->Option (D×MH):=S8 Jl
noncomputable def minD:List D->MH->Option (D×MH):=S8 Jm
section
variable {X:Cx}
theorem Zu (hc:X.calm=true) {id:String}{f:Int->List Int->Int}{op:CmpOp}{b:Int->Int->Bool}(f0:∀ m,f m []=m) (f1:∀ m l x,f m (l++[x])=if b x (f m l)=true then x else f m l)
  (cmp:∀ {A:Around} {x y:Int} {t u:Tok} {Q:Value->Shared->Prop} {E:Value->Shared->Prop} {s:Shared},Q (.bool (b x y)) s->wpAny (model X.prog X.w) A (richCompare op (.int x t) (.int y u)) Q E s)
  (call_w:∀ {A:Around} {x:Value} {Q:Value->Shared->Prop} {E:Value->Shared->Prop} {s:Shared},wpAny (model X.prog X.w) A.in1 (pyIter x) (λit s₂=>∃ I fp wr n P St bt,it=.ref I/\Walks X.prog X.w A.in1 I fp wr n P St/\St 0 s₂.heap/\(∀ b∈fp,b < s₂.heap.objs.size)/\0 < n/\CmpOf X.prog X.w A.in1 op P bt /\
   ∀ v h' tk,P (argBest bt (n - 1)) v->(∀ b o,b ∉ wr->s₂.heap.get? b=some o->h'.get? b=some o)->Q v { s₂ with heap:=h',toks:=tk }) E s->wpAny (model X.prog X.w) A (call (.builtin id) [x]) Q E s) :
  Ay X (.builtin id) (rDs X.K (S8 f)):=by
 rintro pins s σ H xs us Q I r ⟨ρ,mh,ds,d,mh',q,rs,rd,co⟩;obtain ⟨x,n,l,rfl,e,rfl,rfl⟩:=Ve q;obtain ⟨v,rfl,rx⟩:=Ik rd;obtain ⟨u,rfl,ru⟩:=vals1 r;obtain ⟨p,ys,rfl,hq,ry⟩:=Jf rs rx e;cases ru;rw [Il ry] at hq;refine call_w (Vc I (A:=X.A.in1) (I.ok.hd hc) hq λits St h2 rv W st hfp hk=>?_);have hlen:(n::l).length=its.length:=by have:=rv.length;simpa using this
 refine ⟨_,_,_,its.length,_,St,λi j=>(match (n::l)[i]?,(n::l)[j]? with | some x,some y=>b x y | _,_=>false),rfl,W,st,hfp,by rw [← hlen];simp,λi j vi vj s' Q' E' hi hj hQ=>?_,λv h' tk hP hk'=>?_⟩
 ·obtain ⟨a,t,e1,rfl⟩:=Ku rv hi;obtain ⟨a',t',e2,rfl⟩:=Ku rv hj;simp only [e1,e2] at hQ;exact cmp hQ
 ·have ar:=Kw (λi j=>(match (n::l)[i]?,(n::l)[j]? with | some x,some y=>b x y | _,_=>false)) f (n::l) b (λi j x y e1 e2=>by simp only [e1,e2]) f0 f1 (its.length - 1) (by rw [hlen];simp at hlen;omega) n l rfl;obtain ⟨a,t,e1,rfl⟩:=Ku rv hP;rw [ar] at e1;have e3:l.take (its.length - 1)=l:=List.take_of_length_le (by rw [← hlen];simp);rw [e3] at e1;cases e1;exact ⟨.int _,H,I.kept (t':=tk) (Vd hk' hk),⟨t,rfl⟩,co H ρ _ Ev.refl rs (.int _)⟩
end
section
variable {X:Cx}
theorem cB (hc:X.calm=true):Ay X (.builtin "max") (rDs X.K maxD):=Zu (op:=.Gt) (b:=λx m=>decide (m < x)) hc (λ_=>rfl) (λm l x=>Q6 l m x) (λh=>PyProof.Rows.gt_int h) λh=>call_max_walk h
theorem cC (hc:X.calm=true):Ay X (.builtin "min") (rDs X.K minD):=Zu (op:=.Lt) (b:=λx m=>decide (x < m)) hc (λ_=>rfl) (λm l x=>Q7 l m x) (λh=>PyProof.Rows.lt_int h) λh=>call_min_walk h
end
section
variable {X:Cx}{pins:List (Addr×Obj)}{σ:L2.St}{H:Hp}{s:Shared}{fp:List Addr}{h':Heap}
theorem Q8 {t':Nat}(I:Inv X pins σ H s) (k:∀ b o,b ∉ fp->s.heap.get? b=some o->h'.get? b=some o) (hf:∀ b∈fp,Kh X pins H b):Inv X pins σ H { s with heap:=h',toks:=t' }:=by
 have nf:∀ b u,H b=some u->b ∉ fp:=λb u e z=>by rw [(hf b z).1] at e;cases e
 refine I.step (g':=s.gens) (d':=s.drawn) (ch:=fp) (λb hb=>⟨(hf b hb).2.2.2.1,(hf b hb).2.1,(hf b hb).2.2.2.2.1,(hf b hb).2.2.2.2.2⟩) (λb o _ _ hc e _=>k b o hc e) (λb o _ _ hc e _=>⟨o.slots,k b o hc e⟩) (λ_ _ _ _ n=>n)
  (λb o hc e=>⟨o,k b o hc e⟩) (λ_ _ e=>e) (λ_ _ _ e=>e) (λb ps e=>⟨#[],by rw [e];simp⟩) (λm hm=>?_) (λb u e=>?_) I.bare
 ·obtain ⟨o,es,ep,ho,r⟩:=hm;exact ⟨o,es,ep,k _ o (λz=>(hf _ z).2.1 rfl) ho,r⟩
 ·refine (I.hok b u e).stay (λc v hc q=>k c v ?_ q) (λ_ q=>q) λ_ _ q=>q
  rcases hc with z|z
  ·rw [z];exact nf b u e
  ·exact nf c _ z
theorem Js {t':Nat}{a:Addr}{o:HO}(I:Inv X pins σ H s) (k:∀ b o,b ∉ fp->s.heap.get? b=some o->h'.get? b=some o) (hf:∀ b∈fp,Kh X pins H b) (hp:s.heap.objs.size<=a) (new:Bx X.prog X.w (upd H a o) h' a o) :
  Inv X pins σ (upd H a o) { s with heap:=h',toks:=t' }:=by
 have hn:H a=none:=I.hok.fresh hp;have nb:∀ b u,H b=some u->upd H a o b=some u:=λb u e=>by rw [Ad (Ae e hn)];exact e
 have nf:∀ b u,H b=some u->b ∉ fp:=λb u e z=>by rw [(hf b z).1] at e;cases e
 refine I.step (g':=s.gens) (d':=s.drawn) (ch:=fp) (λb hb=>⟨(hf b hb).2.2.2.1,(hf b hb).2.1,(hf b hb).2.2.2.2.1,(hf b hb).2.2.2.2.2⟩) (λb o _ _ hc e _=>k b o hc e) (λb o _ _ hc e _=>⟨o.slots,k b o hc e⟩) (λb o' hc e n=>?_)
  (λb o hc e=>⟨o,k b o hc e⟩) (λb xs e=>nb _ _ e) (λb o u e=>nb _ _ e) (λb ps e=>⟨#[],by rw [nb _ _ e];simp⟩) (λm hm=>?_) (λb u e=>?_) I.bare
 ·rw [Ad (cj (di (Heap.lt_size e) hp))];exact n
 ·obtain ⟨o,es,ep,ho,r⟩:=hm;exact ⟨o,es,ep,k _ o (λz=>(hf _ z).2.1 rfl) ho,r⟩
 ·by_cases hb:b=a
  ·subst hb;rw [Ag] at e;cases e;exact new
  ·rw [Ad hb] at e;refine (I.hok b u e).stay (λc v hc q=>k c v ?_ q) (λc q=>nb _ _ q) λc xs q=>nb _ _ q
   rcases hc with z|z
   ·rw [z];exact nf b u e
   ·exact nf c _ z
end
section
variable {prog:Program}{w:World}{A:Around}{E:Value->Shared->Prop}{s:Shared}
theorem Vf {it l:Addr}{i:Nat}{items:Array Value}{x:Value}{Q:Value->Shared->Prop}(hit:s.heap.IsTupleIter it l i) (hl:s.heap.IsTuple l items) (hx:items[i]?=some x)
  (hQ:∀ h',h'.IsTupleIter it l (i+1)->vz it s.heap h'->Q x { s with heap:=h' }):wpAny (model prog w) A (jd (.ref it)) Q E s:=by
 obtain ⟨o,ho,hc,hd⟩:=id hit;obtain ⟨ol,hol,_,nl,hdl⟩:=hl;unfold jd
 refine ak (jt (name:=Str.ofString "__next__") hit.typeIs vf (qb vf hit.typeIs HB ?_ (GP _)));show wpAny _ _ (field (.ref it) 0 >>= _) _ _ s;refine ak (jx ho hd (x:=.ref l) rfl ?_);show wpAny _ _ (if (Value.ref l==Value.none)=true then _ else _) _ _ s;rw [if_neg (show ¬ ((Value.ref l==Value.none)=true) from iu)];show wpAny _ _ (field (.ref it) 1 >>= _) _ _ s;refine ak (jx ho hd (x:=.int i 0) rfl ?_);show wpAny _ _ (seqItems? (.ref l) >>= _) _ _ s;refine ak (qg hol hdl ?_);simp only [CJ,hx];refine ak (wpAny_setField ho hd (by simp) (bf ⟨x,rfl,bf (hQ _ ⟨_,DQ _ ho (Obj.isFreed_of_fields (TV hd _)),(Obj.cls_mapFields ..).trans hc,?_⟩ (RM ..))⟩));rw [TV hd];simp [rawInt]
theorem Vg {it l:Addr}{i:Nat}{items:Array Value}{Q:Value->Shared->Prop}(hh:A.handled=none) (hit:s.heap.IsTupleIter it l i) (hl:s.heap.IsTuple l items) (hx:items[i]?=none)
  (hE:∀ h' e,Heap.ExtBut it s.heap h'->(∃ o,h'.get? e=some o/\o.cls=.type "StopIteration")->E (.ref e) { s with heap:=h' }):wpAny (model prog w) A (jd (.ref it)) Q E s:=by
 obtain ⟨o,ho,hc,hd⟩:=id hit;obtain ⟨ol,hol,_,nl,hdl⟩:=hl;unfold jd
 refine ak (jt (name:=Str.ofString "__next__") hit.typeIs vf (qb vf hit.typeIs HB ?_ (GP _)));show wpAny _ _ (field (.ref it) 0 >>= _) _ _ s;refine ak (jx ho hd (x:=.ref l) rfl ?_);show wpAny _ _ (if (Value.ref l==Value.none)=true then _ else _) _ _ s;rw [if_neg (show ¬ ((Value.ref l==Value.none)=true) from iu)];show wpAny _ _ (field (.ref it) 1 >>= _) _ _ s;refine ak (jx ho hd (x:=.int i 0) rfl ?_);show wpAny _ _ (seqItems? (.ref l) >>= _) _ _ s;refine ak (qg hol hdl ?_);simp only [CJ,hx]
 refine ak (EY (ak (wpAny_setField ho hd (by simp) ?_)));show wpAny _ _ (newExc (.type "StopIteration") [] >>= _) _ _ _;refine ak ?_;simp only [newExc,newTuple];refine ak (jy ?_ (by size_fits));refine ak (m:=firstArgMember _ _) (wpAny_of_eq (a:=Value.none) (by first | rfl | (simp only [firstArgMember];rfl)) ?_);refine jy ?_ (by size_fits);simp only [raiseNew];refine ak (wpAny_handled ?_);first | rw [show A.in1.handled=none from hh] | rw [hh]
 refine ak (bf (wpAny_throw (hE _ _ (((RM ..).extBut.push _).push _) ⟨_,bh _ rfl,rfl⟩)))
theorem cD (hh:A.handled=none) (it l:Addr) (hne:l≠it) (items:Array Value):Draws prog w A it [it,l] items.size (λi v=>items[i]?=some v) (λi h=>h.IsTupleIter it l i/\h.IsTuple l items) where
 live:=λ_ _ st=>let ⟨o,ho,_⟩:=st.1;⟨o,ho⟩
 frame:=λ_ _ _ st hk=>⟨let ⟨o,ho,r⟩:=st.1;⟨o,hk it (by simp) o ho,r⟩,let ⟨o,ho,r⟩:=st.2;⟨o,hk l (by simp) o ho,r⟩⟩
 item:=λi s Q E hi st hQ=>Vf st.1 st.2 (x:=items[i]) (by simp [hi]) λh' hit' hs'=>hQ _ h' s.toks (by simp [hi]) ⟨hit',st.2.extBut hs'.extBut hne⟩ hs'
 done:=λs Q E st hE=>Vg hh st.1 st.2 (by simp) hE
end
theorem k_ne {X:Cx}{pins:List (Addr×Obj)}{σ:L2.St}{H:Hp}{s:Shared}{a b:Addr}{o:Obj}(I:Inv X pins σ H s) (e:X.K.lookup a=some o) (f:Kh X pins H b):a≠b:=λz=>by
 have hb:=I.ok.mod.kin a o e;rcases f.2.2.2.1 with q|q
 ·exact I.ok.noex a o hb (z ▸ q)
 ·have h1:a < X.base.objs.size:=Heap.lt_size hb;have h2:=I.ok.bsz;have h3:X.s₀.heap.objs.size<=a:=z ▸ q;exact absurd (di h1 h2) (Nat.not_lt.mpr h3)
theorem xU {H:Hp}{a b:Addr}{u:HO}(h:Rd H a u) (f:H b=none):a≠b:=λz=>by
 rcases h with h | ⟨o,h⟩ <;> (rw [z,f] at h;cases h)
structure SeqK where
 sq:aj->Hp->Addr->List V->Prop
 isIt:Heap->Addr->Addr->Nat->Prop
 isSeq:Heap->Addr->Array Value->Prop
 cls:String
 get:∀ {X:Cx} {pins:List (Addr×Obj)} {σ:L2.St} {H:Hp} {s:Shared} {a:Addr} {xs:List V},Inv X pins σ H s->sq X.K H a xs->∃ its:List Value,Vals xs its/\isSeq s.heap a its.toArray/\xs.length<=sizeLine
 inj:∀ {X:Cx} {pins:List (Addr×Obj)} {σ:L2.St} {H:Hp} {s:Shared} {a:Addr} {xs ys:List V},Inv X pins σ H s->sq X.K H a xs->sq X.K H a ys->xs=ys
 itO:∀ {h:Heap} {it l:Addr} {i:Nat},isIt h it l i->∃ o,h.get? it=some o/\o.cls=.type cls/\∃ vs,o.data=.fields vs
 itK:∀ {h h':Heap} {it l:Addr} {i:Nat},isIt h it l i->(∀ o,h.get? it=some o->h'.get? it=some o)->isIt h' it l i
 seqO:∀ {h:Heap} {l:Addr} {items:Array Value},isSeq h l items->∃ o,h.get? l=some o/\∃ n,o.data=.seq items n
 seqK:∀ {h h':Heap} {l:Addr} {items:Array Value},isSeq h l items->(∀ o,h.get? l=some o->h'.get? l=some o)->isSeq h' l items
 draws:∀ {prog:Program} {w:World} {A:Around},A.handled=none->∀ (it l:Addr),l≠it->∀ (items:Array Value),Draws prog w A it [it,l] items.size (λi v=>items[i]?=some v) (λi h=>isIt h it l i/\isSeq h l items)
 iter:∀ {prog:Program} {w:World} {A:Around} {E:Value->Shared->Prop} {s:Shared} {l:Addr} {items:Array Value} {Q:Value->Shared->Prop},isSeq s.heap l items ->
  Q (.ref s.heap.objs.size) { s with heap:=s.heap.push { cls:=.type cls,data:=.fields #[.ref l,.int 0 0] } }->wpAny (model prog w) A (pyIter (.ref l)) Q E s
 stop:∀ {prog:Program} {w:World} {A:Around} {E:Value->Shared->Prop} {s:Shared} {it l:Addr} {i:Nat} {items:Array Value} {Q:Value->Shared->Prop},A.handled=none->isIt s.heap it l i->isSeq s.heap l items->items[i]?=none ->
  (∀ h' e,Heap.ExtBut it s.heap h'->(∃ o,h'.get? e=some o/\o.cls=.type "StopIteration")->E (.ref e) { s with heap:=h' })->wpAny (model prog w) A (jd (.ref it)) Q E s
 next:∀ {prog:Program} {w:World} {A:Around} {E:Value->Shared->Prop} {s:Shared} {it l:Addr} {i:Nat} {items:Array Value} {x:Value} {Q:Value->Shared->Prop},isIt s.heap it l i->isSeq s.heap l items->items[i]?=some x ->
  (∀ h',isIt h' it l (i+1)->vz it s.heap h'->Q x { s with heap:=h' })->wpAny (model prog w) A (jd (.ref it)) Q E s
 ne:∀ {X:Cx} {pins:List (Addr×Obj)} {σ:L2.St} {H:Hp} {s:Shared} {a b:Addr} {xs:List V},Inv X pins σ H s->sq X.K H a xs->Kh X pins H b->a≠b
 new:∀ (h:Heap) (l:Addr),isIt (h.push { cls:=.type cls,data:=.fields #[.ref l,.int 0 0] }) h.objs.size l 0
noncomputable def Xh:SeqK where
 sq:=SqL
 isIt:=λh it l i=>h.IsListIter it l i
 isSeq:=λh l its=>h.IsList l its
 cls := "list_iterator"
 get:=λI h=>let ⟨its,r,p,z⟩:=I.list h;⟨its,r,p.isList,z⟩
 inj:=λI h h'=>I.list_inj h h'
 itO:=λ⟨o,e,c,d⟩=>⟨o,e,c,_,d⟩
 itK:=λst k=>st.at k
 seqO:=λ⟨o,e,_,n,d⟩=>⟨o,e,n,d⟩
 seqK:=λ⟨o,e,r⟩ k=>⟨o,k o e,r⟩
 draws:=λhh it l hne items=>Draws.list hh it l hne items
 iter:=λhs q=>JB hs q
 stop:=λhh a b c d=>wpAny_nextOf_list_end hh a b c d
 next:=λa b c d=>wpAny_nextOf_list_item a b c d
 ne:=λI h f=>by
  rcases h with h|⟨o,its,n,hk,_⟩
  ·exact xU h f.1
  ·exact k_ne I hk f
 new:=λh l=>⟨_,bh _ rfl,rfl,rfl⟩
noncomputable def Aa4:SeqK where
 sq:=SqT
 isIt:=λh it l i=>h.IsTupleIter it l i
 isSeq:=λh l its=>h.IsTuple l its
 cls := "tuple_iterator"
 get:=λI h=>let ⟨its,r,p,z⟩:=I.tuple h;⟨its,r,p,z⟩
 inj:=λI h h'=>I.tuple_inj h h'
 itO:=λ⟨o,e,c,d⟩=>⟨o,e,c,_,d⟩
 itK:=λ⟨o,e,r⟩ k=>⟨o,k o e,r⟩
 seqO:=λ⟨o,e,_,n,d⟩=>⟨o,e,n,d⟩
 seqK:=λ⟨o,e,r⟩ k=>⟨o,k o e,r⟩
 draws:=λhh it l hne items=>cD hh it l hne items
 iter:=λhs q=>yd hs q
 stop:=λhh a b c d=>Vg hh a b c d
 next:=λa b c d=>Vf a b c d
 ne:=λI h f=>by
  rcases h with h|⟨o,its,n,hk,_⟩
  ·exact xU h f.1
  ·exact k_ne I hk f
 new:=λh l=>⟨_,bh _ rfl,rfl,rfl⟩
noncomputable def Ite (k:SeqK) (K:aj) (a:Addr):It :=
 ⟨λi H=>∃ xs x,k.sq K H a xs/\xs[i]?=some x,λi H y H'=>∃ T x,H T=none/\y=.ref T/\(∀ xs,k.sq K H a xs->xs[i]?=some x)/\H'=upd H T (.tup [.int i,x]),λi H=>∃ xs,k.sq K H a xs/\xs.length<=i⟩
theorem Aa5 {k:SeqK}{h:Heap}{it l:Addr}{i:Nat}{items:Array Value}(a:k.isIt h it l i) (b:k.isSeq h l items):l≠it:=λz=>by
 obtain ⟨o,e,c,vs,d⟩:=k.itO a;obtain ⟨o',e',n,d'⟩:=k.seqO b;rw [z,e] at e';cases e';rw [d] at d';cases d'
theorem cF {P:Program}{w:World}{K:aj}(k:SeqK) {elts:List Expr}{kk:Nat}{tp:Pos}(a e it:Addr) (hne:e≠it):Turn P w K (.Tuple elts kk tp) (Ite k K a) [e,it] e (λi h=>(∃ old,IsEnum h e it i old)/\k.isIt h it a i) where
 mem:=by simp
 obj:=λi h st b hb=>by
  have hb:b=e\/b=it:=by simpa using hb
  rcases hb with rfl|rfl
  ·obtain ⟨old,q⟩:=st.1
   exact ⟨_,q,λv z=>by
    have z':Data.fields _=Data.cell v:=z
    cases z'⟩
  ·obtain ⟨o,q,c,vs,d⟩:=k.itO st.2;exact ⟨o,q,λv z=>by rw [d] at z;cases z⟩
 keep:=λi h h' st kp=>⟨let ⟨old,q⟩:=st.1;⟨old,kp e (by simp) _ q⟩,k.itK st.2 λo q=>kp it (by simp) o q⟩
 item:=by
  intro X hP hw hK hc i pins s σ H E I hf st hg;subst hP hw hK;obtain ⟨xs,x,hq,hx⟩:=hg;obtain ⟨its,rv,p,hz⟩:=k.get I hq;obtain ⟨u,hu,ru⟩:=rv.get hx;obtain ⟨⟨old,he⟩,hit⟩:=st;have hae:a≠e:=λz=>by
   obtain ⟨o',e',n,d'⟩:=k.seqO p;rw [z,he] at e';cases e';cases d'
  have hai:=Aa5 hit p;have D:=k.draws (prog:=X.prog) (w:=X.w) (A:=X.A.in1) (I.ok.hd hc) it a hai its.toArray;have hi:i < its.toArray.size:=by rw [cg];exact (dh.mp hu).1
  refine wpAny_pyNext_enum_itemD D he ⟨hit,p⟩ hi hne (by simp [hne,hae.symm]) λy h1 tk hy ho st1 hT _ hk=>?_
  have ey:y=u:=by
   have hy':its[i]?=some y:=by simpa using hy
   rw [hu] at hy';cases hy';rfl
  subst ey;refine ⟨_,rfl,wpAny_letOwnedTupleGo_enum ho λh2 he2 hs2=>?_⟩;have elt:e < s.heap.objs.size:=Heap.lt_size he;have ilt:it < s.heap.objs.size:=by
   obtain ⟨o,q,_⟩:=k.itO hit;exact Heap.lt_size q
  have hT2:K9 h2 s.heap.objs.size #[.int i tk,y]:=⟨_,hs2.extBut _ _ (jo elt) hT,rfl,rfl,_,rfl⟩;have nb:∀ b,b ∉ [e,it]->b≠e/\b≠it:=λb hb=>by simpa using hb
  have I2:Inv X pins σ (upd H s.heap.objs.size (.tup [.int i,x])) { s with heap:=h2,toks:=tk+1 }:=Js (fp:=[e,it]) I (λb o hb q=>hs2.extBut b o (nb b hb).1 (hk b o (nb b hb).1 (nb b hb).2 q)) hf (bx _) ⟨by simp [ji],[.int i tk,y],.cons ⟨tk,rfl⟩ (.cons ru .nil),hT2⟩;refine ⟨.ref s.heap.objs.size,_,I2,rfl,⟨s.heap.objs.size,x,I.hok.fresh (bx _),rfl,λys hy=>by rw [k.inj I hy hq];exact hx,rfl⟩,⟨⟨_,by simpa using he2⟩,k.itK st1.1 λo q=>hs2.extBut _ _ hne.symm q⟩,λb hb=>?_⟩;rw [Ad ?_]
  ·exact (hf b hb).1
  ·intro z;have hb:b=e\/b=it:=by simpa using hb
   rcases hb with q|q
   ·rw [q] at z;exact absurd z (cj elt)
   ·rw [q] at z;exact absurd z (cj ilt)
 done:=by
  intro X hP hw hK hc i pins s σ H E I hf st hg;subst hP hw hK;obtain ⟨xs,hq,hx⟩:=hg;obtain ⟨its,rv,p,hz⟩:=k.get I hq;obtain ⟨⟨old,he⟩,hit⟩:=st;have hl:=rv.length
  have hT:s.TypeIs (.ref e) "enumerate":=⟨_,he,rfl⟩
  unfold pyNext
  refine ak (QV (jt (name:=Str.ofString "__next__") hT PK (qb PK hT F.entry_enumerate_next ?_ (F.args_enumerate_next_1 _))));show wpAny _ _ (field (.ref e) 2 >>= _) _ _ _;refine ak (jx he rfl (x:=.ref it) rfl ?_);refine ak (k.stop (A:=X.A.in1) (I.ok.hd hc) hit p (by simp;omega) λh' x he' hx'=>?_);obtain ⟨o,ho,hcl⟩:=hx'
  refine ak (CT (T := "StopIteration") (b:=true) ⟨o,ho,hcl⟩ isSubtype_stop (bf ⟨rfl,?_⟩));exact Q8 (t':=s.toks) (fp:=[e,it]) I (λb o hb q=>he' b o (λz=>hb (by simp [z])) q) hf
 self:=λ_ i s Q E st h=>by
  obtain ⟨⟨old,he⟩,_⟩:=st;exact VJ he h
set_option maxHeartbeats 8000000 in
theorem Vh (l:Addr) (items:Array Value) (n:Nat) (dct:Option Addr) (sl:Array (Option Value)) :
    Meets (Builtin.«enumerate.__new__» ⟨[.type "enumerate",.ref l],[]⟩) (λ_ R s=>s.heap.get? l=some { cls:=.type "tuple",dict:=dct,data:=.seq items n,slots:=sl } /\
      R (.ok (.ret (.ref (s.heap.push { cls:=.type "tuple_iterator",data:=.fields #[.ref l,.int 0 0] }).objs.size)))
        { s with heap:=(s.heap.push { cls:=.type "tuple_iterator",data:=.fields #[.ref l,.int 0 0] }).push { cls:=.type "enumerate",data:=.fields #[.none,.bool false,.ref s.heap.objs.size,rawInt 0,.none,.none] } }) :=
  .of_wp λprog w A R s h=>by
    obtain ⟨hp,g,d,tk,os⟩:=s;obtain ⟨hl,h⟩:=h;have hsub:=sub_enumerate;have hL:Heap.IsTuple (Shared.heap ⟨hp,g,d,tk,os⟩) l items:=⟨_,hl,rfl,n,rfl⟩;wp_walk using AutoSeq1.wpAny_loadPart' hl
    refine wpAny_stack_any λst=>bf ?_;split
    · rename_i c _ _ _ _ _
      cases (c==Value.type "enumerate") <;> (wp_walk using AutoSeq1.wpAny_loadPart' hl,yd hL;exact ⟨_,rfl,h⟩)
    · (wp_walk using AutoSeq1.wpAny_loadPart' hl,yd hL;exact ⟨_,rfl,h⟩)
section
variable {prog:Program}{w:World}{A:Around}{E:Value->Shared->Prop}{s:Shared}
theorem cG {l:Addr}{items:Array Value}{Q:Value->Shared->Prop}(hL:s.heap.IsTuple l items)
  (h:∀ h',IsEnum h' (s.heap.objs.size+1) s.heap.objs.size 0 .none->h'.IsTupleIter s.heap.objs.size l 0->h'.objs.size=s.heap.objs.size+2->(∀ b o,s.heap.get? b=some o->h'.get? b=some o)->Q (.ref (s.heap.objs.size+1)) { s with heap:=h' }) :
  wpAny (model prog w) A (call (.type "enumerate") [.ref l]) Q E s:=by
 obtain ⟨⟨c,dct,dt,sl⟩,hl,hc,n,hd⟩:=hL
 replace hc:c=.type "tuple":=hc
 replace hd:dt=.seq items n:=hd
 subst hc hd;refine TY F.called_enumerate (by decide) (F.typeCall_enumerate_1 _) (F.newCall_enumerate_1 _) (λobj=>QH obj _) F.entry_enumerate_new (Vh l items n dct sl) ⟨hl,?_⟩
 have hz:(s.heap.push { cls:=.type "tuple_iterator",data:=.fields #[.ref l,.int 0 0] }).objs.size=s.heap.objs.size+1:=ir ..;show _/\_;rw [hz]
 have he:IsEnum ((s.heap.push { cls:=.type "tuple_iterator",data:=.fields #[.ref l,.int 0 0] }).push { cls:=.type "enumerate",data:=.fields #[.none,.bool false,.ref s.heap.objs.size,rawInt 0,.none,.none] }) (s.heap.objs.size+1) s.heap.objs.size 0 .none:=by
  have:=bh (s.heap.push { cls:=.type "tuple_iterator",data:=.fields #[.ref l,.int 0 0] }) (o:={ cls:=.type "enumerate",data:=.fields #[.none,.bool false,.ref s.heap.objs.size,rawInt 0,.none,.none] }) rfl;rw [hz] at this;exact this
 refine ⟨⟨_,he,rfl⟩,h _ he ⟨_,ao _ (bh _ rfl),rfl,rfl⟩ (by rw [ir,hz]) λb o x=>ao _ (ao _ x)⟩
end
structure SR (k:SeqK) (K:aj) (H0:Hp) (ρ0:List Addr) (src:Src) (a:Addr):Prop where
 rd:∀ H ρ mh,Ev K H0 ρ0 H ρ->RS K H ρ mh->src.ok mh=true->∃ xs,k.sq K H a xs/\RDs K H ρ (src.items mh) xs
 ok:∀ (mh:MH) (i:Nat) (d:D),(src.items mh)[i]?=some d->src.ok mh=true
theorem SR.tup {K:aj}{H0:Hp}{ρ0:List Addr}{ds:List D}{a:Addr}{xs:List V}(s:SqT K H0 a xs) (r:RDs K H0 ρ0 ds xs):SR Aa4 K H0 ρ0 (.seq ds) a :=
 ⟨λH ρ mh e rs _=>⟨xs,e.tup _ _ s,r.mono e⟩,λ_ _ _ _=>rfl⟩
theorem SR.rol {K:aj}{H0:Hp}{ρ0:List Addr}{ds:List D}{a:Addr}{xs:List V}(s:Ih K H0 a xs) (r:RDs K H0 ρ0 ds xs):SR Xh K H0 ρ0 (.seq ds) a :=
 ⟨λH ρ mh e rs _=>⟨xs,(e.perm _ _ s).sq,r.mono e⟩,λ_ _ _ _=>rfl⟩
theorem SR.lst {K:aj}{H0:Hp}{ρ0:List Addr}{n:Nat}{a:Addr}(h:ρ0[n]?=some a):SR Xh K H0 ρ0 (.lref n) a:=by
 refine ⟨λH ρ mh e rs ok=>?_,λmh i d q=>?_⟩
 ·have ok:(match mh[n]? with | some (.lst _)=>true | _=>false)=true:=ok;obtain ⟨o,eo⟩:∃ o,mh[n]?=some (.lst o):=by
   split at ok
   ·exact ⟨_,‹_›⟩
   ·cases ok
  obtain ⟨a',ha,ro⟩:=rs.at eo;rw [e.at h] at ha;cases ha;obtain ⟨xs,sq,r⟩:=ro.read;refine ⟨xs,sq,?_⟩;show RDs K H ρ (match mh[n]? with | some (.lst o)=>o | _=>[]) xs;rw [eo];exact r
 ·have q:(match mh[n]? with | some (.lst o)=>o | _=>[])[i]?=some d:=q;show (match mh[n]? with | some (.lst _)=>true | _=>false)=true;split at q
  ·rfl
  ·simp at q
theorem Q9:∀ (l:List D) (j i:Nat),(Jq j l)[i]?=(l[i]?).map λd=>D.tup [.int ((j+i:Nat):Int),d]
 | [],_,_=>by simp [Jq]
 | d::r,j,0=>by simp [Jq]
 | d::r,j,i+1=>by
  show (Jq (j+1) r)[i]?=_;rw [Q9 r (j+1) i,LC];have e:j+1+i=j+(i+1):=by omega
  rw [e]
theorem Ra:∀ (l:List D) (j:Nat),(Jq j l).length=l.length
 | [],_=>rfl
 | _::r,j=>by show (Jq (j+1) r).length+1=r.length+1;rw [Ra r]
theorem JR.enum {k:SeqK}{K:aj}{H0:Hp}{ρ0:List Addr}{src:Src}{a:Addr}(S:SR k K H0 ρ0 src a):JR K H0 ρ0 (.enum src) (Ite k K a) where
 go:=λH ρ mh i d e rs q=>by
  have q:(Jq 0 (src.items mh))[i]?=some d:=q;rw [Q9] at q;cases e1:(src.items mh)[i]? with
  | none=>rw [e1] at q;cases q
  | some d' =>
   rw [e1] at q;cases q;obtain ⟨xs,sq,r⟩:=S.rd H ρ mh e rs (S.ok mh i d' e1);obtain ⟨v,ev,rv⟩:=r.get e1;refine ⟨⟨xs,v,sq,ev⟩,?_⟩;rintro x H' ⟨T,x',hT,h1,h2,h3⟩;subst h1;subst h3;have:=h2 xs sq;rw [ev] at this;cases this;refine ⟨Ev.new hT,rs.new hT,.tup (.inl (.inl Ag)) (.cons ?_ (.cons (rv.mono (Ev.new hT)) .nil))⟩;rw [JV];exact .int _
 stop:=λH ρ mh i e rs q=>by
  have q:(src.ok mh&&decide ((Jq 0 (src.items mh)).length<=i))=true:=q;rw [aq,Ra] at q;obtain ⟨xs,sq,r⟩:=S.rd H ρ mh e rs q.1;exact ⟨xs,sq,by rw [← r.length];exact of_decide_eq_true q.2⟩
noncomputable def Ky (ma:DM D):DM Src:=ma.bnd λx=>λ_ mh=>match srcOf x mh with | some s=>some (.enum s,mh) | none=>none
section
variable {X:Cx}
theorem cH:bootBuiltins "enumerate"=some (.type "enumerate"):=by decide +kernel
theorem Ov (k:SeqK) {pins:List (Addr×Obj)}{σ:L2.St}{H:Hp}{s:Shared}{R:It->Hp->Prop}{E:Value->Shared->Prop}{elts:List Expr}{kk:Nat}{tp:Pos}{a:Addr}{xs:List V}(I:Inv X pins σ H s) (hq:k.sq X.K H a xs) (hR:R (Ite k X.K a) H)
  (hnew:∀ {items:Array Value} {Q:Value->Shared->Prop},k.isSeq s.heap a items->(∀ h',IsEnum h' (s.heap.objs.size+1) s.heap.objs.size 0 .none->k.isIt h' s.heap.objs.size a 0->h'.objs.size=s.heap.objs.size+2->(∀ b o,s.heap.get? b=some o->h'.get? b=some o)->Q (.ref (s.heap.objs.size+1)) { s with heap:=h' }) ->
   wpAny (model X.prog X.w) X.A (call (.type "enumerate") [.ref a]) Q E s) :
  wpAny (model X.prog X.w) X.A (call (.type "enumerate") [.ref a]) (λv s1=>wpAny (model X.prog X.w) X.A (pyIter v) (PIE X pins σ (.Tuple elts kk tp) R) E s1) E s:=by
 obtain ⟨its,rv,p,hz⟩:=k.get I hq;refine hnew p λh' he hit hsz hk=>VJ he ?_
 have I1:Inv X pins σ H { s with heap:=h' }:=I.kept (t':=s.toks) hk;refine ⟨s.heap.objs.size+1,[s.heap.objs.size+1,s.heap.objs.size],_,Ite k X.K a,H,rfl,I1,cF k a _ _ (Nat.succ_ne_self _),⟨⟨_,he⟩,hit⟩,λb hb=>?_,hR⟩;have hb:b=s.heap.objs.size+1\/b=s.heap.objs.size:=by simpa using hb
 rcases hb with rfl|rfl
 ·exact I.fpOk (qw _) (I.hok.fresh (qw _))
 ·exact I.fpOk (bx _) (I.hok.fresh (bx _))
theorem tY {a:Expr}{ma:DM D}{elts:List Expr}{kk:Nat}{tp p pos:Pos}(hc:X.calm=true) (hg:Gl X "enumerate") (hm:X.mg "enumerate"=none) (ha:DE X a ma) (hs:starEach [a] X.env=(false,eval a X.env)::starEach [] X.env) :
  DI X (.Tuple elts kk tp) (.Call (.Name "enumerate" p) [a] [] pos) (Ky ma):=λloc mh=>by
 cases ea:ma loc mh with
 | none =>
  have:Ky ma loc mh=none:=by unfold Ky DM.bnd;rw [ea]
  rw [this];exact Cu
 | some pr =>
  obtain ⟨x,m1⟩:=pr;have eq:Ky ma loc mh=(match srcOf x m1 with | some s=>some (.enum s,m1) | none=>none):=by unfold Ky DM.bnd;rw [ea]
  rw [eq];rintro pins s σ H R I ⟨ρ,src,mh',q,rl,rs,co⟩;refine Call_ (Ie I hg hm cH (PyProof.Rows.callWith_type1 (thn (Dr (ha loc mh) Ga hs pos pins s σ H (λvs H1=>∃ v ρ1,vs=[v]/\Ev X.K H ρ H1 ρ1/\RS X.K H1 ρ1 m1/\RD X.K H1 ρ1 x v) I ⟨ρ,x,m1,ea,rl,rs,λH1 ρ1 v e1 rs1 r1=>⟨v,ρ1,rfl,e1,rs1,r1⟩⟩) ?_) hs rfl));rintro us s1 ⟨vs,H1,I1,r1,q1⟩;obtain ⟨v,ρ1,rfl,e1,rs1,rx⟩:=q1;obtain ⟨u,rfl,ru⟩:=vals1 r1;cases x with
  | tup ds =>
   cases q;cases rx with
   | tup sq r =>
    cases ru;exact Ov Aa4 I1 sq (co H1 ρ1 _ e1 rs1 (JR.enum (SR.tup sq r))) λhL h=>cG hL h
  | ref n =>
   cases eo:m1[n]? with
   | none=>simp only [srcOf,eo] at q;cases q
   | some ob =>
    cases ob with
    | dct kvs=>simp only [srcOf,eo] at q;cases q
    | dtk kvs=>simp only [srcOf,eo] at q;cases q
    | plc=>simp only [srcOf,eo] at q;cases q
    | plq=>simp only [srcOf,eo] at q;cases q
    | fzd=>simp only [srcOf,eo] at q;cases q
    | lst o =>
    simp only [srcOf,eo] at q;cases q;cases rx with
    | @ref _ a' h =>
     cases ru;obtain ⟨a2,ha2,ro⟩:=rs1.at eo;rw [h] at ha2;cases ha2;obtain ⟨xs,sq,r⟩:=ro.read;exact Ov Xh I1 sq (co H1 ρ1 _ e1 rs1 (JR.enum (SR.lst h))) λhL h=>RN hL h
  | rol ds =>
   cases q;cases rx with
   | rol sq r =>
    cases ru;exact Ov Xh I1 sq.sq (co H1 ρ1 _ e1 rs1 (JR.enum (SR.rol sq r))) λhL h=>RN hL h
  | non=>cases q
  | bl b=>cases q
  | int i=>cases q
  | str z=>cases q
  | obj c ks ds=>cases q
  | fn x=>cases q
  | lam=>cases q
  | clo=>cases q
end
section
variable {X:Cx}
theorem Qj {prog:Program}{w:World}{A:Around}{E:Value->Shared->Prop}{s:Shared}{r:Addr}{a b c:Int}{t u v:Tok}{n:Nat}{Q:List Value->Shared->Prop}(hh:A.handled=none) (hr:IsRange s.heap r a b c t u v) (hsmall:yw a b c=true)
  (hn:tu a b c=n) (hlen:n<=2 ^ 24)
  (hQ:∀ h' tk acc,(∀ b o,s.heap.get? b=some o->h'.get? b=some o)->ItemsOf (λi v=>∃ t,v=.int (a+i * c) t) acc n->Q acc.toList { s with heap:=h',toks:=tk }):wpAny (model prog w) A (collect (.ref r)) Q E s:=by
 have key:∀ R:Result->Shared->Prop,(∀ h' tk acc' c',(∀ b o,b≠s.heap.objs.size->(s.heap.push { cls:=.type "list",data:=.seq ([]:List Value).toArray }).get? b=some o->h'.get? b=some o)->h'.get? s.heap.objs.size=some { cls:=.type "list",dict:=none,data:=.seq acc' c',slots:=#[] } ->
   ItemsOf (λi v=>∃ t,v=.int (a+i * c) t) acc' n->R (.ok (.ret (.ref s.heap.objs.size))) { s with heap:=h',toks:=tk })->codeAny (model prog w) A (.builtin "proto.collect" ⟨[.ref r],[]⟩) R s:=λR hR=>by
  refine FQ F.entry_proto_collect ?_;rw [QJ F.plain_proto_collect _]
  show wpAny _ A.in1 (newList [] >>= λl=>again (.builtin "list.__iadd__" ⟨[l,.ref r],[]⟩)) _ _ s;refine ak (jy ?_);refine bf ⟨plainId_quiet VL _,FQ F.entry_list_iadd ?_⟩;rw [QJ VL _]
  have hS:(s.heap.push { cls:=.type "list",data:=.seq ([]:List Value).toArray }).get? s.heap.objs.size=some { cls:=.type "list",data:=.seq #[] 0 }:=bh _ rfl;show wpAny _ A.in1 (uo (.ref s.heap.objs.size) (.ref r) (.ref s.heap.objs.size)) _ _ _
  exact wpAny_extend_range (A:=A) (R:=R) (s:={ s with heap:=s.heap.push { cls:=.type "list",data:=.seq ([]:List Value).toArray } }) hh (ao _ hr) hsmall hn hlen s.heap.objs.size _ 0 hS hR
 unfold collect;refine ak (wpAny_runValue (key _ λh' tk acc' c' hk hS' hacc=>?_));show wpAny _ A (load s.heap.objs.size >>= _) _ _ _;refine ak (WK hS' ?_);exact bf (hQ h' tk acc' (λb o e=>hk b o (cj (Heap.lt_size e)) (ao _ e)) hacc)
theorem Ow (r:Addr) (a b c:Int) (t u v:Tok) (n:Nat) (hsmall:yw a b c=true) (hn:tu a b c=n) (hlen:n<=2 ^ 24) :
  Meets (Builtin.«tuple.__new__» ⟨[.type "tuple",.ref r],[]⟩) (λA R s=>A.handled=none/\IsRange s.heap r a b c t u v/\∀ (h':Heap) (tk:Nat) (acc:Array Value),(∀ b o,s.heap.get? b=some o->h'.get? b=some o)->ItemsOf (λi v=>∃ t,v=.int (a+i * c) t) acc n ->
    R (.ok (.ret (.ref h'.objs.size))) { s with heap:=h'.push { cls:=.type "tuple",data:=.seq acc },toks:=tk }) :=
 .of_wp λprog w A R s h=>by
  obtain ⟨hh,hr,h⟩:=h;have hsub:=sub_tuple_self;have hinit:=init_tuple_lookup;have hmh:=madeHere_tuple
  have hT:s.TypeIs (.ref r) "range":=⟨_,hr,rfl⟩
  have hh1:A.in1.handled=none:=hh;wp_walk using zy hT,Qj hh1 hr hsmall hn hlen
  intro h' tk acc hk hacc;show wpAny _ _ (qd acc.toList.toArray >>= λv=>ret v) _ _ _;unfold qd;refine ak (jy (bf ⟨_,rfl,?_⟩) (show acc.toList.toArray.size<=sizeLine by simp only [Array.toArray_toList];rw [hacc.1,ji];omega));have e:acc.toList.toArray=acc:=by simp
  rw [e];exact h h' tk acc hk hacc
theorem Qk {prog:Program}{w:World}{A:Around}{E:Value->Shared->Prop}{s:Shared}{r:Addr}{a b c:Int}{t u v:Tok}{n:Nat}{Q:Value->Shared->Prop}(hh:A.handled=none) (hr:IsRange s.heap r a b c t u v) (hsmall:yw a b c=true)
  (hn:tu a b c=n) (hlen:n<=2 ^ 24)
  (h:∀ (h':Heap) (tk:Nat) (acc:Array Value),(∀ b o,s.heap.get? b=some o->h'.get? b=some o)->ItemsOf (λi v=>∃ t,v=.int (a+i * c) t) acc n->Q (.ref h'.objs.size) { s with heap:=h'.push { cls:=.type "tuple",data:=.seq acc },toks:=tk }) :
  wpAny (model prog w) A (call (.type "tuple") [.ref r]) Q E s:=by
 refine TY F.called_tuple (by decide) (F.typeCall_tuple_1 _) (F.newCall_tuple_1 _) (λobj=>QH obj _) F.entry_tuple_new
  (Ow r a b c t u v n hsmall hn hlen) ⟨hh,hr,λh' tk acc hk hacc=>⟨⟨_,bh _ rfl,rfl⟩,h h' tk acc hk hacc⟩⟩
theorem Ox {a:Int}{n:Nat}{acc:Array Value}(h:ItemsOf (λi v=>∃ t,v=.int (a+i * 1) t) acc n):Vals ((gw n).map λ(i:Nat)=>V.int (a+(i:Int))) acc.toList:=by
 have key:∀ (m:Nat) (l:List Value) (j:Nat),l.length=m->(∀ (i:Nat) (v:Value),l[i]?=some v->∃ t,v=Value.int (a+((j+i:Nat):Int)) t)->Vals ((List.range' j m).map λ(i:Nat)=>V.int (a+(i:Int))) l:=by
  intro m
  induction m with
  | zero=>intro l j hl _;rw [List.length_eq_zero_iff.mp hl];exact .nil
  | succ m ih =>
   intro l j hl hv
   match l,hl with
   | x::r,hl =>
    rw [List.range'_succ,dm];refine .cons ?_ (ih r (j+1) (by simpa using hl) λi v e=>?_)
    ·obtain ⟨t,e⟩:=hv 0 x rfl;exact ⟨t,e⟩
    ·obtain ⟨t,q⟩:=hv (i+1) v (by simpa using e);have e2:j+(i+1)=j+1+i:=by omega
     rw [e2] at q;exact ⟨t,q⟩
 rw [List.range_eq_range'];refine key n acc.toList 0 (by rw [xj];exact h.1) λi v e=>?_
 obtain ⟨t,q⟩:=h.2 i v (by simpa using e);rw [Int.mul_one] at q;rw [JV];exact ⟨t,q⟩
theorem Rb:Ay X (.type "range") (λxs H Q=>∃ j:Int,xs=[.int j]/\-(2 ^ 62)<=j/\j < 2 ^ 62/\∀ p,H p=none->Q (.ref p) (upd H p (.rng 0 j))):=by
 rintro pins s σ H xs us Q I r ⟨j,e,h1,h2,q⟩;subst e;obtain ⟨u,rfl,ru⟩:=vals1 r;obtain ⟨t,rfl⟩:=ru;exact call_range_1 ⟨.ref s.heap.objs.size,_,I.laid (o:=.rng 0 j) (λb o e=>ao _ e) (bx _) ⟨_,_,_,bh _ rfl⟩,rfl,q _ (I.hok.fresh (bx _))⟩
theorem Rc {j:Int}(h1:-(2 ^ 62)<=j) (h2:j < 2 ^ 62):yw 0 j 1=true/\tu 0 j 1=(j.toNat:Int):=by
 refine ⟨small_one (by omega) (by omega) h1 h2,?_⟩;rw [rangeSize_one];split <;> omega
theorem S9 (hc:X.calm=true):Ay X (.type "list") (λxs H Q=>∃ a j,xs=[.ref a]/\H a=some (.rng 0 j)/\-(2 ^ 62)<=j/\j<=1000000/\∀ p,H p=none->Q (.ref p) (upd H p (.lst ((gw j.toNat).map λ(i:Nat)=>V.int (0+(i:Int)))))):=by
 rintro pins s σ H xs us Q I r ⟨a,j,e,hH,h1,h2,q⟩;subst e;obtain ⟨u,rfl,ru⟩:=vals1 r;cases ru;obtain ⟨t,u,v,hr⟩:=I.hok a _ hH;obtain ⟨f1,f2⟩:=Rc h1 (show j < 2 ^ 62 by omega);refine call_list_range (I.ok.hd hc) hr f1 f2 (by omega) λh' tk acc c hk hS hacc=>?_
 exact ⟨.ref s.heap.objs.size,_,I.laid (t':=tk) (o:=.lst ((gw j.toNat).map λ(i:Nat)=>V.int (0+(i:Int)))) hk (bx _) ⟨by simp [ji];omega,acc.toList,c,Ox hacc,by simpa using hS⟩,rfl,q _ (I.hok.fresh (bx _))⟩
theorem Ql (hc:X.calm=true):Ay X (.type "tuple") (λxs H Q=>∃ a j,xs=[.ref a]/\H a=some (.rng 0 j)/\-(2 ^ 62)<=j/\j<=1000000/\∀ p,H p=none->Q (.ref p) (upd H p (.tup ((gw j.toNat).map λ(i:Nat)=>V.int (0+(i:Int)))))):=by
 rintro pins s σ H xs us Q I r ⟨a,j,e,hH,h1,h2,q⟩;subst e;obtain ⟨u,rfl,ru⟩:=vals1 r;cases ru;obtain ⟨t,u,v,hr⟩:=I.hok a _ hH;obtain ⟨f1,f2⟩:=Rc h1 (show j < 2 ^ 62 by omega);refine Qk (I.ok.hd hc) hr f1 f2 (by omega) λh' tk acc hk hacc=>?_
 have I1:Inv X pins σ H { s with heap:=h',toks:=tk }:=I.kept (t':=tk) hk;exact ⟨.ref h'.objs.size,_,I1.laid (t':=tk) (o:=.tup ((gw j.toNat).map λ(i:Nat)=>V.int (0+(i:Int)))) (λb o e=>ao _ e) (bx _) ⟨by simp [ji];omega,acc.toList,Ox hacc,by simpa using K9.new h' acc⟩,rfl,q _ (I1.hok.fresh (bx _))⟩
noncomputable def Kz (x:D) (mh:MH):Option (D×MH):=match x with
 | .int j=>if -(2 ^ 62)<=j/\j<=1000000 then some (.ref mh.length,mh++[.lst (Dw 0 j.toNat)]) else none
 | _=>none
noncomputable def Nt (x:D) (mh:MH):Option (D×MH):=match x with
 | .int j=>if -(2 ^ 62)<=j/\j<=1000000 then some (.tup (Dw 0 j.toNat),mh) else none
 | _=>none
theorem Rf {K:aj}{H:Hp}{ρ:List Addr}(n:Nat):RDs K H ρ (Dw 0 n) ((gw n).map λ(i:Nat)=>V.int (0+(i:Int))):=by
 unfold Dw;generalize gw n=l
 induction l with
 | nil=>exact .nil
 | cons i r ih=>exact .cons (.int _) ih
variable {a:Expr}{ma:DM D}{p p2 pos pos2:Pos}
theorem Xi (hc:X.calm=true) (hg:Gl X "list") (hm:X.mg "list"=none) (hg2:Gl X "range") (hm2:X.mg "range"=none) (ha:DE X a ma) (hs:starEach [a] X.env=(false,eval a X.env)::starEach [] X.env) :
  DE X (.Call (.Name "list" p) [.Call (.Name "range" p2) [a] [] pos2] [] pos) (ma.bnd λx=>Zl (Kz x)):=λloc mh =>
 Ar (G4 (S9 hc) hg hm (by decide +kernel) (Dr (G4 Rb hg2 hm2 WL (Dr (ha loc mh) Ga hs) (by decide) (by decide) hs) Ga)) λσ H Q ⟨ρ,d,mh',q,rl,rs,co⟩=>by
  obtain ⟨x,m1,ea,q⟩:=Ah q;refine ⟨ρ,x,m1,ea,rl,rs,λH1 ρ1 v e1 rs1 r1=>?_⟩;have q:Kz x m1=some (d,mh'):=q;cases r1 with
  | int j =>
   simp only [Kz] at q;split at q
   ·rename_i hl;cases q;exact ⟨j,rfl,hl.1,by omega,λb hb=>⟨b,j,rfl,Ag,hl.1,hl.2,Co.newL (rs1.new hb) (Rf _) (co.ev (e1.trans (Ev.new hb)))⟩⟩
   ·cases q
  | _=>cases q
theorem cI (hc:X.calm=true) (hg:Gl X "tuple") (hm:X.mg "tuple"=none) (hg2:Gl X "range") (hm2:X.mg "range"=none) (ha:DE X a ma) (hs:starEach [a] X.env=(false,eval a X.env)::starEach [] X.env) :
  DE X (.Call (.Name "tuple" p) [.Call (.Name "range" p2) [a] [] pos2] [] pos) (ma.bnd λx=>Zl (Nt x)):=λloc mh =>
 Ar (G4 (Ql hc) hg hm (by decide +kernel) (Dr (G4 Rb hg2 hm2 WL (Dr (ha loc mh) Ga hs) (by decide) (by decide) hs) Ga)) λσ H Q ⟨ρ,d,mh',q,rl,rs,co⟩=>by
  obtain ⟨x,m1,ea,q⟩:=Ah q;refine ⟨ρ,x,m1,ea,rl,rs,λH1 ρ1 v e1 rs1 r1=>?_⟩;have q:Nt x m1=some (d,mh'):=q;cases r1 with
  | int j =>
   simp only [Nt] at q;split at q
   ·rename_i hl;cases q;exact ⟨j,rfl,hl.1,by omega,λb hb=>⟨b,j,rfl,Ag,hl.1,hl.2,Co.newT (rs1.new hb) (Rf _) (co.ev (e1.trans (Ev.new hb)))⟩⟩
   ·cases q
  | _=>cases q
end
end DL
namespace DL
open PySem PySem.Spec PyProof.Rows L2 PySem.W
noncomputable def sortI (ns:List Int):List Int:=ns.mergeSort λa b=>decide (a<=b)
theorem sortI_perm (ns:List Int):(sortI ns).Perm ns:=List.mergeSort_perm _ _
theorem jR (ns:List Int):(sortI ns).Pairwise (·<=·):=by
 have h:=List.pairwise_mergeSort (le:=λa b:Int=>decide (a<=b)) (λa b c h1 h2=>by simp at *;omega) (λa b=>by simp;omega) ns;exact h.imp λh=>by simpa using h
theorem Vi {ns l:List Int}(p:l.Perm ns) (h:l.Pairwise (·<=·)):l=sortI ns:=jN (p.trans (sortI_perm ns).symm) h (jR ns)
noncomputable def Aec:List Int->List Int->Bool
 | [],[]=>false
 | [],_::_=>true
 | _::_,[]=>false
 | x::xs,y::ys=>if (x==y)=true then Aec xs ys else decide (x < y)
section
variable {prog:Program}{w:World}{A:Around}{E:Value->Shared->Prop}{κ:SortKind}{it:Array Keyed}{s:Shared}
end
theorem Lg:∀ {ns:List Int}{us:List Value},Vals (ns.map V.int) us->IntsAre us ns
 | [],_,.nil=>.nil
 | _::_,_,.cons ⟨t,e⟩ h=>by subst e;exact .cons _ _ (Lg h)
section
variable {prog:Program}{w:World}{A:Around}{E:Value->Shared->Prop}{s:Shared}
end
noncomputable def Nu:List D->MH->Option (D×MH)
 | [.ref n],mh=>match mh[n]? with
  | some (.lst ds)=>match intsOf ds with
   | some ns=>if ns.length < 64 then some (.ref mh.length,mh++[.lst ((sortI ns).map .int)]) else none
   | none=>none
  | _=>none
 | _,_=>none
theorem Tc {ds:List D}{mh mh':MH}{d:D}(q:Nu ds mh=some (d,mh')):∃ n,ds=[.ref n]:=by
 unfold Nu at q;split at q
 ·exact ⟨_,rfl⟩
 ·cases q
theorem K1 (h:Heap) (vs:List Value) (out:Array Value):∃ c,(∀ b o,h.get? b=some o->(sortedAll h vs out).get? b=some o)/\(sortedAll h vs out).get? (h.objs.size+1)=some (seqObj "list" out c):=by
 have hsz:((h.push (seqObj "list" #[] 0)).update h.objs.size (lz (·++vs.toArray))).objs.size=h.objs.size+1:=by
  rw [Heap.size_update,size_push']
 have hoL:(((h.push (seqObj "list" #[] 0)).update h.objs.size (lz (·++vs.toArray))).push (seqObj "list" vs.toArray 0)).get? (h.objs.size+1)=some (seqObj "list" vs.toArray 0):=by
  rw [← hsz];exact bh _ rfl
 have keep:∀ b o,h.get? b=some o->(((h.push (seqObj "list" #[] 0)).update h.objs.size (lz (·++vs.toArray))).push (seqObj "list" vs.toArray 0)).get? b=some o:=λb o q=>by
  have hlt:b < h.objs.size:=Heap.lt_size q;rw [VN _ _ _ (by rw [hsz];exact cj (jz hlt)),Heap.get?_update_ne _ _ _ _ (cj hlt),VN _ _ _ (cj hlt)];exact q
 obtain ⟨c,at'⟩:=sortedHeap_at (a:=h.objs.size+1) (vs:=vs) (n:=0) (out:=out) hoL;refine ⟨c,λb o q=>?_,at'⟩;unfold sortedAll;rw [sortedHeap_old (cj (jz (Heap.lt_size q))) (Heap.lt_size (keep b o q))];exact keep b o q
theorem J4 {K:aj}{H:Hp}{ρ:List Addr}:∀ (ns:List Int),RDs K H ρ (ns.map D.int) (ns.map V.int)
 | []=>.nil
 | _::r=>.cons (.int _) (J4 r)
section
variable {X:Cx}
theorem Td:Ay X (.builtin "sorted") (rDs X.K Nu):=by
 rintro pins s σ H xs us Q I r ⟨ρ,mh,ds,d,mh',q,rs,rd,co⟩;obtain ⟨n,rfl⟩:=Tc q
 ·obtain ⟨v,rfl,rx⟩:=Ik rd;obtain ⟨u,rfl,ru⟩:=vals1 r
  have q:(match mh[n]? with
   | some (.lst ds)=>(match intsOf ds with
    | some ns=>if ns.length < 64 then some (D.ref mh.length,mh++[.lst ((sortI ns).map .int)]) else none
    | none=>none)
   | _=>none)=some (d,mh'):=q
  split at q
  ·rename_i es en;obtain ⟨p,ys,rfl,hq,ry⟩:∃ p ys,v=.ref p/\SqL X.K H p ys/\RDs X.K H ρ es ys:=by
    cases rx with
    | ref h =>
     obtain ⟨a',ha,ro⟩:=rs.at en;rw [h] at ha;cases ha;obtain ⟨xs,q,r⟩:=ro.read;exact ⟨_,xs,rfl,q,r⟩
   cases ru;obtain ⟨its,rv,pl,hz⟩:=I.list hq;split at q
   ·rename_i ns ei;split at q
    ·rename_i h64;cases q;rw [Dm ei] at ry;rw [Il ry] at hq rv;have hlen:=rv.length;refine sorted_ints pl.isList (Lg rv) (by simp at hlen;omega) λout ns' a1 a2 a3=>?_
     have es':ns'=sortI ns:=Vi a2 a3;subst es';obtain ⟨c,kp,at'⟩:=K1 s.heap its out;refine ⟨.ref (s.heap.objs.size+1),_,I.laid (t':=s.toks) (a:=s.heap.objs.size+1) (o:=.lst ((sortI ns).map V.int)) kp (qw _) ⟨?_,out.toList,c,Fz a1,?_⟩,rfl,Co.newL rs (J4 (sortI ns)) co _ (I.hok.fresh (qw _))⟩
     ·rw [fu,(sortI_perm ns).length_eq,ji];omega
     ·rw [at']
    ·cases q
   ·cases q
  ·cases q
end
noncomputable abbrev TX:=Str×List Int
noncomputable def Af2 (a b:TX):Bool:=if a.1=b.1 then Aec a.2 b.2 else decide (a.1.cps.toList < b.1.cps.toList)
noncomputable def xV (ks:List TX):List TX:=ks.mergeSort λa b=>!Af2 b a
section
variable {n:Nat}{lt:Nat->Nat->Bool}
end
section
variable {prog:Program}{w:World}{A:Around}{E:Value->Shared->Prop}{s:Shared}
end
noncomputable def txD (k:TX):D:=.tup (.str k.1::k.2.map D.int)
noncomputable def tZ:List TX->List TX
 | []=>[]
 | x::r=>if x∈r then tZ r else x::tZ r
section
variable {X:Cx}
end
noncomputable def jT:List D->Option (List TX)
 | []=>some []
 | .tup (.str x::r)::t=>match intsOf r with
  | some ns=>match jT t with
   | some l=>some ((x,ns)::l)
   | none=>none
  | none=>none
 | _=>none
noncomputable def jU (ds:List D) (mh:MH):Option (D×MH):=match jT ds with
 | some ks=>if (tZ ks).length<=17 then some (.ref mh.length,mh++[.lst ((xV (tZ ks)).map txD)]) else none
 | none=>none
noncomputable def cJ (x:D) (mh:MH):Option (D×MH):=match x with
 | .ref n=>match mh[n]? with
  | some (.lst o)=>match intsOf o with
   | some ns=>if ns.length < 4000 then (if (jM ns).length < 64 then some (.ref mh.length,mh++[.lst ((Aea ns).map D.int)]) else none) else none
   | none=>jU o mh
  | _=>none
 | _=>none
section
variable {K:aj}{H:Hp}{ρ:List Addr}
end
section
variable {X:Cx}{a:Expr}{ma:DM D}{p p2 pos pos2:Pos}
end
end DL
namespace DL
open PySem PySem.Spec PyProof.Rows L2
structure ZNe (z TI TO i1 i2:Addr):Prop where
 TIz:TI≠z
 TOz:TO≠z
 i1z:i1≠z
 i2z:i2≠z
 TITO:TI≠TO
 TIi1:TI≠i1
 TIi2:TI≠i2
 TOi1:TO≠i1
 TOi2:TO≠i2
 i12:i1≠i2
section
variable {prog:Program}{w:World}{A:Around}{E:Value->Shared->Prop}{s:Shared}
theorem cL (k1 k2:SeqK) {z TI TO i1 i2 l1 l2:Addr}{i:Nat}{xs ys:Array Value}{x y a b:Value}{Q:Value->Shared->Prop}(D:ZNe z TI TO i1 i2) (l1z:l1≠z) (l1TO:l1≠TO) (l1i1:l1≠i1) (l2z:l2≠z) (l2TO:l2≠TO) (l2i1:l2≠i1)
  (hz:IsZip s.heap z TI TO .none) (hTI:IsPair s.heap TI (.ref i1) (.ref i2)) (hTO:IsPair s.heap TO a b) (h1:k1.isIt s.heap i1 l1 i) (h2:k2.isIt s.heap i2 l2 i) (hl1:k1.isSeq s.heap l1 xs) (hl2:k2.isSeq s.heap l2 ys) (hx:xs[i]?=some x) (hy:ys[i]?=some y)
  (hQ:∀ h',IsZip h' z TI TO (rawInt s.heap.objs.size)->IsPair h' TO x y->k1.isIt h' i1 l1 (i+1)->k2.isIt h' i2 l2 (i+1)->IsPair h' s.heap.objs.size x y->h'.objs.size=s.heap.objs.size+1 ->
   (∀ c o,c≠z->c≠TO->c≠i1->c≠i2->s.heap.get? c=some o->h'.get? c=some o)->Q (.ref s.heap.objs.size) { s with heap:=h' }) :
  wpAny (model prog w) A (Builtin.«zip.__next__» ⟨[.ref z],[]⟩) (λfin s'=>∃ v,fin=.done (.ret v)/\Q v s') E s:=by
 show wpAny _ _ (field (.ref z) 2 >>= _) _ _ _;refine ak (jx hz rfl (x:=.bool false) rfl ?_);show wpAny _ _ (field (.ref z) 3 >>= _) _ _ _;refine ak (jx hz rfl (x:=.ref TI) rfl ?_);refine ak (qg hTI rfl ?_);show wpAny _ _ (qi (.ref z) >>= _) _ _ _;refine ak ?_;unfold qi;refine ak (jx hz rfl (x:=.none) rfl (bf ?_));simp only [if_true];refine ak (EY ?_);refine ak (jx hz rfl (x:=.ref TO) rfl ?_);refine ak (uq hz (by simp) λh₁ hz₁ hs₁=>?_);replace hz₁:IsZip h₁ z TI TO .ellipsis:=hz₁;refine ak ?_;simp only [List.zipIdx_cons,List.zipIdx_nil,za,GK];refine ak (ak (IK ?_));show wpAny _ _ (jd (.ref i1) >>= _) _ _ _;refine ak (k1.next (k1.itK h1 λo e=>hs₁.extBut _ _ D.i1z e) (k1.seqK hl1 λo e=>hs₁.extBut _ _ l1z e) hx λh₂ h1₂ hs₂=>bf ?_);have hTO₂:IsPair h₂ TO a b:=hs₂.extBut _ _ D.TOi1 (hs₁.extBut _ _ D.TOz hTO);refine ak (qg hTO₂ rfl ?_);refine ak (FT hTO₂ λh₃ hTO₃ hs₃=>?_)
 replace hTO₃:IsPair h₃ TO x b:=hTO₃
 refine ak (GQ (bf ?_));refine ak (ak (IK ?_));show wpAny _ _ (jd (.ref i2) >>= _) _ _ _;refine ak (k2.next (k2.itK h2 λo e=>hs₃.extBut _ _ D.TOi2.symm (hs₂.extBut _ _ D.i12.symm (hs₁.extBut _ _ D.i2z e))) (k2.seqK hl2 λo e=>hs₃.extBut _ _ l2TO (hs₂.extBut _ _ l2i1 (hs₁.extBut _ _ l2z e))) hy λh₄ h2₄ hs₄=>bf ?_);have hTO₄:IsPair h₄ TO x b:=hs₄.extBut _ _ D.TOi2 hTO₃;refine ak (qg hTO₄ rfl ?_);refine ak (FT hTO₄ λh₅ hTO₅ hs₅=>?_)
 replace hTO₅:IsPair h₅ TO x y:=hTO₅
 refine ak (GQ (bf (bf ?_)));refine ak (qg hTO₅ rfl ?_);refine ak (wpAny_newTuple ?_);have hsz:h₅.objs.size=s.heap.objs.size:=by rw [hs₅.1,hs₄.1,hs₃.1,hs₂.1,hs₁.1]
 have hz₅:IsZip h₅ z TI TO .ellipsis:=hs₅.extBut _ _ D.TOz.symm (hs₄.extBut _ _ D.i2z.symm (hs₃.extBut _ _ D.TOz.symm (hs₂.extBut _ _ D.i1z.symm hz₁)));have hk₅:∀ c o,c≠z->c≠TO->c≠i1->c≠i2->s.heap.get? c=some o->h₅.get? c=some o:=λc o c1 c2 c3 c4 e=>hs₅.extBut _ _ c2 (hs₄.extBut _ _ c4 (hs₃.extBut _ _ c2 (hs₂.extBut _ _ c3 (hs₁.extBut _ _ c1 e))))
 have h1₅:k1.isIt h₅ i1 l1 (i+1):=k1.itK h1₂ λo e=>hs₅.extBut _ _ D.TOi1.symm (hs₄.extBut _ _ D.i12 (hs₃.extBut _ _ D.TOi1.symm e))
 have h2₅:k2.isIt h₅ i2 l2 (i+1):=k2.itK h2₄ λo e=>hs₅.extBut _ _ D.TOi2.symm e
 have hzlt:z < h₅.objs.size:=Heap.lt_size hz₅;show wpAny _ _ (BL (.ref z) (.ref h₅.objs.size) >>= _) _ _ _;refine ak ?_;unfold BL
 have hz₆:IsZip (h₅.push { cls:=.type "tuple",data:=.seq #[x,y] }) z TI TO .ellipsis:=ao _ hz₅;refine ak (uq hz₆ (by simp) λh₇ hz₇ hs₇=>?_);replace hz₇:IsZip h₇ z TI TO (rawInt h₅.objs.size):=hz₇;refine uq hz₇ (by simp) λh₈ hz₈ hs₈=>?_;replace hz₈:IsZip h₈ z TI TO (rawInt h₅.objs.size):=hz₈
 have up:∀ c o,c≠z->h₅.get? c=some o->h₈.get? c=some o:=λc o c1 e=>hs₈.extBut _ _ c1 (hs₇.extBut _ _ c1 (ao _ e))
 have hT₈:IsPair h₈ h₅.objs.size x y:=hs₈.extBut _ _ (jo hzlt) (hs₇.extBut _ _ (jo hzlt) (bh _ rfl));have hz8:h₈.objs.size=h₅.objs.size+1:=by rw [hs₈.1,hs₇.1,ir]
 rw [hsz] at hz₈ hT₈ hz8;refine bf ⟨_,rfl,?_⟩;show Q (.ref h₅.objs.size) _;rw [hsz];exact hQ h₈ hz₈ (up _ _ D.TOz hTO₅) (k1.itK h1₅ λo e=>up _ o D.i1z e) (k2.itK h2₅ λo e=>up _ o D.i2z e) hT₈ hz8 λc o c1 c2 c3 c4 e=>up c o c1 (hk₅ c o c1 c2 c3 c4 e)
theorem cM (k1 k2:SeqK) {z TI TO i1 i2 l1 l2:Addr}{i:Nat}{xs ys:Array Value}{a b:Value}{Q:Fin->Shared->Prop}(hh:A.handled=none) (D:ZNe z TI TO i1 i2) (l1z:l1≠z) (l2z:l2≠z) (l2TO:l2≠TO) (l2i1:l2≠i1)
  (hz:IsZip s.heap z TI TO .none) (hTI:IsPair s.heap TI (.ref i1) (.ref i2)) (hTO:IsPair s.heap TO a b) (h1:k1.isIt s.heap i1 l1 i) (h2:k2.isIt s.heap i2 l2 i) (hl1:k1.isSeq s.heap l1 xs) (hl2:k2.isSeq s.heap l2 ys) (hend:xs[i]?=none\/ys[i]?=none)
  (hE:∀ h' e,(∀ c o,c≠z->c≠TO->c≠i1->c≠i2->s.heap.get? c=some o->h'.get? c=some o)->(∃ o,h'.get? e=some o/\o.cls=.type "StopIteration")->E (.ref e) { s with heap:=h' }) :
  wpAny (model prog w) A (Builtin.«zip.__next__» ⟨[.ref z],[]⟩) Q E s:=by
 show wpAny _ _ (field (.ref z) 2 >>= _) _ _ _;refine ak (jx hz rfl (x:=.bool false) rfl ?_);show wpAny _ _ (field (.ref z) 3 >>= _) _ _ _;refine ak (jx hz rfl (x:=.ref TI) rfl ?_);refine ak (qg hTI rfl ?_);show wpAny _ _ (qi (.ref z) >>= _) _ _ _;refine ak ?_;unfold qi;refine ak (jx hz rfl (x:=.none) rfl (bf ?_));simp only [if_true];refine ak (EY ?_);refine ak (jx hz rfl (x:=.ref TO) rfl ?_);refine ak (uq hz (by simp) λh₁ hz₁ hs₁=>?_);replace hz₁:IsZip h₁ z TI TO .ellipsis:=hz₁;refine ak ?_;simp only [List.zipIdx_cons,List.zipIdx_nil,za,GK];refine ak (ak (IK ?_));show wpAny _ _ (jd (.ref i1) >>= _) _ _ _;cases hx:xs[i]? with
 | none =>
  refine ak (k1.stop hh (k1.itK h1 λo e=>hs₁.extBut _ _ D.i1z e) (k1.seqK hl1 λo e=>hs₁.extBut _ _ l1z e) hx λh₂ e hs₂ he=>?_);obtain ⟨oe,hoe,hce⟩:=he;have hz₂:IsZip h₂ z TI TO .ellipsis:=hs₂ _ _ D.i1z.symm hz₁;have hez:e≠z:=λx=>by subst x;rw [hz₂] at hoe;cases hoe;simp at hce
  exact uq hz₂ (by simp) λh₃ _ hs₃=>hE h₃ e (λc o c1 _ c3 _ x=>hs₃.extBut _ _ c1 (hs₂ _ _ c3 (hs₁.extBut _ _ c1 x))) ⟨oe,hs₃.extBut _ _ hez hoe,hce⟩
 | some x =>
  have hy:ys[i]?=none:=by rcases hend with h|h;rw [hx] at h;cases h;exact h
  refine ak (k1.next (k1.itK h1 λo e=>hs₁.extBut _ _ D.i1z e) (k1.seqK hl1 λo e=>hs₁.extBut _ _ l1z e) hx λh₂ h1₂ hs₂=>bf ?_);have hTO₂:IsPair h₂ TO a b:=hs₂.extBut _ _ D.TOi1 (hs₁.extBut _ _ D.TOz hTO);refine ak (qg hTO₂ rfl ?_);refine ak (FT hTO₂ λh₃ hTO₃ hs₃=>?_);refine ak (GQ (bf ?_));refine ak (ak (IK ?_));show wpAny _ _ (jd (.ref i2) >>= _) _ _ _;refine ak (k2.stop hh (k2.itK h2 λo e=>hs₃.extBut _ _ D.TOi2.symm (hs₂.extBut _ _ D.i12.symm (hs₁.extBut _ _ D.i2z e))) (k2.seqK hl2 λo e=>hs₃.extBut _ _ l2TO (hs₂.extBut _ _ l2i1 (hs₁.extBut _ _ l2z e))) hy λh₄ e hs₄ he=>?_);obtain ⟨oe,hoe,hce⟩:=he;have hz₄:IsZip h₄ z TI TO .ellipsis:=hs₄ _ _ D.i2z.symm (hs₃.extBut _ _ D.TOz.symm (hs₂.extBut _ _ D.i1z.symm hz₁));have hez:e≠z:=λx=>by subst x;rw [hz₄] at hoe;cases hoe;simp at hce
  exact uq hz₄ (by simp) λh₅ _ hs₅=>hE h₅ e (λc o c1 c2 c3 c4 x=>hs₅.extBut _ _ c1 (hs₄ _ _ c4 (hs₃.extBut _ _ c2 (hs₂.extBut _ _ c3 (hs₁.extBut _ _ c1 x))))) ⟨oe,hs₅.extBut _ _ hez hoe,hce⟩
end
noncomputable def Itz (k1 k2:SeqK) (K:aj) (l1 l2:Addr):It :=
  ⟨λi H=>∃ xs ys x y,k1.sq K H l1 xs/\k2.sq K H l2 ys/\xs[i]?=some x/\ys[i]?=some y,
   λi H v H'=>∃ T x y,H T=none/\v=.ref T/\(∀ xs,k1.sq K H l1 xs->xs[i]?=some x)/\(∀ ys,k2.sq K H l2 ys->ys[i]?=some y)/\H'=upd H T (.tup [x,y]),
   λi H=>∃ xs ys,k1.sq K H l1 xs/\k2.sq K H l2 ys/\(xs.length<=i\/ys.length<=i)⟩
theorem jV {P:Program}{w:World}{K:aj}(k1 k2:SeqK) {elts:List Expr}{kk:Nat}{tp:Pos}(l1 l2 z TI TO i1 i2:Addr) (D:ZNe z TI TO i1 i2) :
  Turn P w K (.Tuple elts kk tp) (Itz k1 k2 K l1 l2) [z,TI,TO,i1,i2] z (λi h=>IsZip h z TI TO .none/\IsPair h TI (.ref i1) (.ref i2)/\(∃ a b,IsPair h TO a b)/\k1.isIt h i1 l1 i/\k2.isIt h i2 l2 i) where
 mem:=by simp
 obj:=λi h st b hb=>by
  obtain ⟨hz,hTI,⟨a,c,hTO⟩,h1,h2⟩:=st;have hb:b=z\/b=TI\/b=TO\/b=i1\/b=i2:=by simpa using hb
  rcases hb with rfl|rfl|rfl|rfl|rfl
  ·exact ⟨_,hz,λv q=>by have q':Data.fields _=Data.cell v:=q;cases q'⟩
  ·exact ⟨_,hTI,λv q=>by have q':Data.seq _ _=Data.cell v:=q;cases q'⟩
  ·exact ⟨_,hTO,λv q=>by have q':Data.seq _ _=Data.cell v:=q;cases q'⟩
  ·obtain ⟨o,q,c,vs,d⟩:=k1.itO h1;exact ⟨o,q,λv z=>by rw [d] at z;cases z⟩
  ·obtain ⟨o,q,c,vs,d⟩:=k2.itO h2;exact ⟨o,q,λv z=>by rw [d] at z;cases z⟩
 keep:=λi h h' st kp=>by
  obtain ⟨hz,hTI,⟨a,c,hTO⟩,h1,h2⟩:=st;exact ⟨kp z (by simp) _ hz,kp TI (by simp) _ hTI,⟨a,c,kp TO (by simp) _ hTO⟩,k1.itK h1 λo q=>kp i1 (by simp) o q,k2.itK h2 λo q=>kp i2 (by simp) o q⟩
 item:=by
  intro X hP hw hK hc i pins s σ H E I hf st hg;subst hP hw hK;obtain ⟨xs,ys,x,y,hq1,hq2,hx,hy⟩:=hg;obtain ⟨its1,rv1,p1,hz1⟩:=k1.get I hq1;obtain ⟨its2,rv2,p2,hz2⟩:=k2.get I hq2;obtain ⟨u1,hu1,ru1⟩:=rv1.get hx;obtain ⟨u2,hu2,ru2⟩:=rv2.get hy;obtain ⟨hz,hTI,⟨a,c,hTO⟩,h1,h2⟩:=st;have fz:=hf z (by simp);have fTO:=hf TO (by simp);have f1:=hf i1 (by simp)
  have hT:s.TypeIs (.ref z) "zip":=⟨_,hz,rfl⟩
  unfold pyNext
  refine ak (QV (jt (name:=Str.ofString "__next__") hT FW (qb FW hT F.entry_zip_next
   (cL k1 k2 (i:=i) D (k1.ne I hq1 fz) (k1.ne I hq1 fTO) (k1.ne I hq1 f1) (k2.ne I hq2 fz) (k2.ne I hq2 fTO) (k2.ne I hq2 f1) hz hTI hTO h1 h2 p1 p2 (x:=u1) (y:=u2) (by simpa using hu1) (by simpa using hu2) λh' a1 a2 a3 a4 a5 a6 hk=>bf ?_) (VP _))))
  refine ⟨_,rfl,wpAny_letOwnedTupleGo_zip a1 λh2' hz' hs'=>?_⟩;have zlt:z < s.heap.objs.size:=Heap.lt_size hz;have hT2:K9 h2' s.heap.objs.size #[u1,u2]:=⟨_,hs'.extBut _ _ (jo zlt) a5,rfl,rfl,_,rfl⟩;have nb:∀ b,b ∉ [z,TI,TO,i1,i2]->b≠z/\b≠TO/\b≠i1/\b≠i2:=λb hb=>by simp at hb;exact ⟨hb.1,hb.2.2.1,hb.2.2.2.1,hb.2.2.2.2⟩
  have I2:Inv X pins σ (upd H s.heap.objs.size (.tup [x,y])) { s with heap:=h2' }:=Js (t':=s.toks) (fp:=[z,TI,TO,i1,i2]) I (λb o hb q=>hs'.extBut b o (nb b hb).1 (hk b o (nb b hb).1 (nb b hb).2.1 (nb b hb).2.2.1 (nb b hb).2.2.2 q)) hf (bx _) ⟨by simp [ji],[u1,u2],.cons ru1 (.cons ru2 .nil),hT2⟩;refine ⟨.ref s.heap.objs.size,_,I2,rfl,⟨s.heap.objs.size,x,y,I.hok.fresh (bx _),rfl,λzs q=>by rw [k1.inj I q hq1];exact hx,λzs q=>by rw [k2.inj I q hq2];exact hy,rfl⟩,⟨hz',hs'.extBut _ _ D.TIz (hk _ _ D.TIz D.TITO D.TIi1 D.TIi2 hTI),⟨_,_,hs'.extBut _ _ D.TOz a2⟩,k1.itK a3 λo q=>hs'.extBut _ _ D.i1z q,k2.itK a4 λo q=>hs'.extBut _ _ D.i2z q⟩,λb hb=>?_⟩;rw [Ad ?_]
  ·exact (hf b hb).1
  ·intro q;have hb:b=z\/b=TI\/b=TO\/b=i1\/b=i2:=by simpa using hb
   have lt:b < s.heap.objs.size:=by
    rcases hb with e|e|e|e|e
    ·rw [e];exact zlt
    ·rw [e];exact Heap.lt_size hTI
    ·rw [e];exact Heap.lt_size hTO
    ·obtain ⟨o,q,_⟩:=k1.itO h1;rw [e];exact Heap.lt_size q
    ·obtain ⟨o,q,_⟩:=k2.itO h2;rw [e];exact Heap.lt_size q
   exact absurd q (cj lt)
 done:=by
  intro X hP hw hK hc i pins s σ H E I hf st hg;subst hP hw hK;obtain ⟨xs,ys,hq1,hq2,hx⟩:=hg;obtain ⟨its1,rv1,p1,hz1⟩:=k1.get I hq1;obtain ⟨its2,rv2,p2,hz2⟩:=k2.get I hq2;obtain ⟨hz,hTI,⟨a,c,hTO⟩,h1,h2⟩:=st;have fz:=hf z (by simp);have fTO:=hf TO (by simp);have f1:=hf i1 (by simp)
  have hT:s.TypeIs (.ref z) "zip":=⟨_,hz,rfl⟩
  have e1:=rv1.length;have e2:=rv2.length;unfold pyNext
  refine ak (QV (jt (name:=Str.ofString "__next__") hT FW (qb FW hT F.entry_zip_next
   (cM k1 k2 (i:=i) (A:=X.A.in1) (I.ok.hd hc) D (k1.ne I hq1 fz) (k2.ne I hq2 fz) (k2.ne I hq2 fTO) (k2.ne I hq2 f1) hz hTI hTO h1 h2 p1 p2 ?_ λh' e hk he=>?_) (VP _))))
  ·rcases hx with q|q
   ·exact .inl (by simp;omega)
   ·exact .inr (by simp;omega)
  ·obtain ⟨o,ho,hcl⟩:=he
   refine ak (CT (T := "StopIteration") (b:=true) ⟨o,ho,hcl⟩ isSubtype_stop (bf ⟨rfl,?_⟩))
   exact Q8 (t':=s.toks) (fp:=[z,TI,TO,i1,i2]) I (λb o hb q=>by
    simp at hb
    exact hk b o hb.1 hb.2.2.1 hb.2.2.2.1 hb.2.2.2.2 q) hf
 self:=λ_ i s Q E st h=>wpAny_pyIter_zip st.1 h
noncomputable abbrev zK1 (k1:SeqK) (h:Heap) (l1:Addr):Heap:=h.push { cls:=.type k1.cls,data:=.fields #[.ref l1,.int 0 0] }
noncomputable abbrev zK2 (k1 k2:SeqK) (h:Heap) (l1 l2:Addr):Heap:=(zK1 k1 h l1).push { cls:=.type k2.cls,data:=.fields #[.ref l2,.int 0 0] }
noncomputable abbrev zK3 (k1 k2:SeqK) (h:Heap) (l1 l2:Addr):Heap:=(zK2 k1 k2 h l1 l2).push { cls:=.type "tuple",data:=.seq #[.ref h.objs.size,.ref (zK1 k1 h l1).objs.size] }
noncomputable abbrev zK4 (k1 k2:SeqK) (h:Heap) (l1 l2:Addr):Heap:=(zK3 k1 k2 h l1 l2).push { cls:=.type "tuple",data:=.seq #[.none,.none] }
noncomputable abbrev zK5 (k1 k2:SeqK) (h:Heap) (l1 l2:Addr):Heap:=(zK4 k1 k2 h l1 l2).push { cls:=.type "zip",data:=.fields #[.none,.bool false,.bool false,.ref (zK2 k1 k2 h l1 l2).objs.size,.ref (zK3 k1 k2 h l1 l2).objs.size] }
theorem Xj (k1 k2:SeqK) (l1 l2:Addr) (xs ys:Array Value) :
  Meets (Builtin.«zip.__new__» ⟨[.type "zip",.ref l1,.ref l2],[]⟩) (λ_ R s=>k1.isSeq s.heap l1 xs/\k2.isSeq s.heap l2 ys /\
   R (.ok (.ret (.ref (zK4 k1 k2 s.heap l1 l2).objs.size))) { s with heap:=zK5 k1 k2 s.heap l1 l2 }) :=
 .of_wp λprog w A R s h=>by
  obtain ⟨hp,g,d,tk,os⟩:=s;obtain ⟨hl1,hl2,h⟩:=h;have hsub:=sub_zip;have hL1:k1.isSeq (Shared.heap ⟨hp,g,d,tk,os⟩) l1 xs:=hl1;have hL2:k2.isSeq (Shared.heap ⟨hp.push { cls:=.type k1.cls,data:=.fields #[.ref l1,.int 0 0] },g,d,tk,os⟩) l2 ys:=k2.seqK hl2 λo e=>ao _ e
  wp_walk using k1.iter hL1,k2.iter hL2
  exact ⟨_,rfl,h⟩
section
variable {prog:Program}{w:World}{A:Around}{E:Value->Shared->Prop}{s:Shared}
theorem cN (k1 k2:SeqK) {l1 l2:Addr}{xs ys:Array Value}{Q:Value->Shared->Prop}(hl1:k1.isSeq s.heap l1 xs) (hl2:k2.isSeq s.heap l2 ys)
  (h:∀ h',IsZip h' (s.heap.objs.size+4) (s.heap.objs.size+2) (s.heap.objs.size+3) .none->IsPair h' (s.heap.objs.size+2) (.ref s.heap.objs.size) (.ref (s.heap.objs.size+1)) ->
   IsPair h' (s.heap.objs.size+3) .none .none->k1.isIt h' s.heap.objs.size l1 0->k2.isIt h' (s.heap.objs.size+1) l2 0->h'.objs.size=s.heap.objs.size+5 ->
   (∀ c o,s.heap.get? c=some o->h'.get? c=some o)->Q (.ref (s.heap.objs.size+4)) { s with heap:=h' }) :
  wpAny (model prog w) A (call (.type "zip") [.ref l1,.ref l2]) Q E s:=by
 refine TY F.called_zip (by decide) (F.typeCall_zip_2 _ _) (F.newCall_zip_2 _ _) (λobj=>F.args_object_init_3 obj _ _) F.entry_zip_new
  (Xj k1 k2 l1 l2 xs ys) ⟨hl1,hl2,?_⟩
 have z1:(zK1 k1 s.heap l1).objs.size=s.heap.objs.size+1:=ir ..;have z2:(zK2 k1 k2 s.heap l1 l2).objs.size=s.heap.objs.size+2:=by rw [ir,z1]
 have z3:(zK3 k1 k2 s.heap l1 l2).objs.size=s.heap.objs.size+3:=by rw [ir,z2]
 have z4:(zK4 k1 k2 s.heap l1 l2).objs.size=s.heap.objs.size+4:=by rw [ir,z3]
 have z5:(zK5 k1 k2 s.heap l1 l2).objs.size=s.heap.objs.size+5:=by rw [ir,z4]
 have g5:(zK5 k1 k2 s.heap l1 l2).get? (zK4 k1 k2 s.heap l1 l2).objs.size=some _:=bh _ rfl;have g4:(zK5 k1 k2 s.heap l1 l2).get? (zK3 k1 k2 s.heap l1 l2).objs.size=some _:=ao _ (bh _ rfl);have g3:(zK5 k1 k2 s.heap l1 l2).get? (zK2 k1 k2 s.heap l1 l2).objs.size=some _:=ao _ (ao _ (bh _ rfl));have g2:(zK5 k1 k2 s.heap l1 l2).get? (zK1 k1 s.heap l1).objs.size=some _:=ao _ (ao _ (ao _ (bh _ rfl)));have g1:(zK5 k1 k2 s.heap l1 l2).get? s.heap.objs.size=some _:=ao _ (ao _ (ao _ (ao _ (bh _ rfl))));show _/\_;rw [z2,z3,z4] at g5;rw [z1,z2] at g3;rw [z3] at g4;rw [z1] at g2;rw [z4]
 exact ⟨⟨_,g5,rfl⟩,h _ g5 g3 g4 (k1.itK (k1.new s.heap l1) λo e=>ao _ (ao _ (ao _ (ao _ e)))) (by
  have:=k2.itK (h':=zK5 k1 k2 s.heap l1 l2) (k2.new (zK1 k1 s.heap l1) l2) λo e=>ao _ (ao _ (ao _ e))
  rw [z1] at this
  exact this) z5 λc o x =>
  ao _ (ao _ (ao _ (ao _ (ao _ x))))⟩
end
noncomputable def Aa6:List D->MH->Option (Src×MH)
 | [x,y],mh=>match srcOf x mh,srcOf y mh with
  | some s,some t=>some (.zip s t,mh)
  | _,_=>none
 | _,_=>none
noncomputable def Xk (mr:DM (List D)):DM Src:=mr.bnd λds=>λ_ mh=>Aa6 ds mh
theorem jW {K:aj}{H:Hp}{ρ:List Addr}{mh:MH}{x:D}{v:V}{s:Src}(rs:RS K H ρ mh) (r:RD K H ρ x v) (e:srcOf x mh=some s):∃ (k:SeqK) (a:Addr) (xs:List V),v=.ref a/\SR k K H ρ s a/\k.sq K H a xs:=by
 cases x with
 | tup ds =>
  cases e;cases r with
  | tup sq r=>exact ⟨Aa4,_,_,rfl,SR.tup sq r,sq⟩
 | ref n =>
  cases eo:mh[n]? with
  | none=>simp only [srcOf,eo] at e;cases e
  | some ob =>
   cases ob with
   | dct kvs=>simp only [srcOf,eo] at e;cases e
   | dtk kvs=>simp only [srcOf,eo] at e;cases e
   | plc=>simp only [srcOf,eo] at e;cases e
   | plq=>simp only [srcOf,eo] at e;cases e
   | fzd=>simp only [srcOf,eo] at e;cases e
   | lst o =>
   simp only [srcOf,eo] at e;cases e;cases r with
   | @ref _ a' h =>
    obtain ⟨a2,ha2,ro⟩:=rs.at eo;rw [h] at ha2;cases ha2;obtain ⟨xs,sq,r⟩:=ro.read;exact ⟨Xh,_,xs,rfl,SR.lst h,sq⟩
 | rol ds =>
  cases e;cases r with
  | rol sq r=>exact ⟨Xh,_,_,rfl,SR.rol sq r,sq.sq⟩
 | non=>cases e
 | bl b=>cases e
 | int i=>cases e
 | str z=>cases e
 | obj c ks ds=>cases e
 | fn x=>cases e
 | lam=>cases e
 | clo=>cases e
theorem JR.zip {k1 k2:SeqK}{K:aj}{H0:Hp}{ρ0:List Addr}{s1 s2:Src}{a1 a2:Addr}(S1:SR k1 K H0 ρ0 s1 a1) (S2:SR k2 K H0 ρ0 s2 a2):JR K H0 ρ0 (.zip s1 s2) (Itz k1 k2 K a1 a2) where
 go:=λH ρ mh i d e rs q=>by
  have q:(BK (λa b=>D.tup [a,b]) (s1.items mh) (s2.items mh))[i]?=some d:=q;rw [List.getElem?_zipWith] at q;cases e1:(s1.items mh)[i]? with
  | none=>rw [e1] at q;simp at q
  | some d1 =>
   cases e2:(s2.items mh)[i]? with
   | none=>rw [e1,e2] at q;simp at q
   | some d2 =>
    rw [e1,e2] at q;cases q;obtain ⟨xs,sq,r⟩:=S1.rd H ρ mh e rs (S1.ok mh i d1 e1);obtain ⟨ys,sq2,r2⟩:=S2.rd H ρ mh e rs (S2.ok mh i d2 e2);obtain ⟨v,ev,rv⟩:=r.get e1;obtain ⟨u,eu,ru⟩:=r2.get e2;refine ⟨⟨xs,ys,v,u,sq,sq2,ev,eu⟩,?_⟩;rintro x H' ⟨T,x',y',hT,h1,h2,h3,h4⟩;subst h1;subst h4;have t1:=h2 xs sq;rw [ev] at t1;cases t1;have t2:=h3 ys sq2;rw [eu] at t2;cases t2;exact ⟨Ev.new hT,rs.new hT,.tup (.inl (.inl Ag)) (.cons (rv.mono (Ev.new hT)) (.cons (ru.mono (Ev.new hT)) .nil))⟩
 stop:=λH ρ mh i e rs q=>by
  have q:((s1.ok mh&&s2.ok mh)&&decide ((BK (λa b=>D.tup [a,b]) (s1.items mh) (s2.items mh)).length<=i))=true:=q;rw [aq,aq,List.length_zipWith] at q;obtain ⟨xs,sq,r⟩:=S1.rd H ρ mh e rs q.1.1;obtain ⟨ys,sq2,r2⟩:=S2.rd H ρ mh e rs q.1.2;have:=of_decide_eq_true q.2;refine ⟨xs,ys,sq,sq2,?_⟩;rw [← r.length,← r2.length];omega
section
variable {X:Cx}
theorem boot_zip:bootBuiltins "zip"=some (.type "zip"):=by decide +kernel
theorem uD (k1 k2:SeqK) {pins:List (Addr×Obj)}{σ:L2.St}{H:Hp}{s:Shared}{R:It->Hp->Prop}{E:Value->Shared->Prop}{elts:List Expr}{kk:Nat}{tp:Pos}{a b:Addr}{xs ys:List V}(I:Inv X pins σ H s) (hq:k1.sq X.K H a xs) (hq2:k2.sq X.K H b ys) (hR:R (Itz k1 k2 X.K a b) H) :
  wpAny (model X.prog X.w) X.A (call (.type "zip") [.ref a,.ref b]) (λv s1=>wpAny (model X.prog X.w) X.A (pyIter v) (PIE X pins σ (.Tuple elts kk tp) R) E s1) E s:=by
 obtain ⟨its,rv,p,hz⟩:=k1.get I hq;obtain ⟨its2,rv2,p2,hz2⟩:=k2.get I hq2;refine cN k1 k2 p p2 λh' g1 g2 g3 g4 g5 hsz hk=>wpAny_pyIter_zip g1 ?_
 have I1:Inv X pins σ H { s with heap:=h' }:=I.kept (t':=s.toks) hk;refine ⟨s.heap.objs.size+4,[s.heap.objs.size+4,s.heap.objs.size+2,s.heap.objs.size+3,s.heap.objs.size,s.heap.objs.size+1],_,Itz k1 k2 X.K a b,H,rfl,I1,jV k1 k2 a b _ _ _ _ _ ?_,⟨g1,g2,⟨_,_,g3⟩,g4,g5⟩,λc hc=>?_,hR⟩
 ·generalize s.heap.objs.size=N;exact ⟨cj (jz (jh _)),cj (jh _),cj (BW (by decide)),cj (RP (by decide) N),cj (jh _),jo (BW (by decide)),jo (jh _),jo (BW (by decide)),jo (RP (by decide) N),cj (jh _)⟩
 ·have hc:c=s.heap.objs.size+4\/c=s.heap.objs.size+2\/c=s.heap.objs.size+3\/c=s.heap.objs.size\/c=s.heap.objs.size+1:=by simpa using hc
  have:s.heap.objs.size<=c:=by
   rcases hc with e | e | e | e | e <;> rw [e]
   ·exact CW _ _
   ·exact CW _ _
   ·exact CW _ _
   ·exact bx _
   ·exact CW _ _
  exact I.fpOk this (I.hok.fresh this)
theorem Aa7 {a b:Expr}{mr:DM (List D)}{elts:List Expr}{kk:Nat}{tp p pos:Pos}(hg:Gl X "zip") (hm:X.mg "zip"=none) (ha:DA X [a,b] mr) (hs:starEach [a,b] X.env=(false,eval a X.env)::starEach [b] X.env) (hpl:(backTo pos (starEach [b] X.env)).any (·.1)=false) :
  DI X (.Tuple elts kk tp) (.Call (.Name "zip" p) [a,b] [] pos) (Xk mr):=λloc mh=>by
 cases ea:mr loc mh with
 | none =>
  have:Xk mr loc mh=none:=by unfold Xk DM.bnd;rw [ea]
  rw [this];exact Cu
 | some pr =>
  obtain ⟨ds,m1⟩:=pr;have eq:Xk mr loc mh=Aa6 ds m1:=by unfold Xk DM.bnd;rw [ea]
  rw [eq];rintro pins s σ H R I ⟨ρ,src,mh',q,rl,rs,co⟩;refine Call_ (Ie I hg hm boot_zip (PyProof.Rows.callWith_type1 (thn (ha loc mh pos pins s σ H (λvs H1=>∃ ρ1,Ev X.K H ρ H1 ρ1/\RS X.K H1 ρ1 m1/\RDs X.K H1 ρ1 ds vs) I ⟨ρ,ds,m1,ea,rl,rs,λH1 ρ1 v e1 rs1 r1=>⟨ρ1,e1,rs1,r1⟩⟩) ?_) hs hpl));rintro us s1 ⟨vs,H1,I1,r1,q1⟩;obtain ⟨ρ1,e1,rs1,rx⟩:=q1;unfold Aa6 at q;split at q
  ·rename_i x y;cases rx with
   | cons rx ry =>
    cases ry with
    | cons ry rz =>
     cases rz;split at q
     ·rename_i s1' t1' es et;cases q;obtain ⟨k1,a1,xs,rfl,S1,sq1⟩:=jW rs1 rx es;obtain ⟨k2,a2,ys,rfl,S2,sq2⟩:=jW rs1 ry et;cases r1 with
      | cons u1 r1 =>
       cases r1 with
       | cons u2 r1 =>
        cases r1;cases u1;cases u2;exact uD k1 k2 I1 sq1 sq2 (co H1 ρ1 _ e1 rs1 (JR.zip S1 S2))
     ·cases q
  ·cases q
end
section
variable {prog:Program}{w:World}{A:Around}{E:Value->Shared->Prop}{s:Shared}
end
section
variable {prog:Program}{w:World}{A:Around}{E:Value->Shared->Prop}{s:Shared}{k1 k2:SeqK}{S z TI TO i1 i2 l1 l2:Addr}{i:Nat}
end
noncomputable def Aa8 (a b:D):D:=.tup [a,b]
noncomputable def jX:List D->MH->Option (D×MH)
 | [x,y],mh=>match Dv x mh,Dv y mh with
  | some as,some bs=>some (.ref mh.length,mh++[.lst (BK Aa8 as bs)])
  | _,_=>none
 | _,_=>none
section
variable {X:Cx}
theorem boot_list:bootBuiltins "list"=some (.type "list"):=by decide +kernel
end
end DL
namespace DL
open PySem PySem.Spec PyProof.Rows L2 PySem.W
noncomputable def jY:List D->MH->Option (D×MH)
 | [x,y],mh=>match Dv x mh,Dv y mh with
  | some as,some bs=>match jT (BK Aa8 as bs) with
   | some ks=>if ks.Nodup/\ks.length < 64 then some (.ref (mh.length+1),mh++[.lst (BK Aa8 as bs)]++[.lst ((xV ks).map txD)]) else none
   | none=>none
  | _,_=>none
 | _,_=>none
section
variable {X:Cx}
end
end DL
namespace DL
open PySem PySem.Spec PyProof.Rows L2
theorem cnt_ints (k:Int):∀ {its:List Value}{ns:List Int},IntsAre its ns->its.countP (isInt k)=ns.countP (·==k)
 | _,_,.nil=>rfl
 | _,_,.cons n t h=>by
  rw [wz,wz,cnt_ints k h];rfl
noncomputable def cO:D->List D->MH->Option (D×MH)
 | .tup ds,[.int k],mh=>match intsOf ds with
  | some ns=>some (.int (ns.countP (·==k):Nat),mh)
  | none=>none
 | _,_,_=>none
noncomputable def Aa9:D->List D->MH->Option (D×MH)
 | .ref n,[.int k],mh=>match mh[n]? with
  | some (.lst ds)=>(match intsOf ds with
   | some ns=>some (.int (ns.countP (·==k):Nat),mh)
   | none=>none)
  | _=>none
 | _,_,_=>none
section
variable {X:Cx}
theorem uE:MtR X "tuple.count" (rDM X.K cO):=by
 rintro pins s σ H x xs v us Q I rx rv ⟨ρ,mh,dx,ds,d,mh',q,rs,r1,r2,co⟩
 match dx,ds,q with
 | .tup es,[.int k],q =>
  simp only [cO] at q;split at q
  ·rename_i ns en;cases q;obtain ⟨y,rfl,ry⟩:=Ik r2;cases ry;obtain ⟨u,rfl,ru⟩:=rv.one;obtain ⟨t,rfl⟩:=ru;cases r1 with
   | @tup _ a ws sq rr =>
    cases rx;rw [Dm en] at rr;rw [Il rr] at sq;obtain ⟨its,rvv,pl,hz⟩:=I.tuple sq;have hi:IntsAre its ns:=intsAre_of rvv;obtain ⟨⟨cls,dd,data,sl⟩,ho,hc,n,hd⟩:=id pl;simp only at hc hd;subst hc hd;refine vq JW ⟨_,ho,rfl⟩ PySem.F.entry_tuple_count (PySem.F.args_tuple_count_2 _ _) (PySem.SeqAt.tuple_countAt a its.toArray n dd sl (.int k t) (isInt k)) ⟨ho,λy hy=>(eq_isInt k t hi y (by simpa using hy)).at _ _,?_⟩;rw [show its.toArray.toList=its from rfl,cnt_ints k hi];exact ⟨.int _,H,I.tok _,⟨_,rfl⟩,co H ρ _ Ev.refl rs (.int _)⟩
  ·cases q
theorem uF:MtR X "list.count" (rDM X.K Aa9):=by
 rintro pins s σ H x xs v us Q I rx rv ⟨ρ,mh,dx,ds,d,mh',q,rs,r1,r2,co⟩
 match dx,ds,q with
 | .ref nn,[.int k],q =>
  simp only [Aa9] at q;split at q
  ·rename_i es em;split at q
   ·rename_i ns en;cases q;obtain ⟨y,rfl,ry⟩:=Ik r2;cases ry;obtain ⟨u,rfl,ru⟩:=rv.one;obtain ⟨t,rfl⟩:=ru;cases r1 with
    | @ref _ a h =>
     cases rx;obtain ⟨a',ha,ro⟩:=rs.at em;rw [h] at ha;cases ha;obtain ⟨ws,sq,rr⟩:=ro.read;have rr:RDs X.K H ρ es ws:=rr;rw [Dm en] at rr;rw [Il rr] at sq;obtain ⟨its,rvv,pl,hz⟩:=I.list sq;have hi:IntsAre its ns:=intsAre_of rvv;obtain ⟨⟨cls,dd,data,sl⟩,n,ho,hc,hdd,hd⟩:=id pl;simp only at hc hd;subst hc hd;refine vq BX ⟨_,ho,rfl⟩ JX (JG _ _) (JZ a its.toArray n dd sl (.int k t) (isInt k)) ⟨ho,λy hy=>(eq_isInt k t hi y (by simpa using hy)).at _ _,?_⟩;rw [show its.toArray.toList=its from rfl,cnt_ints k hi];exact ⟨.int _,H,I.tok _,⟨_,rfl⟩,co H ρ _ Ev.refl rs (.int _)⟩
   ·cases q
  ·cases q
end
noncomputable def Jt (T1:String) (f1:D->List D->MH->Option (D×MH)) (T2:String) (f2:D->List D->MH->Option (D×MH)) (mo:DM D) (mr:DM (List D)):DM D:=λloc mh=>match mo loc mh with
 | some (x,m1)=>if S6 T1 x m1 then Du T1 f1 mo mr loc mh else Du T2 f2 mo mr loc mh
 | none=>none
theorem Vj {X:Cx}{e:Expr}{T1 T2:String}{f1 f2:D->List D->MH->Option (D×MH)}{mo:DM D}{mr:DM (List D)}(h1:DE X e (Du T1 f1 mo mr)) (h2:DE X e (Du T2 f2 mo mr)):DE X e (Jt T1 f1 T2 f2 mo mr):=λloc mh=>by
 unfold Jt;split
 ·split
  ·exact h1 loc mh
  ·exact h2 loc mh
 ·exact Ax
section
variable {prog:Program}{w:World}{A:Around}{E:Value->Shared->Prop}{s:Shared}
theorem Vk {l:Addr}{vs:List Value}{Q:List Value->Shared->Prop}(hl:s.heap.IsTuple l vs.toArray)
  (h:Q vs { s with heap:=(s.heap.push (seqObj "list" #[] 0)).update s.heap.objs.size (lz (·++vs.toArray)) }) (hsz:vs.length<=sizeLine) :
  wpAny (model prog w) A (collect (.ref l)) Q E s:=by
 obtain ⟨o,ho,hc,n,hd⟩:=id hl;unfold collect;refine ak (wpAny_runValue (FQ entry_proto_collect' ?_))
 show wpAny _ _ (do again (.builtin "list.__iadd__" ⟨[← newList [],.ref l],[]⟩)) _ _ s;refine ak (wpAny_newList (bf ⟨Code.quiet_builtin _ (by decide +kernel),FQ entry_list_iadd' ?_⟩))
 show wpAny _ _ (uo (.ref s.heap.objs.size) (.ref l) (.ref s.heap.objs.size)) _ _ { s with heap:=s.heap.push (seqObj "list" #[] 0) };unfold uo
 have ho':(s.heap.push (seqObj "list" #[] 0)).get? l=some o:=ao _ ho
 refine ak (zy (T := "tuple") ⟨o,ho',hc⟩ ?_)
 have ht:(Value.type "tuple"==Value.type "tuple")=true:=by rfl
 rw [if_pos (by rw [ht];simp)];refine ak (listItems_at ho' hd ?_);refine ak (listItems_at (xs:=#[]) (n:=0) (bh _ rfl) rfl ?_);rw [if_neg (by simp)];refine ak (listUpdate_at (xs:=#[]) (n:=0) (bh _ rfl) rfl ?_ (qx _) (by show (#[]++vs.toArray).size<=sizeLine+1;simp only [Array.size_append,cg,FJ];omega));refine bf ?_
 show wpAny (model prog w) A (do
   let o ← load s.heap.objs.size
   match o.data with
   | .seq xs _=>pure xs.toList
   | _=>unsupported "internal:collect") Q E { s with heap:=(s.heap.push (seqObj "list" #[] 0)).update s.heap.objs.size (lz (·++vs.toArray)) }
 refine ak (WK (get?_update_seq (bh _ rfl) _) ?_);show wpAny _ _ (pure ((#[]:Array Value)++vs.toArray).toList) Q E _;rw [show ((#[]:Array Value)++vs.toArray).toList=vs by simp];exact bf h
theorem Te {l:Addr}{vs:List Value}{ns:List Int}{Q:Value->Shared->Prop}(hl:s.heap.IsTuple l vs.toArray) (hI:IntsAre vs ns) (h64:vs.length < 64)
  (h:∀ (out:Array Value) (ns':List Int),IntsAre out.toList ns'->ns'.Perm ns->ns'.Pairwise (·<=·)->Q (.ref (s.heap.objs.size+1)) { s with heap:=sortedAll s.heap vs out }) :
  wpAny (model prog w) A (call (.builtin "sorted") [.ref l]) Q E s:=by
 refine JH kind_sorted plain_sorted entry_sorted (args_sorted1 _) ?_;unfold Builtin.«sorted»
 refine ak (m:=checkCount "sorted" 1 1 _) (bf ?_);refine ak (Vk hl ?_ (by rw [ji];omega));refine ak (wpAny_newList ?_ (by rw [ji];omega))
 have hsz:((s.heap.push (seqObj "list" #[] 0)).update s.heap.objs.size (lz (·++vs.toArray))).objs.size=s.heap.objs.size+1:=by
  rw [Heap.size_update,size_push']
 have hoL:(((s.heap.push (seqObj "list" #[] 0)).update s.heap.objs.size (lz (·++vs.toArray))).push (seqObj "list" vs.toArray 0)).get? (s.heap.objs.size+1)=some (seqObj "list" vs.toArray 0):=by
  rw [← hsz];exact bh _ rfl
 show wpAny _ _ _ _ _ { s with heap:=((s.heap.push (seqObj "list" #[] 0)).update s.heap.objs.size (lz (·++vs.toArray))).push (seqObj "list" vs.toArray 0) };rw [hsz];refine ak (sy (qb slot_list_sort ⟨_,hoL,rfl⟩ entry_list_sort (list_sort_tree hoL hI h64 λout ns' a1 a2 a3=>⟨_,rfl,?_⟩) (args_list_sort _)));exact bf ⟨_,rfl,h out ns' a1 a2 a3⟩
end
noncomputable def Nv:List D->MH->Option (D×MH)
 | [.tup ds],mh=>match intsOf ds with
  | some ns=>if ns.length < 64 then some (.ref mh.length,mh++[.lst ((sortI ns).map .int)]) else none
  | none=>none
 | ds,mh=>Nu ds mh
theorem Tf {X:Cx}:Ay X (.builtin "sorted") (rDs X.K Nv):=by
 rintro pins s σ H xs us Q I r ⟨ρ,mh,ds,d,mh',q,rs,rd,co⟩;unfold Nv at q;split at q
 ·rename_i es;split at q
  ·rename_i ns ei;split at q
   ·rename_i h64;cases q;obtain ⟨v,rfl,rx⟩:=Ik rd;obtain ⟨u,rfl,ru⟩:=vals1 r;cases rx with
    | tup sq ry =>
     cases ru;rw [Dm ei] at ry;rw [Il ry] at sq;obtain ⟨its,rv,pl,hz⟩:=I.tuple sq;have hlen:=rv.length;refine Te pl (Lg rv) (by simp at hlen;omega) λout ns' a1 a2 a3=>?_
     have es':ns'=sortI ns:=Vi a2 a3;subst es';obtain ⟨c,kp,at'⟩:=K1 s.heap its out;refine ⟨.ref (s.heap.objs.size+1),_,I.laid (t':=s.toks) (a:=s.heap.objs.size+1) (o:=.lst ((sortI ns).map V.int)) kp (qw _) ⟨?_,out.toList,c,Fz a1,?_⟩,rfl,Co.newL rs (J4 (sortI ns)) co _ (I.hok.fresh (qw _))⟩
     ·rw [fu,(sortI_perm ns).length_eq,ji];omega
     ·rw [at']
   ·cases q
  ·cases q
 ·exact Td pins s σ H xs us Q I r ⟨ρ,mh,_,d,mh',q,rs,rd,co⟩
inductive DEnts (w:World) (K:aj):List DictEntry->List (Str×D)->Prop
 | nil:DEnts w K [] []
 | cons {k:Str} {t:Tok} {u:Value} {v:V} {d:D} {es:List DictEntry} {kvs:List (Str×D)}:RelV v u->(∀ H ρ,RD K H ρ d v)->DEnts w K es kvs->DEnts w K ({ hash:=hashStr w k,key:=.str k t,val:=u }::es) ((k,d)::kvs)
structure DicOk (w:World) (K:aj) (a:Addr) (kvs:List (Str×D)):Prop where
 ns:(a==sysModules)=false
 ob:∃ o es ep,K.lookup a=some o/\o.ExactDict/\o.data=.dict es ep/\DEnts w K es.toList kvs
noncomputable def El (es:List DictEntry) (k:Str):Option Value:=match es with
 | []=>none
 | e::r=>if Value.isStrOf k e.key then some e.val else El r k
theorem My (es:Array DictEntry) (k:Str):findBy Value.isStrOf es k=El es.toList k:=by
 obtain ⟨l⟩:=es;simp only [findBy,List.find?_toArray]
 induction l with
 | nil=>rfl
 | cons e r ih =>
  rw [lg];show _=(if Value.isStrOf k e.key=true then some e.val else El r k);cases h:Value.isStrOf k e.key with
  | true=>rfl
  | false=>exact ih
theorem J5 {w:World}{K:aj}:∀ {es:List DictEntry}{kvs:List (Str×D)},DEnts w K es kvs->∀ k:Str,(∃ d u v,kvs.lookup k=some d/\El es k=some u/\RelV v u/\∀ H ρ,RD K H ρ d v)\/(kvs.lookup k=none/\El es k=none)
 | _,_,.nil,k=>.inr ⟨rfl,rfl⟩
 | _,_,@DEnts.cons _ _ k0 t u v d es kvs rv rd h,k=>by
  by_cases e:k=k0
  ·subst e;left;refine ⟨d,u,v,by simp [qe],?_,rv,rd⟩;simp [El,Value.isStrOf]
  ·have e1:(k==k0)=false:=by simpa using e
   have e2:Value.isStrOf k (.str k0 t)=false:=by
    simp [Value.isStrOf];exact λz=>e z.symm
   rcases J5 h k with ⟨d',u',v',h1,h2,h3,h4⟩|⟨h1,h2⟩
   ·left;refine ⟨d',u',v',by rw [iz,e1];exact h1,?_,h3,h4⟩;show (if Value.isStrOf k (.str k0 t)=true then some u else El es k)=some u';rw [e2];exact h2
   ·right;refine ⟨by rw [iz,e1];exact h1,?_⟩;show (if Value.isStrOf k (.str k0 t)=true then some u else El es k)=none;rw [e2];exact h2
theorem Oz {P:Program}{w:World}{K:aj}{es:List DictEntry}{kvs:List (Str×D)}(h:DEnts w K es kvs):∀ e∈es,∃ k,(xu P w).is k e.key=true/\e.hash=(xu P w).hash k:=by
 induction h with
 | nil=>intro e he;cases he
 | cons rv rd h ih =>
  intro e he;rcases gn.mp he with rfl|he
  ·exact ⟨_,by simp [xu,Value.isStrOf],rfl⟩
  ·exact ih e he
section
variable {X:Cx}{a:Addr}{kvs:List (Str×D)}
theorem DicOk.map {pins:List (Addr×Obj)}{σ:L2.St}{H:Hp}{s:Shared}(D:DicOk X.w X.K a kvs) (I:Inv X pins σ H s):∃ f,s.heap.MapOf (xu X.prog X.w) a f/\∀ k,(∃ d u v,kvs.lookup k=some d/\f k=some u/\RelV v u/\∀ H ρ,RD X.K H ρ d v)\/(kvs.lookup k=none/\f k=none):=by
 obtain ⟨o,es,ep,h1,h2,h3,h4⟩:=D.ob;refine ⟨El es.toList,⟨o,es,ep,I.kIn a o h1,h2,h3,λe he=>Oz h4 e (by simpa using he),λk=>My es k⟩,J5 h4⟩
theorem Vl (D:DicOk X.w X.K a kvs):OpR X (compareOp .In) (λy x H Q=>∃ k,y=.str k/\x=.ref a/\Q (.bl (kvs.lookup k).isSome) H):=by
 rintro pins s σ H x y v u Q I rx ry ⟨k,ex,ey,q⟩;subst ex;subst ey;obtain ⟨t,rfl⟩:=rx;cases ry;obtain ⟨f,m,hf⟩:=D.map I;refine wpAny_in_of (knd:=xu X.prog X.w) (WN _ _ k t) D.ns m ?_;have e:(f k).isSome=(kvs.lookup k).isSome:=by
  rcases hf k with ⟨d,u,v,h1,h2,_⟩|⟨h1,h2⟩
  ·rw [h1,h2];rfl
  ·rw [h1,h2];rfl
 rw [e];exact ⟨.bl _,H,I.tok _,rfl,q⟩
theorem Mz (D:DicOk X.w X.K a kvs):OpR X (compareOp .NotIn) (λy x H Q=>∃ k,y=.str k/\x=.ref a/\Q (.bl (!(kvs.lookup k).isSome)) H):=by
 rintro pins s σ H x y v u Q I rx ry ⟨k,ex,ey,q⟩;subst ex;subst ey;obtain ⟨t,rfl⟩:=rx;cases ry;obtain ⟨f,m,hf⟩:=D.map I;refine wpAny_notIn_of (knd:=xu X.prog X.w) (WN _ _ k t) D.ns m ?_;have e:(f k).isSome=(kvs.lookup k).isSome:=by
  rcases hf k with ⟨d,u,v,h1,h2,_⟩|⟨h1,h2⟩
  ·rw [h1,h2];rfl
  ·rw [h1,h2];rfl
 rw [e];exact ⟨.bl _,H,I.tok _,rfl,q⟩
theorem Aba (D:DicOk X.w X.K a kvs):IxR X (λx y H Q=>∃ k d,x=.ref a/\y=.str k/\kvs.lookup k=some d/\∀ v,(∀ H ρ,RD X.K H ρ d v)->Q v H):=by
 rintro value slice pins s σ H x y v u Q I rx ry ⟨k,d,ex,ey,hl,q⟩ hs;subst ex;subst ey;cases rx;obtain ⟨t,rfl⟩:=ry;obtain ⟨f,m,hf⟩:=D.map I;rcases hf k with ⟨d',u',v',h1,h2,h3,h4⟩|⟨h1,h2⟩
 ·rw [hl] at h1;cases h1;exact ug (x:=u') m.typeIs PySem.F.slot_dict_getitem.lookup (wpAny_getItem_of (knd:=xu X.prog X.w) (WN _ _ k t) m h2 ⟨rfl,⟨v',H,I.tok _,h3,q v' h4⟩⟩) hs
 ·rw [hl] at h1;cases h1
variable {e:Expr}{me:DM D}{x:Str}{p pos:Pos}
noncomputable def K3 (neg:Bool) (kvs:List (Str×D)) (m:DM D):DM D:=m.bnd λy=>match y with
 | .str k=>Zr (.bl (if neg then !(kvs.lookup k).isSome else (kvs.lookup k).isSome))
 | _=>Zb
noncomputable def Zv (kvs:List (Str×D)) (m:DM D):DM D:=m.bnd λy=>match y with
 | .str k=>(match kvs.lookup k with | some d=>Zr d | none=>Zb)
 | _=>Zb
theorem jZ (D:DicOk X.w X.K a kvs) (hg:Gl X x) (hm:X.mg x=some (.ref a)) (hd:(x==("__debug__":Str))=false) (he:DE X e me):DE X (.Compare e [.In] [.Name x p] pos) (K3 false kvs me):=λloc mh =>
 Ar (Ry (Vl D) (he loc mh) (Hg (v:=.ref a) hg hm rfl hd) rfl) λσ H Q ⟨ρ,d,mh',q,rl,rs,co⟩=>by
  obtain ⟨y,m1,ea,q⟩:=Ah q;cases y with
  | str k=>cases q;exact ⟨ρ,_,_,ea,rl,rs,λH1 ρ1 v e1 rs1 r1=>by cases r1;exact ⟨k,rfl,rfl,co H1 ρ1 _ e1 rs1 (.bl _)⟩⟩
  | _=>cases q
theorem Vm (D:DicOk X.w X.K a kvs) (hg:Gl X x) (hm:X.mg x=some (.ref a)) (hd:(x==("__debug__":Str))=false) (he:DE X e me):DE X (.Compare e [.NotIn] [.Name x p] pos) (K3 true kvs me):=λloc mh =>
 Ar (Ry (Mz D) (he loc mh) (Hg (v:=.ref a) hg hm rfl hd) rfl) λσ H Q ⟨ρ,d,mh',q,rl,rs,co⟩=>by
  obtain ⟨y,m1,ea,q⟩:=Ah q;cases y with
  | str k=>cases q;exact ⟨ρ,_,_,ea,rl,rs,λH1 ρ1 v e1 rs1 r1=>by cases r1;exact ⟨k,rfl,rfl,co H1 ρ1 _ e1 rs1 (.bl _)⟩⟩
  | _=>cases q
theorem kE (D:DicOk X.w X.K a kvs) (hg:Gl X x) (hm:X.mg x=some (.ref a)) (hd:(x==("__debug__":Str))=false) (he:DE X e me):DT X (.Compare e [.In] [.Name x p] pos) (Am (K3 false kvs me)):=λloc mh =>
 Lb (Rz (Vl D) (he loc mh) (Hg (v:=.ref a) hg hm rfl hd) rfl) λσ H Q ⟨ρ,b,mh',q,rl,rs,co⟩=>by
  have q:=Dj q;obtain ⟨y,m1,ea,q⟩:=Ah q;cases y with
  | str k=>cases q;exact ⟨ρ,_,_,ea,rl,rs,λH1 ρ1 v e1 rs1 r1=>by cases r1;exact ⟨k,rfl,rfl,_,rfl,co H1 ρ1 e1 rs1⟩⟩
  | _=>cases q
theorem Vn (D:DicOk X.w X.K a kvs) (hg:Gl X x) (hm:X.mg x=some (.ref a)) (hd:(x==("__debug__":Str))=false) (he:DE X e me):DT X (.Compare e [.NotIn] [.Name x p] pos) (Am (K3 true kvs me)):=λloc mh =>
 Lb (Rz (Mz D) (he loc mh) (Hg (v:=.ref a) hg hm rfl hd) rfl) λσ H Q ⟨ρ,b,mh',q,rl,rs,co⟩=>by
  have q:=Dj q;obtain ⟨y,m1,ea,q⟩:=Ah q;cases y with
  | str k=>cases q;exact ⟨ρ,_,_,ea,rl,rs,λH1 ρ1 v e1 rs1 r1=>by cases r1;exact ⟨k,rfl,rfl,_,rfl,co H1 ρ1 e1 rs1⟩⟩
  | _=>cases q
theorem kI (D:DicOk X.w X.K a kvs) (hg:Gl X x) (hm:X.mg x=some (.ref a)) (hd:(x==("__debug__":Str))=false) (he:DE X e me) (hs:Nm e):DE X (.Subscript (.Name x p) e pos) (Zv kvs me):=λloc mh =>
 Ar (xQ (Aba D) (Hg (v:=.ref a) hg hm rfl hd) (he loc mh) hs) λσ H Q ⟨ρ,d,mh',q,rl,rs,co⟩=>by
  obtain ⟨y,m1,ea,q⟩:=Ah q;cases y with
  | str k =>
   cases hl:kvs.lookup k with
   | some d' =>
    simp only [hl] at q;cases q;exact ⟨ρ,_,_,ea,rl,rs,λH1 ρ1 v e1 rs1 r1=>by cases r1;exact ⟨k,d,rfl,rfl,hl,λv' hv=>co H1 ρ1 _ e1 rs1 (hv H1 ρ1)⟩⟩
   | none =>
    simp only [hl] at q;cases q
  | _=>cases q
end
mutual
noncomputable def rdV (K:aj):Nat->Value->Option D
 | _,.none=>some .non
 | _,.bool b=>some (.bl b)
 | _,.int i _=>some (.int i)
 | _,.str x _=>some (.str x)
 | n+1,.ref a=>match K.lookup a with
  | some ⟨.type c,none,.seq its _,_⟩=>if c == "tuple"&&decide (its.size<=1000) then (match O1 K n its.toList with | some ds=>some (.tup ds) | none=>none) else none
  | _=>none
 | _,_=>none
noncomputable def O1 (K:aj):Nat->List Value->Option (List D)
 | _,[]=>some []
 | 0,_::_=>none
 | n+1,u::r=>match rdV K n u with
  | some d=>(match O1 K n r with | some ds=>some (d::ds) | none=>none)
  | none=>none
end
mutual
theorem Xl {K:aj}:∀ (n:Nat) {u:Value}{d:D},rdV K n u=some d->∃ v,RelV v u/\∀ H ρ,RD K H ρ d v
 | n,.none,d,h=>by cases n <;> (simp only [rdV] at h;cases h;exact ⟨.non,rfl,λ_ _=>.non⟩)
 | n,.bool b,d,h=>by cases n <;> (simp only [rdV] at h;cases h;exact ⟨.bl b,rfl,λ_ _=>.bl b⟩)
 | n,.int i t,d,h=>by cases n <;> (simp only [rdV] at h;cases h;exact ⟨.int i,⟨t,rfl⟩,λ_ _=>.int i⟩)
 | n,.str x t,d,h=>by cases n <;> (simp only [rdV] at h;cases h;exact ⟨.str x,⟨t,rfl⟩,λ_ _=>.str x⟩)
 | 0,.ref a,d,h=>by simp only [rdV] at h;cases h
 | n+1,.ref a,d,h=>by
  simp only [rdV] at h;split at h
  ·rename_i c its ep sl hk;split at h
   ·rename_i hc;rw [aq,decide_eq_true_iff] at hc;split at h
    ·rename_i ds hd;cases h;obtain ⟨vs,h1,h2⟩:=Zw n hd;refine ⟨.ref a,rfl,λH ρ=>.tup (.inr ⟨_,its,ep,hk,by rw [bw hc.1],rfl,rfl,?_,h1⟩) (h2 H ρ)⟩;rw [ji];omega
    ·cases h
   ·cases h
  ·cases h
 | n,.float _ _,d,h=>by cases n <;> (simp only [rdV] at h;cases h)
 | n,.bytes _ _,d,h=>by cases n <;> (simp only [rdV] at h;cases h)
 | n,.ellipsis,d,h=>by cases n <;> (simp only [rdV] at h;cases h)
 | n,.notImplemented,d,h=>by cases n <;> (simp only [rdV] at h;cases h)
 | n,.type _,d,h=>by cases n <;> (simp only [rdV] at h;cases h)
 | n,.builtin _,d,h=>by cases n <;> (simp only [rdV] at h;cases h)
theorem Zw {K:aj}:∀ (n:Nat) {us:List Value}{ds:List D},O1 K n us=some ds->∃ vs,Vals vs us/\∀ H ρ,RDs K H ρ ds vs
 | n,[],ds,h=>by cases n <;> (simp only [O1] at h;cases h;exact ⟨[],.nil,λ_ _=>.nil⟩)
 | 0,_::_,ds,h=>by simp only [O1] at h;cases h
 | n+1,u::r,ds,h=>by
  simp only [O1] at h;split at h
  ·rename_i d hd;split at h
   ·rename_i ds' hr;cases h;obtain ⟨v,a1,a2⟩:=Xl n hd;obtain ⟨vs,b1,b2⟩:=Zw n hr;exact ⟨v::vs,.cons a1 b1,λH ρ=>.cons (a2 H ρ) (b2 H ρ)⟩
   ·cases h
  ·cases h
end
noncomputable def rdE (K:aj) (n:Nat):List DictEntry->Option (List (Str×D))
 | []=>some []
 | e::r=>match e.key with
  | .str k _=>(match rdV K n e.val with
   | some d=>(match rdE K n r with | some l=>some ((k,d)::l) | none=>none)
   | none=>none)
  | _=>none
noncomputable def Ds (w:World) (e:DictEntry):DictEntry:=match e.key with
 | .str k t=>{ hash:=hashStr w k,key:=.str k t,val:=e.val }
 | _=>e
theorem kJ {w:World}{K:aj}{n:Nat}:∀ {es:List DictEntry}{kvs:List (Str×D)},rdE K n es=some kvs->DEnts w K (es.map (Ds w)) kvs
 | [],_,h=>by cases h;exact .nil
 | e::r,kvs,h=>by
  obtain ⟨hs,key,val⟩:=e;cases key with
  | str k t =>
   simp only [rdE] at h;split at h
   ·rename_i d hd;split at h
    ·rename_i l hl;cases h;obtain ⟨v,a1,a2⟩:=Xl n hd;exact .cons a1 a2 (kJ hl)
    ·cases h
   ·cases h
  | _=>simp only [rdE] at h;cases h
theorem Lh {w:World}{K:aj}{a:Addr}{es:Array DictEntry}{ep n:Nat}{kvs:List (Str×D)}(hn:(a==sysModules)=false) (hl:K.lookup a=some ⟨.type "dict",none,.dict es ep,#[]⟩) (hh:es.toList.map (Ds w)=es.toList) (hd:rdE K n es.toList=some kvs):DicOk w K a kvs :=
 ⟨hn,_,es,ep,hl,⟨rfl,rfl,rfl⟩,rfl,by rw [← hh];exact kJ hd⟩
theorem O3 {K:aj}{H:Hp}{ρ:List Addr}{f:Str}{d:D}:∀ {ks:List Str}{ds:List D}{xs:List V},RDs K H ρ ds xs->(ks.zip ds).lookup f=some d->∃ v,(ks.zip xs).lookup f=some v/\RD K H ρ d v
 | [],_,_,_,h=>by simp at h
 | k::ks,_,_,.nil,h=>by simp at h
 | k::ks,_,_,.cons r t,h=>by
  rw [UG,iz] at h ⊢;cases e:f==k with
  | true=>rw [e] at h;cases h;exact ⟨_,rfl,r⟩
  | false=>rw [e] at h;exact O3 t h
theorem O4 {f:Str}:∀ {ks:List Str}{xs:List V},ks.contains f=false->(ks.zip xs).lookup f=none
 | [],_,_=>by simp
 | k::ks,[],_=>by simp
 | k::ks,x::xs,h=>by
  rw [List.contains_cons,FZ] at h;rw [UG,iz,h.1];exact O4 h.2
noncomputable def Vo (c f:Str) (x:D) (mh:MH):Option (D×MH):=match x with
 | .obj c' ks ds=>if c'==c then (match (ks.zip ds).lookup f with | some d=>some (d,mh) | none=>none) else none
 | _=>none
section
variable {X:Cx}{o:Expr}{mo:DM D}{c f:Str}{C:Addr}{pos apos:Pos}
theorem Abb (hn:dg X.K mainGlobals c=some (some (.ref C))) (hc:Cls X.K C) (ha:Ck X.K C f) (ho:DE X o mo) (hb:attributeBase o f X.env (eval o X.env)=eval o X.env):DE X (.Attribute o f pos) (mo.bnd λx=>Zl (Vo c f x)):=λloc mh =>
 Ar (zY (ho loc mh) hb) λσ H Q ⟨ρ,d,mh',q,rl,rs,co⟩=>by
  obtain ⟨x,m1,ea,q2⟩:=Ah q
  clear q
  refine ⟨ρ,x,m1,ea,rl,rs,λH1 ρ1 v e1 rs1 r1=>?_⟩;change Vo c f x m1=some (d,mh') at q2;cases r1 with
  | @obj c' ks ds a C' dx xs h1 h2 h3 h4 =>
   simp only [Vo] at q2;split at q2
   ·rename_i hcc;have e:=bw hcc;subst e;rw [hn] at h1;cases h1;split at q2
    ·rename_i d' hl;cases q2;obtain ⟨v',l1,l2⟩:=O3 h4 hl;exact ⟨a,C,dx,_,v',rfl,h2,hc,ha,l1,co H1 ρ1 _ e1 rs1 l2⟩
    ·cases q2
   ·cases q2
  | _=>cases q2
noncomputable def O5 (c m:Str) (f:List D->MH->Option (D×MH)) (mo:DM D) (mr:DM (List D)):DM D:=mo.bnd λx=>match x with
 | .obj c' ks ds=>if c'==c&&!(ks.contains m) then mr.bnd λas=>Zl (f (.obj c' ks ds::as)) else Zb
 | _=>Zb
theorem Rg {env:Env}{o:Expr}{m:Str}{args:List Expr}(hbase:attributeBase o m env (eval o env)=eval o env)
  (hfew:((backTo pos (starEach args env)).all (λx=>!x.1)&&(backToKw pos (keywordEach [] env)).all (λx=>x.1.isSome)&&decide (args.length+([]:List Keyword).length+(if ([]:List Keyword).isEmpty then 0 else 1) < 30))=true)
  (hline:(apos.endLine==pos.line)=true) :
  eval (.Call (.Attribute o m apos) args [] pos) env=(do
   let ov ← eval o env
   standAt apos.atName
   let (f,first) ← holding [ov] (getMethod ov m (do return (← importBound o env).getD true))
   callWith pos f first (backTo pos (starEach args env)) (backToKw pos (keywordEach [] env))):=by
 rw [arm_eval_Call,hbase];have hform:methodCallForm (args.length+([]:List Keyword).length) (backTo pos (starEach args env)) (backToKw pos (keywordEach [] env))=true:=hfew;have hpos:methodCallPos true o env apos pos=pure pos:=by unfold methodCallPos;simp [hline]
 unfold methodCall;rw [hform,hpos];rfl
variable {CX:CXT}{k:Nat}{fa:Addr}{fd:FuncData}{ps:List Str}{m:Str}{g:List D->MH->Option (D×MH)}{e:Expr}{es:List Expr}{mr:DM (List D)}{E:XK}
theorem O6 {loc:Loc}{mh:MH}{r:D×MH}(h:O5 c m g mo mr loc mh=some r):∃ ks ds m1,mo loc mh=some (.obj c ks ds,m1)/\ks.contains m=false/\∃ as m2,mr loc m1=some (as,m2)/\g (.obj c ks ds::as) m2=some r:=by
 obtain ⟨x,m1,ea,h2⟩:=Ah h
 clear h
 cases x with
 | obj c' ks ds =>
  simp only at h2;split at h2
  ·rename_i hc;rw [aq] at hc;have ec:=bw hc.1;subst ec;obtain ⟨as,m2,eb,h3⟩:=Ah h2;exact ⟨ks,ds,m1,ea,by simpa using hc.2,as,m2,eb,h3⟩
  ·cases h2
 | _=>cases h2
theorem uG (hn:dg X.K mainGlobals c=some (some (.ref C))) (hc:Cls X.K C) (hm:Meth X.K C m fa) (F:FnOk X.prog X.w X.K X.mg X.base CX k fa fd ps (spD X.K ps.length g)) (hr:Room k X.A) (hb:Binds X.K fd ps []) (hx:Bh CX X E) (ho:DE X o mo) (ha:DA X (e::es) mr)
  (hl:∀ ds mh r,g ds mh=some r->ds.length=ps.length) (hbase:attributeBase o m X.env (eval o X.env)=eval o X.env)
  (hfew:((backTo pos (starEach (e::es) X.env)).all (λx=>!x.1)&&(backToKw pos (keywordEach [] X.env)).all (λx=>x.1.isSome)&&decide ((e::es).length+([]:List Keyword).length+(if ([]:List Keyword).isEmpty then 0 else 1) < 30))=true)
  (hline:(apos.endLine==pos.line)=true) (hst:starEach (e::es) X.env=(false,eval e X.env)::starEach es X.env) (hpl:(backTo pos (starEach es X.env)).any (·.1)=false) :
  DE X (.Call (.Attribute o m apos) (e::es) [] pos) (O5 c m g mo mr):=λloc mh=>by
 cases eq:O5 c m g mo mr loc mh with
 | none=>exact Ax
 | some r =>
  obtain ⟨ks,ds,m1,ea,hk,as,m2,eb,hg⟩:=O6 eq;refine Ar (rE (ho loc mh) hc hm F hr hb .nil hx (ha loc m1) hst hpl (Rg hbase hfew hline)) ?_;rintro σ H Q ⟨ρ,d,mh',q,rl,rs,co⟩;cases q;refine ⟨ρ,_,m1,ea,rl,rs,λH1 ρ1 v e1 rs1 r1=>?_⟩;cases r1 with
  | @obj _ _ _ a C' dx xs h1 h2 h3 h4 =>
   rw [hn] at h1;cases h1;refine ⟨a,dx,_,rfl,h2,O4 hk,ρ1,as,m2,eb,rl.mono e1,rs1,λH2 ρ2 vs e2 rs2 r2=>?_⟩;show spD X.K ps.length g (.ref a::(vs++[])) H2 Q E;rw [oh];have rr:RDs X.K H2 ρ2 (.obj c ks ds::as) (.ref a::vs):=.cons (.obj hn (e2.ins _ _ _ _ h2) h3 (h4.mono e2)) r2;exact ⟨by rw [← rr.length];exact hl _ _ _ hg,ρ2,m2,_,d,mh',hg,rs2,rr,co.ev (e1.trans e2)⟩
theorem kO (hn:dg X.K mainGlobals c=some (some (.ref C))) (hc:Cls X.K C) (hm:Meth X.K C m fa) (F:FnOk X.prog X.w X.K X.mg X.base CX k fa fd ps (spD X.K ps.length g)) (hr:Room k X.A) (hb:Binds X.K fd ps []) (hx:Bh CX X E) (ho:DE X o mo)
  (hl:∀ ds mh r,g ds mh=some r->ds.length=ps.length) (hbase:attributeBase o m X.env (eval o X.env)=eval o X.env) (hline:(apos.endLine==pos.line)=true) :
  DE X (.Call (.Attribute o m apos) [] [] pos) (O5 c m g mo (Zr [])):=λloc mh=>by
 cases eq:O5 c m g mo (Zr []) loc mh with
 | none=>exact Ax
 | some r =>
  obtain ⟨ks,ds,m1,ea,hk,as,m2,eb,hg⟩:=O6 eq;cases eb;refine Ar (gM (ho loc mh) hc hm F hr hb .nil hx (Rg hbase rfl hline)) ?_;rintro σ H Q ⟨ρ,d,mh',q,rl,rs,co⟩;cases q;refine ⟨ρ,_,m1,ea,rl,rs,λH1 ρ1 v e1 rs1 r1=>?_⟩;cases r1 with
  | @obj _ _ _ a C' dx xs h1 h2 h3 h4 =>
   rw [hn] at h1;cases h1;refine ⟨a,dx,_,rfl,h2,O4 hk,?_⟩;have rr:RDs X.K H1 ρ1 [.obj c ks ds] [.ref a]:=.cons (.obj hn h2 h3 h4) .nil;have hl1:[V.ref a].length=ps.length:=by rw [← rr.length];exact hl _ _ _ hg
   exact ⟨hl1,ρ1,m1,_,d,mh',hg,rs1,rr,co.ev e1⟩
end
noncomputable abbrev Fn:=List D->MH->Option (D×MH)
noncomputable def Ca (ok:Str->Str->Bool) (f:Str) (mo:DM D):DM D:=mo.bnd λx=>match x with
 | .obj c ks ds=>if ok c f then Zl (Vo c f (.obj c ks ds)) else Zb
 | _=>Zb
noncomputable def Gi (met:Str->Str->Option (List Str×Fn)) (m:Str) (mo:DM D) (mr:DM (List D)):DM D:=mo.bnd λx=>match x with
 | .obj c ks ds=>(match met c m with
  | some (_,g)=>if ks.contains m then Zb else mr.bnd λas=>Zl (g (.obj c ks ds::as))
  | none=>Zb)
 | _=>Zb
section
variable {X:Cx}{o:Expr}{mo:DM D}{f m:Str}{pos apos:Pos}
theorem uH {ok:Str->Str->Bool}(hok:∀ c,ok c f=true->∃ C,dg X.K mainGlobals c=some (some (.ref C))/\Cls X.K C/\Ck X.K C f) (ho:DE X o mo) (hb:attributeBase o f X.env (eval o X.env)=eval o X.env):DE X (.Attribute o f pos) (Ca ok f mo):=λloc mh=>by
 cases ea:mo loc mh with
 | none =>
  have:Ca ok f mo loc mh=none:=by unfold Ca DM.bnd;rw [ea]
  rw [this];exact Ax
 | some pr =>
  obtain ⟨x,m1⟩:=pr;cases x with
  | obj c ks ds =>
   by_cases h:ok c f=true
   ·obtain ⟨C,h1,h2,h3⟩:=hok c h;have e:Ca ok f mo loc mh=(mo.bnd λx=>Zl (Vo c f x)) loc mh:=by unfold Ca DM.bnd;rw [ea];dsimp only;rw [if_pos h]
    rw [e];exact Abb h1 h2 h3 ho hb loc mh
   ·have:Ca ok f mo loc mh=none:=by unfold Ca DM.bnd;rw [ea];dsimp only;rw [if_neg h];rfl
    rw [this];exact Ax
  | _ =>
   have:Ca ok f mo loc mh=none:=by unfold Ca DM.bnd;rw [ea];rfl
   rw [this];exact Ax
theorem Zx {met:Str->Str->Option (List Str×Fn)}{mr:DM (List D)}{loc:Loc}{mh m1:MH}{c:Str}{ks:List Str}{ds:List D}{ps:List Str}{g:Fn}(ea:mo loc mh=some (.obj c ks ds,m1)) (hm:met c m=some (ps,g)):Gi met m mo mr loc mh=O5 c m g mo mr loc mh:=by
 unfold Gi O5 DM.bnd;rw [ea];dsimp only;rw [hm];dsimp only;cases hk:ks.contains m with
 | true=>rw [if_pos rfl,if_neg (by simp)]
 | false=>rw [if_neg (by simp),if_pos (by simp)]
theorem uI {k:Nat}{E:XK}{e:Expr}{es:List Expr}{mr:DM (List D)}{met:Str->Str->Option (List Str×Fn)}
  (hm:∀ c ps g,met c m=some (ps,g)->∃ C fa fd,dg X.K mainGlobals c=some (some (.ref C))/\Cls X.K C/\Meth X.K C m fa/\Binds X.K fd ps []/\FnOk X.prog X.w X.K X.mg X.base CX0 k fa fd ps (spD X.K ps.length g)/\∀ ds mh r,g ds mh=some r->ds.length=ps.length)
  (hr:Room k X.A) (hx:Bh CX0 X E) (ho:DE X o mo) (ha:DA X (e::es) mr) (hbase:attributeBase o m X.env (eval o X.env)=eval o X.env)
  (hfew:((backTo pos (starEach (e::es) X.env)).all (λx=>!x.1)&&(backToKw pos (keywordEach [] X.env)).all (λx=>x.1.isSome)&&decide ((e::es).length+([]:List Keyword).length+(if ([]:List Keyword).isEmpty then 0 else 1) < 30))=true)
  (hline:(apos.endLine==pos.line)=true) (hst:starEach (e::es) X.env=(false,eval e X.env)::starEach es X.env) (hpl:(backTo pos (starEach es X.env)).any (·.1)=false) :
  DE X (.Call (.Attribute o m apos) (e::es) [] pos) (Gi met m mo mr):=λloc mh=>by
 cases ea:mo loc mh with
 | none =>
  have:Gi met m mo mr loc mh=none:=by unfold Gi DM.bnd;rw [ea]
  rw [this];exact Ax
 | some pr =>
  obtain ⟨x,m1⟩:=pr;cases x with
  | obj c ks ds =>
   cases em:met c m with
   | none =>
    have:Gi met m mo mr loc mh=none:=by unfold Gi DM.bnd;rw [ea];dsimp only;rw [em];rfl
    rw [this];exact Ax
   | some pg =>
    obtain ⟨ps,g⟩:=pg;obtain ⟨C,fa,fd,h1,h2,h3,h4,h5,h6⟩:=hm c ps g em;rw [Zx ea em];exact uG (E:=E) h1 h2 h3 h5 hr h4 hx ho ha h6 hbase hfew hline hst hpl loc mh
  | _ =>
   have:Gi met m mo mr loc mh=none:=by unfold Gi DM.bnd;rw [ea];rfl
   rw [this];exact Ax
theorem kW {k:Nat}{E:XK}{met:Str->Str->Option (List Str×Fn)}
  (hm:∀ c ps g,met c m=some (ps,g)->∃ C fa fd,dg X.K mainGlobals c=some (some (.ref C))/\Cls X.K C/\Meth X.K C m fa/\Binds X.K fd ps []/\FnOk X.prog X.w X.K X.mg X.base CX0 k fa fd ps (spD X.K ps.length g)/\∀ ds mh r,g ds mh=some r->ds.length=ps.length)
  (hr:Room k X.A) (hx:Bh CX0 X E) (ho:DE X o mo) (hbase:attributeBase o m X.env (eval o X.env)=eval o X.env) (hline:(apos.endLine==pos.line)=true) :
  DE X (.Call (.Attribute o m apos) [] [] pos) (Gi met m mo (Zr [])):=λloc mh=>by
 cases ea:mo loc mh with
 | none =>
  have:Gi met m mo (Zr []) loc mh=none:=by unfold Gi DM.bnd;rw [ea]
  rw [this];exact Ax
 | some pr =>
  obtain ⟨x,m1⟩:=pr;cases x with
  | obj c ks ds =>
   cases em:met c m with
   | none =>
    have:Gi met m mo (Zr []) loc mh=none:=by unfold Gi DM.bnd;rw [ea];dsimp only;rw [em];rfl
    rw [this];exact Ax
   | some pg =>
    obtain ⟨ps,g⟩:=pg;obtain ⟨C,fa,fd,h1,h2,h3,h4,h5,h6⟩:=hm c ps g em;rw [Zx ea em];exact kO (E:=E) h1 h2 h3 h5 hr h4 hx ho h6 hbase hline loc mh
  | _ =>
   have:Gi met m mo (Zr []) loc mh=none:=by unfold Gi DM.bnd;rw [ea];rfl
   rw [this];exact Ax
end
section
variable {X:Cx}
noncomputable def Abd:List D->Option (Int×Int)
 | [.int i,.int j]=>some (i,j)
 | _=>none
theorem cP {ds:List D}{z:Int×Int}(h:Abd ds=some z):ds=[.int z.1,.int z.2]:=by
 match ds,h with
 | [d,e],h =>
  cases d with
  | int i =>
   cases e with
   | int j=>cases h;rfl
   | _=>cases h
  | _=>cases h
 | [],h=>cases h
 | [d],h=>cases d <;> cases h
 | d::e::_::_,h=>cases d <;> first | cases h | (cases e <;> cases h)
noncomputable def Zy (f:Int->List Int->Int) (g:Fn):Fn:=λds mh=>match Abd ds with
 | some z=>some (.int (f z.1 [z.2]),mh)
 | none=>g ds mh
theorem O7 {v:Value}{f:Int->List Int->Int}{g:Fn}(h2:Ay X v (λxs H Q=>∃ i j,xs=[.int i,.int j]/\Q (.int (f i [j])) H)) (hg:Ay X v (rDs X.K g)):Ay X v (rDs X.K (Zy f g)):=by
 rintro pins s σ H xs us Q I r ⟨ρ,mh,ds,d,mh',q,rs,rd,co⟩;unfold Zy at q;cases e:Abd ds with
 | none=>rw [e] at q;exact hg pins s σ H xs us Q I r ⟨ρ,mh,ds,d,mh',q,rs,rd,co⟩
 | some z =>
  rw [e] at q;cases q;rw [cP e] at rd;obtain ⟨v1,v2,rfl,r1,r2⟩:=Af1 rd;cases r1;cases r2;exact h2 pins s σ H _ us Q I r ⟨_,_,rfl,co H ρ _ Ev.refl rs (.int _)⟩
noncomputable def xW:Fn:=Zy Jl maxD
noncomputable def xX:Fn:=Zy Jm minD
theorem Xm (hc:X.calm=true):Ay X (.builtin "max") (rDs X.K xW):=O7 (bH hc) (cB hc)
theorem Xn (hc:X.calm=true):Ay X (.builtin "min") (rDs X.K xX):=O7 (bI hc) (cC hc)
end
section
variable {X:Cx}{tg:Expr}
end
theorem M4:fillsNumberSlot (.type "tuple") "mul"=pure false:=PySem.fillsNumberSlot_seq (id := "tuple.__mul__") (r:=some (.builtin "tuple.__rmul__")) PySem.F.slot_tuple_mul.lookup (by decide +kernel) PySem.F.slot_tuple_rmul.lookup (by decide +kernel)
theorem M5:seqRepeat? (.type "tuple")=pure (some (.builtin "tuple.__mul__")):=by
 unfold seqRepeat?
 rw [PySem.seqSlot_of (T := "tuple") (name := "__mul__") (id := "tuple.__mul__") PySem.F.slot_tuple_mul.lookup (by decide +kernel),PySem.seqSlot_of (T := "tuple") (name := "__rmul__") (id := "tuple.__rmul__") PySem.F.slot_tuple_rmul.lookup (by decide +kernel)];rfl
theorem Rh (a:Int) (t:Tok) (l:Addr) (items:Array Value) (n:Nat) (dd:Option Addr) (sl:Array (Option Value)) :
  Meets (Builtin.«int.__rmul__» ⟨[.int a t,.ref l],[]⟩) (λ_ R s=>s.heap.get? l=some { cls:=.type "tuple",dict:=dd,data:=.seq items n,slots:=sl }/\R (.ok (.ret Value.notImplemented)) s) :=
 .of_wp λprog w A R s h=>by obtain ⟨hp,g,d,tk,os⟩:=s;obtain ⟨hl,h⟩:=h;wp_walk;exact ⟨_,rfl,h⟩
theorem kY (l:Addr) (items:Array Value) (n:Nat) (dd:Option Addr) (sl:Array (Option Value)) (x:Int) (u:Tok) (hc0:¬(decide (x < -(2 ^ 63)) || decide (x ≥ 2 ^ 63))=true) (hc1:¬(items.isEmpty || x==1)=true) (hc2:¬(decide (x<=0) || items.isEmpty)=true) (hc3:¬((items.size:Int) * x > (2 ^ 63 - 1) / 8)) (hc5:¬(BR (λx1 x2=>x1++x2) #[] (au x.toNat items)).size > sizeLine) (hc4:¬xg ((items.size:Int) * x)=true) :
  Meets (Builtin.«tuple.__mul__» ⟨[.ref l,.int x u],[]⟩) (λ_ R s=>s.heap.get? l=some { cls:=.type "tuple",dict:=dd,data:=.seq items n,slots:=sl }/\R (.ok (.ret (Value.ref s.heap.objs.size))) { s with heap:=s.heap.push { cls:=Value.type "tuple",data:=Data.seq (BR (λx1 x2=>x1++x2) #[] (au x.toNat items)) },toks:=s.toks }) :=
 .of_wp λprog w A R s h=>by
  obtain ⟨hp,g,d,tk,os⟩:=s;obtain ⟨hl,h⟩:=h;have f1:=AutoSeq1.idx_int;wp_walk using zf hl
  simp only [hc0,uh,if_false];wp_walk using zf hl
  simp only [hc3,if_false];wp_walk using zf hl
  exact ⟨_,rfl,h⟩
theorem kZ (l:Addr) (items:Array Value) (n:Nat) (dd:Option Addr) (sl:Array (Option Value)) (u:Tok) :
  Meets (Builtin.«tuple.__mul__» ⟨[.ref l,.int 1 u],[]⟩) (λ_ R s=>s.heap.get? l=some { cls:=.type "tuple",dict:=dd,data:=.seq items n,slots:=sl }/\R (.ok (.ret (Value.ref l))) s) :=
 .of_wp λprog w A R s h=>by
  obtain ⟨hp,g,d,tk,os⟩:=s;obtain ⟨hl,h⟩:=h;have f1:=AutoSeq1.idx_int;have c1:(items.isEmpty || (1:Int)==1)=true:=by rw [zp];exact .inr rfl
  wp_walk using zf hl
  exact ⟨_,rfl,h⟩
section
variable {X:Cx}
theorem RDs.rep {K:aj}{H:Hp}{ρ:List Addr}{ds:List D}{vs:List V}(h:RDs K H ρ ds vs):∀ k:Nat,RDs K H ρ (au k ds).flatten (au k vs).flatten
 | 0=>.nil
 | k+1=>by
  rw [jq,jq,rm,rm];exact h.append (RDs.rep h k)
theorem cQ:OpR X (binaryOp .Mult) (λx y H Q=>∃ a k xs,x=.ref a/\y=.int k/\SqT X.K H a xs/\xs≠[]/\1 < k/\k<=1000/\xs.length<=1000/\∀ p,H p=none->Q (.ref p) (upd H p (.tup (au k.toNat xs).flatten))):=by
 rintro pins s σ H x y v u Q I rx ry ⟨a,k,xs,e1,e2,ha,hne,h1,h2,h3,q⟩;subst e1;subst e2;cases rx;obtain ⟨t,rfl⟩:=ry;obtain ⟨its,r1,p1,_⟩:=I.tuple ha;obtain ⟨⟨cls,dd,data,sl⟩,ho,hc,n,hd⟩:=id p1;simp only at hc hd;subst hc hd;have hl:its.length<=1000:=by rw [← r1.length];exact h3
 have hn:its.toArray.isEmpty=false:=by
  cases its with
  | nil=>exact absurd (r1.nil_iff.mp rfl) hne
  | cons b r=>rfl
 have hm:((its.toArray.size:Nat):Int) * k<=1000 * 1000:=by
  rw [cg];exact Int.mul_le_mul (by omega) (by omega) (by omega) (by omega)
 have hf:BR (λx1 x2=>x1++x2) #[] (au k.toNat its.toArray)=(au k.toNat its).flatten.toArray:=by
  have:=foldl_rep its k.toNat [];rw [MK] at this;exact this
 have c0:¬(decide (k < -(2 ^ 63)) || decide (k ≥ 2 ^ 63))=true:=by
  rw [zp,decide_eq_true_iff,decide_eq_true_iff];omega
 have c1:¬(its.toArray.isEmpty || k==1)=true:=by
  rw [hn,Bool.false_or,beq_iff_eq];omega
 have c2:¬(decide (k<=0) || its.toArray.isEmpty)=true:=by
  rw [hn,HY,decide_eq_true_iff];omega
 have c3:¬(((its.toArray.size:Nat):Int) * k > (2 ^ 63 - 1) / 8):=by omega
 have c4:¬xg (((its.toArray.size:Nat):Int) * k)=true:=by
  have:(sizeLine:Nat)=16777216:=ji;unfold xg;rw [decide_eq_true_iff];omega
 have c5:¬(BR (λx1 x2=>x1++x2) #[] (au k.toNat its.toArray)).size > sizeLine:=by
  rw [hf,cg,len_rep,ji];have:k.toNat * its.length<=1000 * 1000:=Nat.mul_le_mul (by omega) hl;omega
 refine zm (T := "tuple") (U := "int") (by decide) ⟨_,ho,rfl⟩ (λs'=>CZ s' k t) M4 PL yj M5 PySem.F.slot_int_index.lookup
  (vq yj (CZ s k t) NQ (LK _ _) (Rh k t a its.toArray n dd sl)
   ⟨ho,rfl,⟨_,ho,rfl⟩,vq NT ⟨_,ho,rfl⟩ LQ (KC _ _) (kY a its.toArray n dd sl k t c0 c1 c2 c3 c5 c4) ⟨ho,?_⟩⟩)
 rw [hf];refine ⟨.ref s.heap.objs.size,_,I.laid (t':=s.toks) (o:=.tup (au k.toNat xs).flatten) (λb ob q=>ao _ q) (bx _) ?_,rfl,q _ (I.hok.fresh (bx _))⟩;refine ⟨?_,_,r1.rep k.toNat,K9.new _ _⟩;rw [len_rep,ji];have:k.toNat * xs.length<=1000 * 1000:=Nat.mul_le_mul (by omega) h3;omega
theorem cR:OpR X (binaryOp .Mult) (λx y H Q=>∃ a xs,x=.ref a/\y=.int 1/\SqT X.K H a xs/\Q (.ref a) H):=by
 rintro pins s σ H x y v u Q I rx ry ⟨a,xs,e1,e2,ha,q⟩;subst e1;subst e2;cases rx;obtain ⟨t,rfl⟩:=ry;obtain ⟨its,r1,p1,_⟩:=I.tuple ha;obtain ⟨⟨cls,dd,data,sl⟩,ho,hc,n,hd⟩:=id p1;simp only at hc hd;subst hc hd
 exact zm (T := "tuple") (U := "int") (by decide) ⟨_,ho,rfl⟩ (λs'=>CZ s' 1 t) M4 PL yj M5 PySem.F.slot_int_index.lookup
  (vq yj (CZ s 1 t) NQ (LK _ _) (Rh 1 t a its.toArray n dd sl)
   ⟨ho,rfl,⟨_,ho,rfl⟩,vq NT ⟨_,ho,rfl⟩ LQ (KC _ _) (kZ a its.toArray n dd sl t) ⟨ho,⟨.ref a,H,I,rfl,q⟩⟩⟩)
noncomputable def Abe:D->D->Option (List D×Int)
 | .tup ds,.int k=>some (ds,k)
 | _,_=>none
theorem cT {x y:D}{z:List D×Int}(h:Abe x y=some z):x=.tup z.1/\y=.int z.2:=by
 cases x with
 | tup ds =>
  cases y with
  | int k=>cases h;exact ⟨rfl,rfl⟩
  | _=>cases h
 | _=>cases h
noncomputable def Zz (g:D->D->MH->Option (D×MH)):D->D->MH->Option (D×MH):=λx y mh=>match Abe x y with
 | some z=>if z.2=1 then some (.tup z.1,mh) else if (z.1.isEmpty=false/\z.1.length<=1000)/\(1 < z.2/\z.2<=1000) then some (.tup (au z.2.toNat z.1).flatten,mh) else none
 | none=>g x y mh
theorem lA {g:D->D->MH->Option (D×MH)}(h:OpR X (binaryOp .Mult) (rD X.K g)):OpR X (binaryOp .Mult) (rD X.K (Zz g)):=by
 rintro pins s σ H x y v u Q I rx ry ⟨ρ,mh,dx,dy,d,mh',q,rs,r1,r2,co⟩;unfold Zz at q;cases e:Abe dx dy with
 | none=>rw [e] at q;exact h pins s σ H x y v u Q I rx ry ⟨ρ,mh,dx,dy,d,mh',q,rs,r1,r2,co⟩
 | some z =>
  rw [e] at q;obtain ⟨ds,k⟩:=z;obtain ⟨rfl,rfl⟩:=cT e;have q:(if k=1 then some (D.tup ds,mh) else if (ds.isEmpty=false/\ds.length<=1000)/\(1 < k/\k<=1000) then some (D.tup (au k.toNat ds).flatten,mh) else none)=some (d,mh'):=q
  by_cases h1:k=1
  ·subst h1;rw [if_pos rfl] at q;cases q;cases r2;cases r1 with
   | tup s1 rr=>exact cR pins s σ H _ _ v u Q I rx ry ⟨_,_,rfl,rfl,s1,co H ρ _ Ev.refl rs (.tup s1 rr)⟩
  rw [if_neg h1] at q
  by_cases hz:(ds.isEmpty=false/\ds.length<=1000)/\(1 < k/\k<=1000)
  ·have q:(if (ds.isEmpty=false/\ds.length<=1000)/\(1 < k/\k<=1000) then some (D.tup (au k.toNat ds).flatten,mh) else none)=some (d,mh'):=q;rw [if_pos hz] at q;cases q;cases r2;cases r1 with
   | tup s1 rr=>exact cQ pins s σ H _ _ v u Q I rx ry ⟨_,_,_,rfl,rfl,s1,λz=>by
     subst z;cases rr
     exact absurd hz.1.1 (by simp),hz.2.1,hz.2.2,by rw [← rr.length];exact hz.1.2,Co.newT rs (rr.rep _) co⟩
  ·have q:(if (ds.isEmpty=false/\ds.length<=1000)/\(1 < k/\k<=1000) then some (D.tup (au k.toNat ds).flatten,mh) else none)=some (d,mh'):=q;rw [if_neg hz] at q;cases q
end
section
variable {X:Cx}
noncomputable def Aed (k:Bool):Value->Bool
 | .bool b=>b==k
 | _=>false
noncomputable def obV:Option Bool->V
 | none=>.non
 | some b=>.bl b
noncomputable def Ri:Option Bool->Value
 | none=>.none
 | some b=>.bool b
noncomputable def obD:Option Bool->D
 | none=>.non
 | some b=>.bl b
noncomputable def Li:List D->Option (List (Option Bool))
 | []=>some []
 | .bl b::r=>(Li r).map (some b::·)
 | .non::r=>(Li r).map (none::·)
 | _::_=>none
theorem O8:∀ bs:List (Option Bool),Li (bs.map obD)=some bs
 | []=>rfl
 | none::r=>by show (Li (r.map obD)).map _=_;rw [O8 r];rfl
 | some b::r=>by show (Li (r.map obD)).map _=_;rw [O8 r];rfl
theorem Lj:∀ {ds:List D}{bs:List (Option Bool)},Li ds=some bs->ds=bs.map obD
 | [],bs,h=>by cases h;rfl
 | d::r,bs,h=>by
  cases d with
  | bl b =>
   have h:(Li r).map (some b::·)=some bs:=h;cases q:Li r with
   | none=>rw [q] at h;cases h
   | some l=>rw [q] at h;cases h;rw [Lj q];rfl
  | non =>
   have h:(Li r).map (none::·)=some bs:=h;cases q:Li r with
   | none=>rw [q] at h;cases h
   | some l=>rw [q] at h;cases h;rw [Lj q];rfl
  | _=>cases h
theorem Tg {K:aj}{H:Hp}{ρ:List Addr}:∀ {bs:List (Option Bool)}{xs:List V},RDs K H ρ (bs.map obD) xs->xs=bs.map obV
 | [],_,.nil=>rfl
 | none::r,_,.cons h t=>by
  cases h;rw [Tg t];rfl
 | some b::r,_,.cons h t=>by
  cases h;rw [Tg t];rfl
theorem O9:∀ {bs:List (Option Bool)}{its:List Value},Vals (bs.map obV) its->its=bs.map Ri
 | [],_,.nil=>rfl
 | none::r,_,.cons h t=>by
  cases h;rw [O9 t];rfl
 | some b::r,_,.cons h t=>by
  cases h;rw [O9 t];rfl
theorem Ti (k:Bool):∀ bs:List (Option Bool),(bs.map Ri).countP (Aed k)=bs.countP (·==some k)
 | []=>rfl
 | none::r=>by
  rw [dm,wz,wz,Ti k r];rfl
 | some b::r=>by
  rw [dm,wz,wz,Ti k r];rfl
noncomputable def Abf:List D->Option Bool
 | [.bl k]=>some k
 | _=>none
theorem cU {ds:List D}{k:Bool}(h:Abf ds=some k):ds=[.bl k]:=by
 match ds,h with
 | [d],h =>
  cases d with
  | bl b=>cases h;rfl
  | _=>cases h
 | [],h=>cases h
 | d::_::_,h=>cases d <;> cases h
noncomputable def Vp:D->MH->Option (List D)
 | .ref n,mh=>match mh[n]? with | some (.lst ds)=>some ds | _=>none
 | _,_=>none
theorem Pa {x:D}{mh:MH}{ds:List D}(h:Vp x mh=some ds):∃ n,x=.ref n/\mh[n]?=some (.lst ds):=by
 cases x with
 | ref n =>
  have h:(match mh[n]? with | some (.lst ds)=>some ds | _=>none)=some ds:=h;cases e:mh[n]? with
  | none=>rw [e] at h;cases h
  | some o =>
   cases o with
   | lst es=>rw [e] at h;cases h;exact ⟨n,rfl,e⟩
   | dct kvs=>rw [e] at h;cases h
   | dtk kvs=>rw [e] at h;cases h
   | plc=>rw [e] at h;cases h
   | plq=>rw [e] at h;cases h
   | fzd=>rw [e] at h;cases h
 | _=>cases h
noncomputable def M6 (x:D) (as:List D) (mh:MH):Option (D×MH):=match Abf as with
 | none=>Aa9 x as mh
 | some k=>match Vp x mh with
  | none=>none
  | some ds=>match Li ds with
   | some bs=>some (.int (bs.countP (·==some k):Nat),mh)
   | none=>none
theorem lB {n:Nat}{bs:List (Option Bool)}{k:Bool}{mh:MH}(e:mh[n]?=some (.lst (bs.map obD))):M6 (.ref n) [.bl k] mh=some (.int (bs.countP (·==some k):Nat),mh):=by
 show (match (match mh[n]? with | some (.lst ds)=>some ds | _=>none) with | none=>none | some ds=>match Li ds with | some bs=>some (D.int (bs.countP (·==some k):Nat),mh) | none=>none)=_;rw [e];dsimp only;rw [O8]
theorem Vq {n:Nat}{bs:List Bool}{k:Bool}{mh:MH}(e:mh[n]?=some (.lst (bs.map D.bl))):M6 (.ref n) [.bl k] mh=some (.int (bs.countP (·==k):Nat),mh):=by
 have e':mh[n]?=some (.lst ((bs.map some).map obD)):=by rw [e,List.map_map];rfl
 rw [lB e',List.countP_map];rfl
theorem lC:MtR X "list.count" (rDM X.K M6):=by
 rintro pins s σ H x xs v us Q I rx rv ⟨ρ,mh,dx,ds,d,mh',q,rs,r1,r2,co⟩;unfold M6 at q;cases e1:Abf ds with
 | none=>rw [e1] at q;exact uF pins s σ H x xs v us Q I rx rv ⟨ρ,mh,dx,ds,d,mh',q,rs,r1,r2,co⟩
 | some k =>
  rw [e1] at q;have e1:=cU e1;subst e1;cases e2:Vp dx mh with
  | none=>rw [e2] at q;cases q
  | some es =>
   rw [e2] at q;dsimp only at q;cases e3:Li es with
   | none=>rw [e3] at q;cases q
   | some bs =>
    rw [e3] at q;cases q;obtain ⟨nn,rfl,em⟩:=Pa e2;obtain ⟨y,rfl,ry⟩:=Ik r2;cases ry;obtain ⟨u,rfl,ru⟩:=rv.one;cases ru;cases r1 with
    | @ref _ a h =>
     cases rx;obtain ⟨a',ha,ro⟩:=rs.at em;rw [h] at ha;cases ha;obtain ⟨ws,sq,rr⟩:=ro.read;have rr:RDs X.K H ρ es ws:=rr;rw [Lj e3] at rr;rw [Tg rr] at sq;obtain ⟨its,rvv,pl,hz⟩:=I.list sq;have hi:=O9 rvv;subst hi;obtain ⟨⟨cls,dd,data,sl⟩,n,ho,hc,hdd,hd⟩:=id pl;simp only at hc hd;subst hc hd;refine vq BX ⟨_,ho,rfl⟩ JX (JG _ _) (JZ a (bs.map Ri).toArray n dd sl (.bool k) (Aed k)) ⟨ho,λy hy=>?_,?_⟩
     ·have hy:y∈bs.map Ri:=by simpa using hy
      obtain ⟨b,_,rfl⟩:=jc.mp hy;cases b with
      | none=>exact PySem.SeqAt.EqAt.none_bool k
      | some b=>exact PySem.SeqAt.EqAt.bool_bool b k
     ·rw [show (bs.map Ri).toArray.toList=bs.map Ri from rfl,Ti k bs];exact ⟨.int _,H,I.tok _,⟨_,rfl⟩,co H ρ _ Ev.refl rs (.int _)⟩
end
noncomputable def Xo:D->Option Key
 | .int i=>some (.inl i)
 | .str x=>some (.inr x)
 | _=>none
noncomputable def keyB:Key->Key->Bool
 | .inl i,.inl j=>i==j
 | .inr x,.inr y=>x==y
 | _,_=>false
theorem Nx (a b:Key):keyB a b=decide (a=b):=by
 cases a with
 | inl i =>
  cases b with
  | inl j=>show (i==j)=_;by_cases h:i=j <;> simp [h]
  | inr y=>rfl
 | inr x =>
  cases b with
  | inl j=>rfl
  | inr y =>
   show (x==y)=_
   by_cases h:x=y
   ·subst h;simp
   ·rw [decide_eq_false (λz=>h (by cases z;rfl))];exact beq_eq_false_iff_ne.mpr h
noncomputable def Tj:List (Key×D)->Key->Option D
 | [],_=>none
 | p::r,k=>if keyB p.1 k=true then some p.2 else Tj r k
noncomputable def putD (kvs:List (Key×D)) (k:Key) (d:D):List (Key×D) :=
 if (kvs.any λkv=>keyB kv.1 k)=true then kvs.map (λkv=>if keyB kv.1 k=true then (kv.1,d) else kv) else kvs++[(k,d)]
section
variable {K:aj}{H H':Hp}{ρ ρ':List Addr}
noncomputable def RK (K:aj) (H:Hp) (ρ:List Addr) (kvs:List (Key×D)) (xs:List (Key×V)):Prop:=xs.map (·.1)=kvs.map (·.1)/\RDs K H ρ (kvs.map (·.2)) (xs.map (·.2))
theorem RK.nil:RK K H ρ [] []:=⟨rfl,.nil⟩
theorem RK.cons {k:Key}{d:D}{v:V}{kvs:List (Key×D)}{xs:List (Key×V)}(r:RD K H ρ d v) (h:RK K H ρ kvs xs):RK K H ρ ((k,d)::kvs) ((k,v)::xs) :=
 ⟨by rw [dm,dm,h.1],.cons r h.2⟩
theorem RK.inv {k:Key}{d:D}{kvs:List (Key×D)}{xs:List (Key×V)}(h:RK K H ρ ((k,d)::kvs) xs):∃ v r,xs=(k,v)::r/\RD K H ρ d v/\RK K H ρ kvs r:=by
 obtain ⟨h1,h2⟩:=h;cases xs with
 | nil=>cases h1
 | cons p r =>
  obtain ⟨k',v⟩:=p;rw [dm,dm] at h1;injection h1 with e1 e2
  have e1:k'=k:=e1;subst e1;cases h2 with
  | cons a b=>exact ⟨v,r,rfl,a,e2,b⟩
theorem RK.inv0 {xs:List (Key×V)}(h:RK K H ρ [] xs):xs=[]:=by
 cases xs with
 | nil=>rfl
 | cons p r=>cases h.1
theorem RK.val (k:Key):∀ {kvs:List (Key×D)}{xs:List (Key×V)},RK K H ρ kvs xs->(∃ d v,Tj kvs k=some d/\Km xs k=some v/\RD K H ρ d v)\/(Tj kvs k=none/\Km xs k=none)
 | [],xs,h=>by rw [h.inv0];exact .inr ⟨rfl,rfl⟩
 | (k',d)::kvs,xs,h=>by
  obtain ⟨v,r,rfl,a,b⟩:=h.inv
  by_cases e:k'=k
  ·exact .inl ⟨d,v,by unfold Tj;rw [Nx,decide_eq_true e,if_pos rfl],Ko e,a⟩
  ·have e1:Tj ((k',d)::kvs) k=Tj kvs k:=by
    show (if keyB k' k=true then _ else _)=_;rw [Nx,decide_eq_false e,if_neg iu]
   rw [e1,Kp e];exact RK.val k b
theorem RK.some_eq (k:Key) {kvs:List (Key×D)}{xs:List (Key×V)}(h:RK K H ρ kvs xs):(Km xs k).isSome=(Tj kvs k).isSome:=by
 rcases h.val k with ⟨d,v,e1,e2,_⟩ | ⟨e1,e2⟩ <;> rw [e1,e2] <;> rfl
theorem RK.any (k:Key):∀ {kvs:List (Key×D)}{xs:List (Key×V)},RK K H ρ kvs xs->(xs.any λkv=>decide (kv.1=k))=(kvs.any λkv=>keyB kv.1 k)
 | [],xs,h=>by rw [h.inv0];rfl
 | (k',d)::kvs,xs,h=>by
  obtain ⟨v,r,rfl,a,b⟩:=h.inv;rw [yr,yr,RK.any k b,Nx]
theorem RK.repl {d:D}{v:V}(k:Key) (rv:RD K H ρ d v):∀ {kvs:List (Key×D)}{xs:List (Key×V)},RK K H ρ kvs xs->RK K H ρ (kvs.map λkv=>if keyB kv.1 k=true then (kv.1,d) else kv) (xs.map λkv=>if kv.1=k then (kv.1,v) else kv)
 | [],xs,h=>by rw [h.inv0];exact .nil
 | (k',d')::kvs,xs,h=>by
  obtain ⟨v',r,rfl,a,b⟩:=h.inv;rw [dm,dm];dsimp only;rw [Nx]
  by_cases e:k'=k
  ·rw [decide_eq_true e,if_pos rfl,if_pos e];exact (RK.repl k rv b).cons rv
  ·rw [decide_eq_false e,if_neg iu,if_neg e];exact (RK.repl k rv b).cons a
theorem RK.put {d:D}{v:V}(k:Key) (rv:RD K H ρ d v) {kvs:List (Key×D)}{xs:List (Key×V)}(h:RK K H ρ kvs xs):RK K H ρ (putD kvs k d) (putK xs k v):=by
 unfold putD putK;rw [h.any k]
 by_cases e:(kvs.any λkv=>keyB kv.1 k)=true
 ·rw [if_pos e,if_pos e];exact h.repl k rv
 ·rw [if_neg e,if_neg e];refine ⟨by rw [pq,pq,h.1];rfl,?_⟩;rw [pq,pq];exact h.2.append (.cons rv .nil)
theorem RK.length {kvs:List (Key×D)}{xs:List (Key×V)}(h:RK K H ρ kvs xs):xs.length=kvs.length:=by
 have:=congrArg List.length h.1
 simpa using this
theorem Ev.dk {p:Addr}{ys zs:List (Key×V)}(hp:H p=some (.dK ys)):Ev K H ρ (upd H p (.dK zs)) ρ:=by
 refine ⟨λa xs h=>?_,wk _,λa xs h=>?_,λa C dx fs h=>?_,λa o u h=>by rw [Ad (Fw h hp (by intro z;cases z))];exact h⟩
 ·rcases h with (h|⟨ob,h⟩)|h
  ·exact .inl (.inl (by rw [Ad (Fw h hp (by intro z;cases z))];exact h))
  ·exact .inl (.inr ⟨ob,by rw [Ad (Fw h hp (by intro z;cases z))];exact h⟩)
  ·exact .inr h
 ·rcases h with ⟨ob,h⟩|h
  ·exact .inl ⟨ob,by rw [Ad (Fw h hp (by intro z;cases z))];exact h⟩
  ·exact .inr h
 ·rw [Ad (Fw h hp (by intro z;cases z))];exact h
theorem RS.newD {mh:MH}{p:Addr}{xs:List (Key×V)}{kvs:List (Key×D)}(h:RS K H ρ mh) (hp:H p=none) (r:RK K H ρ kvs xs):RS K (upd H p (.dK xs)) (ρ++[p]) (mh++[.dct kvs]):=by
 have hnp:p ∉ ρ:=λz=>by
  obtain ⟨o,q⟩:=h.tracked z;rw [hp] at q;cases q
 refine ⟨by rw [dj,dj,h.len];rfl,?_,λn a ob e1 e2=>?_⟩
 ·rw [vh]
  exact ⟨h.nd,KZ _ _,λa ha b hb z=>by
   rw [jw.mp hb] at z;rw [z] at ha;exact hnp ha⟩
 ·by_cases hn:n < ρ.length
  ·rw [gh hn] at e1;rw [gh (by rw [← h.len];exact hn)] at e2;refine (h.obj n a ob e1 e2).mono (Ev.newL hp) ?_;obtain ⟨oo,q⟩:=h.tracked (iy e1);rw [Ad (Ae q hp)]
  ·rw [ig (by omega)] at e1;rw [ig (by rw [← h.len];omega)] at e2;have n0:n - ρ.length=0:=by
    have:=(dh.mp e1).1;simp at this;omega
   rw [n0] at e1;rw [← h.len,n0] at e2;cases e1;cases e2;exact ⟨xs,Ag,r.1,r.2.mono (Ev.newL hp)⟩
theorem RS.setD {mh:MH}{n:Nat}{p:Addr}{ys xs:List (Key×V)}{kvs:List (Key×D)}(h:RS K H ρ mh) (hn:ρ[n]?=some p) (hp:H p=some (.dK ys)) (r:RK K H ρ kvs xs):RS K (upd H p (.dK xs)) ρ (mh.set n (.dct kvs)):=by
 refine ⟨by rw [qu];exact h.len,h.nd,λm a ob e1 e2=>?_⟩
 by_cases hm:n=m
 ·subst hm;rw [hn] at e1;cases e1;rw [CG] at e2;simp only [if_true] at e2;split at e2
  ·cases e2;exact ⟨xs,Ag,r.1,r.2.mono (Ev.dk hp)⟩
  ·cases e2
 ·rw [jk hm] at e2;refine (h.obj m a ob e1 e2).mono (Ev.dk hp) ?_;rw [Ad];intro z;subst z;exact hm ((vm (dh.mp hn).1 h.nd).mp (hn.trans e1.symm))
end
noncomputable def Gz (kvs:List (PyData×D)) (k:PyData):Option D:=(kvs.find? λe=>decide (e.1=k)).map (·.2)
noncomputable def cV (kvs:List (PyData×D)) (k:PyData) (d:D):List (PyData×D) :=
 if (Gz kvs k).isSome=true then kvs.map (λe=>if e.1=k then (e.1,d) else e) else kvs++[(k,d)]
noncomputable def kD (d:D):Option PyData:=match py [] 8 d with
 | some (.tuple ks)=>if kCl (.tuple ks)=true then some (.tuple ks) else none
 | _=>none
theorem Tn {f g:D->Option PyData}(h:∀ d k,f d=some k->g d=some k):∀ {ds:List D}{ks:List PyData},mapO f ds=some ks->mapO g ds=some ks
 | [],_,e=>e
 | d::r,ks,e=>by
  simp only [mapO] at e ⊢;cases e1:f d with
  | none=>rw [e1] at e;cases e
  | some b =>
   rw [e1] at e;rw [h d b e1];cases e2:mapO f r with
   | none=>rw [e2] at e;cases e
   | some bs=>rw [e2] at e;rw [Tn h e2];exact e
theorem Xp (mh:MH):∀ (n:Nat) (d:D) (k:PyData),py [] n d=some k->py mh n d=some k
 | 0,d,k,e=>by cases d <;> exact e
 | n+1,d,k,e=>by
  cases d with
  | tup ds =>
   have e:(match mapO (py [] n) ds with | some xs=>some (PyData.tuple xs) | none=>none)=some k:=e;show (match mapO (py mh n) ds with | some xs=>some (PyData.tuple xs) | none=>none)=some k;cases e1:mapO (py [] n) ds with
   | none=>rw [e1] at e;cases e
   | some xs=>rw [e1] at e;rw [Tn (Xp mh n) e1];exact e
  | rol ds =>
   have e:(match mapO (py [] n) ds with | some xs=>some (PyData.list xs) | none=>none)=some k:=e;show (match mapO (py mh n) ds with | some xs=>some (PyData.list xs) | none=>none)=some k;cases e1:mapO (py [] n) ds with
   | none=>rw [e1] at e;cases e
   | some xs=>rw [e1] at e;rw [Tn (Xp mh n) e1];exact e
  | ref i=>cases e
  | _=>exact e
theorem lE:∀ (n:Nat) (d:D) (k:PyData),py [] n d=some k->kCl k=true->toD k=d
 | n,.int i,k,e,_=>by
  have e:some (PyData.int i)=some k:=by cases n <;> exact e
  cases e;rfl
 | n,.str x,k,e,_=>by
  have e:(if jl x=true then some (FP x) else none)=some k:=by cases n <;> exact e
  split at e
  ·cases e;rfl
  ·cases e
 | n,.non,k,e,c=>by
  have e:some PyData.none=some k:=by cases n <;> exact e
  cases e;simp [kCl] at c
 | n,.bl b,k,e,_=>by
  have e:some (PyData.bool b)=some k:=by cases n <;> exact e
  cases e;rfl
 | n+1,.tup ds,k,e,c=>by
  have e:(match mapO (py [] n) ds with | some xs=>some (PyData.tuple xs) | none=>none)=some k:=e;have all:∀ {l:List D} {ks:List PyData},mapO (py [] n) l=some ks->Di ks=true->W9 ks=l:=λ{l}=>by
   induction l with
   | nil=>intro ks e _;cases e;rfl
   | cons d r ih =>
    intro ks e c;simp only [mapO] at e;cases e1:py [] n d with
    | none=>rw [e1] at e;cases e
    | some b =>
     rw [e1] at e;cases e2:mapO (py [] n) r with
     | none=>rw [e2] at e;cases e
     | some bs =>
      rw [e2] at e;cases e;have c:(kCl b&&Di bs)=true:=by simpa [Di] using c
      rw [aq] at c;rw [W9,lE n d b e1 c.1,ih e2 c.2]
  cases e1:mapO (py [] n) ds with
  | none=>rw [e1] at e;cases e
  | some xs =>
   rw [e1] at e;cases e;rw [toD,all e1 (Dq c).2]
 | n+1,.rol ds,k,e,c=>by
  have e:(match mapO (py [] n) ds with | some xs=>some (PyData.list xs) | none=>none)=some k:=e;split at e
  ·cases e;simp [kCl] at c
  ·cases e
 | 0,.tup _,_,e,_=>by cases e
 | 0,.rol _,_,e,_=>by cases e
 | 0,.ref _,_,e,_=>by cases e
 | _+1,.ref _,_,e,_=>by cases e
 | 0,.obj ..,_,e,_=>by cases e
 | _+1,.obj ..,_,e,_=>by cases e
 | 0,.fn _,_,e,_=>by cases e
 | _+1,.fn _,_,e,_=>by cases e
 | 0,.lam,_,e,_=>by cases e
 | _+1,.lam,_,e,_=>by cases e
 | 0,.clo ..,_,e,_=>by cases e
 | _+1,.clo ..,_,e,_=>by cases e
mutual
theorem lF (mh:MH):∀ (k:PyData) (n:Nat),kCl k=true->k.canLay0=true->k.depth<=n->py mh n (toD k)=some k
 | .int _,n,_,_,_=>by cases n <;> rfl
 | .bool _,n,_,_,_=>by cases n <;> rfl
 | .str x,n,_,l,_=>by
  have l:jl x=true:=l;cases n <;> (show (if jl x=true then some (FP x) else none)=_;rw [if_pos l])
 | .tuple xs,0,_,_,h=>by simp [PyData.depth] at h
 | .tuple xs,n+1,c,l,h=>by
  have:=Z0 mh xs n (Dq c).2 (by simpa [ud] using l) (by simpa [PyData.depth] using h);show (match mapO (py mh n) (W9 xs) with | some xs=>some (PyData.tuple xs) | none=>none)=_;rw [this]
 | .none,_,c,_,_ | .list _,_,c,_,_ | .dict _,_,c,_,_=>by simp [kCl] at c
theorem Z0 (mh:MH):∀ (ks:List PyData) (n:Nat),Di ks=true->qm ks=true->qt ks<=n->mapO (py mh n) (W9 ks)=some ks
 | [],_,_,_,_=>rfl
 | x::r,n,c,l,h=>by
  have c:(kCl x&&Di r)=true:=by simpa [Di] using c
  have l:(x.canLay0&&qm r)=true:=by simpa [qm] using l
  rw [aq] at c l;simp only [qt] at h;simp only [W9,mapO,lF mh x n c.1 l.1 (by omega),Z0 mh r n c.2 l.2 (by omega)]
end
section
variable {X:Cx}{pins:List (Addr×Obj)}{σ:St}{s:Shared}{mh:MH}
theorem Lk {k:PyData}{b:Addr}{H:Hp}{ρ:List Addr}(I:Inv X pins σ H s) (rs:RS X.K H ρ mh) (o:kOk k) (r:RD X.K H ρ (toD k) (.ref b)):IsK s.heap k b:=by
 obtain ⟨⟨as,q⟩,l,d⟩:=Cr I rs 8 _ _ (.ref b) k (lF mh k 8 o.1 o.2.1 o.2.2) r rfl;exact ⟨o.1,l,d,as,q⟩
theorem Vr {d:D}{v:V}{u:Value}{k:PyData}{H:Hp}{ρ:List Addr}(I:Inv X pins σ H s) (rs:RS X.K H ρ mh) (e:kD d=some k) (r:RD X.K H ρ d v) (rv:RelV v u):∃ b,v=.ref b/\u=.ref b/\kOk k/\RD X.K H ρ (toD k) (.ref b):=by
 unfold kD at e;split at e
 ·rename_i ks e1;split at e
  ·rename_i c;cases e;obtain ⟨⟨as,q⟩,l,dp⟩:=Cr I rs 8 _ _ u _ (Xp mh 8 d _ e1) r rv;have ed:=lE 8 d _ e1 c;rw [toD] at ed;subst ed;cases r with
   | @tup _ a xs s1 r1 =>
    cases (show u=Value.ref a from rv);exact ⟨a,rfl,rfl,⟨c,l,dp⟩,.tup s1 r1⟩
  ·cases e
 ·cases e
noncomputable abbrev PN:List (PyData×Addr×V)->List (PyData×Addr×Value)->Prop:=Paired λp q=>p.1=q.1/\p.2.1=q.2.1/\RelV p.2.2 q.2.2
theorem Z1 {n:Nat}{kvs:List (PyData×D)}{v:V}{H:Hp}{ρ:List Addr}(I:Inv X pins σ H s) (rs:RS X.K H ρ mh) (e:mh[n]?=some (.dtk kvs)) (r:RD X.K H ρ (.ref n) v):∃ a xs ys,v=.ref a/\ρ[n]?=some a/\H a=some (.dN xs)/\KN X.K H ρ kvs xs/\xs.length<=sizeLine/\(a==sysModules)=false/\PN xs ys/\s.heap.DictOfH (Ib X.prog X.w) a ys:=by
 cases r with
 | @ref _ a ha =>
  obtain ⟨a',ha',ro⟩:=rs.at e;rw [ha] at ha';cases ha';obtain ⟨xs,q,kn⟩:=ro;obtain ⟨z,y,ys,p,o,es,ep,h1,h2,h3,h4,h5⟩:=(show Bx X.prog X.w H s.heap a (.dN xs) from I.hok a _ q);refine ⟨a,xs,ys,rfl,ha,q,kn,z,y,p,o,es,ep,h1,h2,h3,h4,?_,h5⟩
  clear h4 h5 q z e
  induction kn generalizing ys with
  | nil=>cases p;intro x hx;exact nomatch hx
  | cons ok rk rd _ ih =>
   cases p with
   | cons h t =>
    intro x hx;rcases gn.mp hx with rfl|hx
    ·rw [← h.1,← h.2.1];exact Lk I rs ok rk
    ·exact ih _ t x hx
end
section
variable {K:aj}{H:Hp}{ρ:List Addr}
theorem Ln {p:PyData×D}{r:List (PyData×D)}{k:PyData}:Gz (p::r) k=if p.1=k then some p.2 else Gz r k:=by
 unfold Gz;rw [lg]
 by_cases e:p.1=k
 ·rw [decide_eq_true e,if_pos e];rfl
 ·rw [decide_eq_false e,if_neg e]
theorem Xq {p:PyData×Addr×Value}{r:List (PyData×Addr×Value)}{k:PyData}:atKey (p::r) k=if p.1=k then some p.2 else atKey r k:=by
 unfold atKey;rw [lg]
 by_cases e:p.1=k
 ·rw [decide_eq_true e,if_pos e];rfl
 ·rw [decide_eq_false e,if_neg e]
theorem KN.val (k:PyData) {kvs:List (PyData×D)}{xs:List (PyData×Addr×V)}(h:KN K H ρ kvs xs):∀ {ys:List (PyData×Addr×Value)},PN xs ys->(∃ d v b u,Gz kvs k=some d/\atKey ys k=some (b,u)/\RD K H ρ d v/\RelV v u)\/(Gz kvs k=none/\atKey ys k=none):=by
 induction h with
 | nil=>intro ys p;cases p;exact .inr ⟨rfl,rfl⟩
 | @cons k' d b v kvs xs ok rk rd _ ih =>
  intro ys p;cases p with
  | @cons _ q _ qs h t =>
   rw [Ln,Xq]
   by_cases e:k'=k
   ·rw [if_pos e,if_pos (h.1.symm.trans e)];exact .inl ⟨d,v,q.2.1,q.2.2,rfl,rfl,rd,h.2.2⟩
   ·rw [if_neg e,if_neg λz=>e (h.1.trans z)];exact ih t
noncomputable def lG (xs:List (PyData×Addr×V)) (k:PyData) (b:Addr) (v:V):Bool->List (PyData×Addr×V)
 | true=>xs.map λx=>if x.1=k then (x.1,x.2.1,v) else x
 | false=>xs++[(k,b,v)]
theorem KN.put {k:PyData}{d:D}{b:Addr}{v:V}(ok:kOk k) (rk:RD K H ρ (toD k) (.ref b)) (rd:RD K H ρ d v) {kvs:List (PyData×D)}{xs:List (PyData×Addr×V)}(h:KN K H ρ kvs xs):KN K H ρ (cV kvs k d) (lG xs k b v (Gz kvs k).isSome):=by
 unfold cV;cases (Gz kvs k).isSome with
 | false =>
  rw [if_neg (by decide)];show KN K H ρ (kvs++[(k,d)]) (xs++[(k,b,v)])
  induction h with
  | nil=>exact .cons ok rk rd .nil
  | cons a b c _ ih=>exact .cons a b c ih
 | true =>
  rw [if_pos rfl];show KN K H ρ (kvs.map λe=>if e.1=k then (e.1,d) else e) (xs.map λx=>if x.1=k then (x.1,x.2.1,v) else x)
  induction h with
  | nil=>exact .nil
  | @cons k' d' b' v' _ _ a b c _ ih =>
   rw [dm,dm]
   by_cases e:k'=k
   ·rw [if_pos e,if_pos e];exact .cons a b rd ih
   ·rw [if_neg e,if_neg e];exact .cons a b c ih
theorem PN.put {k:PyData}{b:Addr}{v:V}{u:Value}(rv:RelV v u) {t:Bool}{xs:List (PyData×Addr×V)}{ys:List (PyData×Addr×Value)}(h:PN xs ys) (e:t=(atKey ys k).isSome):PN (lG xs k b v t) (storedH ys k b u):=by
 unfold storedH;rw [← e];cases t with
 | false=>rw [if_neg (by decide)];exact Paired.snoc h ⟨rfl,rfl,rv⟩
 | true =>
  rw [if_pos rfl];show PN (xs.map λx=>if x.1=k then (x.1,x.2.1,v) else x) (ys.map (putAt k u))
  clear e
  induction h with
  | nil=>exact .nil
  | @cons p q ps qs h t ih =>
   rw [dm,dm];refine .cons ?_ ih;unfold putAt
   by_cases e:p.1=k
   ·rw [if_pos e,if_pos (h.1.symm.trans e)];exact ⟨h.1,h.2.1,rv⟩
   ·rw [if_neg e,if_neg λz=>e (h.1.trans z)];exact h
theorem lH {xs:List (PyData×Addr×V)}{k:PyData}{b:Addr}{v:V}(t:Bool):(lG xs k b v t).length<=xs.length+1:=by
 cases t with
 | true=>show (xs.map _).length<=_;rw [fu];omega
 | false=>show (xs++[_]).length<=_;rw [dj];exact bx _
theorem KN.length {kvs:List (PyData×D)}{xs:List (PyData×Addr×V)}(h:KN K H ρ kvs xs):xs.length=kvs.length:=by
 induction h with
 | nil=>rfl
 | cons _ _ _ _ ih=>rw [fj,fj,ih]
theorem Ev.dn {p:Addr}{o z:HO}(hp:H p=some o) (h:(∃ ys,o=.dN ys)\/∃ ys,o=.dK ys):Ev K H ρ (upd H p z) ρ:=by
 have ne:∀ {a:Addr} {u:HO},H a=some u->(∀ ys,u≠.dN ys)->(∀ ys,u≠.dK ys)->a≠p:=λ{a u} e n1 n2 q=>by
  rw [q,hp] at e;cases e;rcases h with ⟨ys,h⟩|⟨ys,h⟩
  ·exact n1 ys h
  ·exact n2 ys h
 refine ⟨λa xs h=>?_,wk _,λa xs h=>?_,λa C dx fs h=>?_,λa o' u' h=>?_⟩
 ·rcases h with (h|⟨ob,h⟩)|h
  ·exact .inl (.inl (by rw [Ad (ne h (λ_ z=>nomatch z) λ_ z=>nomatch z)];exact h))
  ·exact .inl (.inr ⟨ob,by rw [Ad (ne h (λ_ z=>nomatch z) λ_ z=>nomatch z)];exact h⟩)
  ·exact .inr h
 ·rcases h with ⟨ob,h⟩|h
  ·exact .inl ⟨ob,by rw [Ad (ne h (λ_ z=>nomatch z) λ_ z=>nomatch z)];exact h⟩
  ·exact .inr h
 ·rw [Ad (ne h (λ_ z=>nomatch z) λ_ z=>nomatch z)];exact h
 ·rw [Ad (ne h (λ_ z=>nomatch z) λ_ z=>nomatch z)];exact h
theorem RS.setN {mh:MH}{n:Nat}{p:Addr}{o:HO}{xs:List (PyData×Addr×V)}{kvs:List (PyData×D)}(h:RS K H ρ mh) (hn:ρ[n]?=some p) (hp:H p=some o) (ho:(∃ ys,o=.dN ys)\/∃ ys,o=.dK ys) (r:KN K H ρ kvs xs):RS K (upd H p (.dN xs)) ρ (mh.set n (.dtk kvs)):=by
 have ev:Ev K H ρ (upd H p (.dN xs)) ρ:=Ev.dn hp ho;refine ⟨by rw [qu];exact h.len,h.nd,λm a ob e1 e2=>?_⟩
 by_cases e:m=n
 ·subst e;rw [hn] at e1;cases e1;rw [ye (by rw [← h.len];exact (dh.mp hn).1)] at e2;cases e2;exact ⟨xs,Ag,r.mono ev⟩
 ·rw [jk (Ne.symm e)] at e2;refine (h.obj m a ob e1 e2).mono ev (Ad λz=>e ?_);subst z;exact (vm (dh.mp e1).1 h.nd).mp (e1.trans hn.symm)
end
noncomputable def Xr (kvs:List (Key×D)) (y:D):Option (Option D):=match Xo y with
 | some k=>some (Tj kvs k)
 | none=>if kvs.isEmpty then (match kD y with | some _=>some none | none=>none) else none
theorem Rj {kvs:List (Key×D)}{y:D}{o:Option D}(h:Xr kvs y=some o):(∃ k,Xo y=some k/\o=Tj kvs k)\/(kvs=[]/\∃ k,kD y=some k/\o=none):=by
 unfold Xr at h;split at h
 ·rename_i k e;cases h;exact .inl ⟨k,e,rfl⟩
 ·split at h
  ·rename_i e;split at h
   ·rename_i k ek;cases h;exact .inr ⟨KD.mp e,k,ek,rfl⟩
   ·cases h
  ·cases h
theorem lJ {P:Program}{w:World}{h:Heap}{a:Addr}(dd:h.DictOf (Bs P w) a []):h.DictOfH (Ib P w) a []:=by
 obtain ⟨o,es,ep,h1,h2,h3,_,h5,_⟩:=dd;have e:es.toList=[]:=by
  cases q:es.toList with
  | nil=>rfl
  | cons x r=>rw [q] at h5;cases h5
 refine ⟨o,es,ep,h1,h2,h3,by rw [e];rfl,?_,List.nodup_nil⟩;intro x hx;cases hx
noncomputable def G5 (x:D) (mh:MH):Option (D->Option (Option D)):=match x with
 | .ref n=>(match mh[n]? with | some (.dct kvs)=>some (Xr kvs) | some (.dtk kvs)=>some (λy=>(kD y).map (Gz kvs)) | _=>none)
 | _=>none
theorem J6 {x:D}{mh:MH}{f:D->Option (Option D)}(h:G5 x mh=some f):∃ n,x=.ref n/\((∃ kvs,mh[n]?=some (.dct kvs)/\f=Xr kvs)\/∃ kvs,mh[n]?=some (.dtk kvs)/\f=λy=>(kD y).map (Gz kvs)):=by
 cases x with
 | ref n =>
  have h:(match mh[n]? with | some (.dct kvs)=>some (Xr kvs) | some (.dtk kvs)=>some (λy=>(kD y).map (Gz kvs)) | _=>none)=some f:=h;split at h
  ·rename_i e;cases h;exact ⟨n,rfl,.inl ⟨_,e,rfl⟩⟩
  ·rename_i e;cases h;exact ⟨n,rfl,.inr ⟨_,e,rfl⟩⟩
  ·cases h
 | _=>cases h
theorem Rk {n:Nat}{mh:MH}{ds:List D}(h:mh[n]?=some (.lst ds)):G5 (.ref n) mh=none:=by
 unfold G5;simp only [h]
theorem cW {n:Nat}{mh:MH}{kvs:List (Key×D)}(h:mh[n]?=some (.dct kvs)):G5 (.ref n) mh=some (Xr kvs):=by
 unfold G5;simp only [h]
theorem cX {n:Nat}{mh:MH}{kvs:List (PyData×D)}(h:mh[n]?=some (.dtk kvs)):G5 (.ref n) mh=some (λy=>(kD y).map (Gz kvs)):=by
 unfold G5;simp only [h]
theorem Im {K:aj}{H:Hp}{ρ:List Addr}{mh:MH}{n:Nat}{v:V}{kvs:List (Key×D)}(rs:RS K H ρ mh) (r:RD K H ρ (.ref n) v) (e:mh[n]?=some (.dct kvs)):∃ a xs,v=.ref a/\H a=some (.dK xs)/\RK K H ρ kvs xs:=by
 cases r with
 | @ref _ a ha =>
  obtain ⟨a',ha',ro⟩:=rs.at e;rw [ha] at ha';cases ha';obtain ⟨xs,q,k,r⟩:=ro;exact ⟨a,xs,rfl,q,k,r⟩
theorem Tp {K:aj}{H:Hp}{ρ:List Addr}{x:D}{v:V}{k:Key}(r:RD K H ρ x v) (h:Xo x=some k):v=kV k:=by
 cases r with
 | int i=>cases h;rfl
 | str x=>cases h;rfl
 | _=>cases h
noncomputable def inD (neg:Bool) (x c:D) (mh:MH):Option (D×MH):=match G5 c mh with
 | none=>sV neg x c mh
 | some f=>match f x with
  | some o=>some (.bl (if neg then !o.isSome else o.isSome),mh)
  | none=>none
noncomputable def ixD (x y:D) (mh:MH):Option (D×MH):=match G5 x mh with
 | none=>bR x y mh
 | some f=>match f y with
  | some (some d)=>some (d,mh)
  | _=>none
section
variable {X:Cx}
theorem Vs (hu:X.A.units+64 < cLine):X.A.units+1 < cLine:=by omega
theorem Pb (hu:X.A.units+64 < cLine):(Ib X.prog X.w).room X.A.in1:=by
 show X.A.in1.units+8 < cLine;rw [Around.in1_units];omega
theorem KN.some_eq {K:aj}{H:Hp}{ρ:List Addr}(k:PyData) {kvs:List (PyData×D)}{xs:List (PyData×Addr×V)}(h:KN K H ρ kvs xs) {ys:List (PyData×Addr×Value)}(p:PN xs ys):(Gz kvs k).isSome=(atKey ys k).isSome:=by
 rcases h.val k p with ⟨d,v,b,u,e1,e2,_⟩ | ⟨e1,e2⟩ <;> rw [e1,e2] <;> rfl
theorem Abg (hu:X.A.units+64 < cLine):OpR X (compareOp .In) (rD X.K (inD false)):=by
 rintro pins s σ H x y v u Q I rx ry ⟨ρ,mh,dx,dy,d,mh',q,rs,r1,r2,co⟩;unfold inD at q;split at q
 ·exact sW hu pins s σ H x y v u Q I rx ry ⟨ρ,mh,dx,dy,d,mh',q,rs,r1,r2,co⟩
 ·rename_i f ek;obtain ⟨n,rfl,⟨kvs,en,rfl⟩ | ⟨kvs,en,rfl⟩⟩:=J6 ek
  ·obtain ⟨a,xs,rfl,hd,rk⟩:=Im rs r2 en;split at q
   ·rename_i o e;cases q;rcases Rj e with ⟨k,e',rfl⟩|⟨rfl,k,e',rfl⟩
    rotate_left
    ·obtain ⟨b,rfl,rfl,ok,rk'⟩:=Vr I rs e' r1 rx;cases ry;cases rk.inv0;obtain ⟨z,lo,vs,rel,dd⟩:=Y9 I.hok hd;cases rel;exact QS (Pb hu) (Lk I rs ok rk') lo (lJ dd) ⟨.bl _,H,I.tok _,rfl,co H ρ _ Ev.refl rs (.bl _)⟩
    cases Tp r1 e';cases ry;exact Afy (Vs hu) I (rP.k hd) rx λs' I'=>⟨.bl _,H,I',rfl,by rw [rk.some_eq];exact co H ρ _ Ev.refl rs (.bl _)⟩
   ·cases q
  ·obtain ⟨a,xs,ys,rfl,hn,hd,kn,z,lo,pn,dd⟩:=Z1 I rs en r2;split at q
   ·rename_i o e;cases q;obtain ⟨k,e',rfl⟩:=NZ.mp e;obtain ⟨b,rfl,rfl,ok,rk⟩:=Vr I rs e' r1 rx;cases ry;exact QS (Pb hu) (Lk I rs ok rk) lo dd ⟨.bl _,H,I.tok _,rfl,by rw [← kn.some_eq k pn];exact co H ρ _ Ev.refl rs (.bl _)⟩
   ·cases q
theorem Af3 (hu:X.A.units+64 < cLine):IxR X (rD X.K ixD):=by
 rintro value slice pins s σ H x y v u Q I rx ry ⟨ρ,mh,dx,dy,d,mh',q,rs,r1,r2,co⟩ hs;unfold ixD at q;split at q
 ·exact Ad6 value slice pins s σ H x y v u Q I rx ry ⟨ρ,mh,dx,dy,d,mh',q,rs,r1,r2,co⟩ hs
 ·rename_i f ek;obtain ⟨n,rfl,⟨kvs,en,rfl⟩ | ⟨kvs,en,rfl⟩⟩:=J6 ek
  ·obtain ⟨a,xs,rfl,hd,rk⟩:=Im rs r1 en;split at q
   ·rename_i d' e;cases q;rcases Rj e with ⟨k,e,e2⟩|⟨_,k,_,e2⟩
    rotate_left
    ·cases e2
    have e2:=e2.symm;cases Tp r2 e;cases rx;rcases rk.val k with ⟨d2,v2,g1,g2,g3⟩|⟨g1,g2⟩
    ·rw [e2] at g1;cases g1;obtain ⟨z,hn,vs,rel,dd⟩:=Y9 I.hok hd;obtain ⟨w',hw,rw'⟩:=Jv.some_of (v:=v2) (o:=valueAt vs k) (by rw [← g2];exact rel.val k);exact ug (x:=w') dd.typeIs PySem.F.slot_dict_getitem.lookup (wpAny_getItem_of (Y8 ry) dd.mapOf hw ⟨rfl,⟨v2,H,I.tok _,rw',co H ρ _ Ev.refl rs g3⟩⟩) hs
    ·rw [e2] at g1;cases g1
   ·cases q
  ·obtain ⟨a,xs,ys,rfl,hn,hd,kn,z,lo,pn,dd⟩:=Z1 I rs en r1;split at q
   ·rename_i d' e;cases q;obtain ⟨k,e,e2⟩:=NZ.mp e;obtain ⟨b,rfl,rfl,ok,rk⟩:=Vr I rs e r2 ry;cases rx;rcases kn.val k pn with ⟨d2,v2,b2,u2,g1,g2,g3,g4⟩|⟨g1,g2⟩
    ·rw [e2] at g1;cases g1;exact ug (x:=u2) dd.typeIs PySem.F.slot_dict_getitem.lookup (wpAny_getItem_heap (Pb hu) (Lk I rs ok rk) dd g2 ⟨rfl,⟨v2,H,I.tok _,g4,co H ρ _ Ev.refl rs g3⟩⟩) hs
    ·rw [e2] at g1;cases g1
   ·cases q
noncomputable def Af4:Const->Option Str
 | .str x=>some x
 | _=>none
noncomputable def Af5:Expr->Option Str
 | .Constant c _ _=>Af4 c
 | _=>none
noncomputable def Af6:Option Expr->Option Str
 | some e=>Af5 e
 | none=>none
noncomputable def xY:List (Option Expr)->List Expr->Bool
 | [],[]=>true
 | k::ks,_::vs=>(Af6 k).isSome&&xY ks vs
 | _,_=>false
end
noncomputable def cY:Option Str->Value->Bool
 | none,.none=>true
 | none,_=>false
 | some x,v=>Value.isStrOf x v
theorem Bu {k:Option Str}{v:Value}(h:cY k v=true):(k=none/\v=.none)\/∃ x t,k=some x/\v=.str x t:=by
 cases k with
 | none=>cases v <;> first | exact .inl ⟨rfl,rfl⟩ | cases h
 | some x=>obtain ⟨t,e⟩:=Value.isStrOf_shape (show Value.isStrOf x v=true from h);exact .inr ⟨x,t,rfl,e⟩
noncomputable def Abh (w:World):Option Str->Int
 | none=>0xFCA86420
 | some x=>hashStr w x
theorem cZ {P:Program}{w:World}{A:Around}{E:Value->Shared->Prop}{s:Shared}{Q:Int->Shared->Prop}(h:Q 0xFCA86420 { s with toks:=s.toks+1 }):wpAny (model P w) A (pyHash .none) Q E s:=by
 have hT:s.TypeIs Value.none "NoneType":=rfl
 unfold pyHash pyHashByItsType;have hv:[Value.none].any Value.onHeap=false:=rfl;refine ak ?_;rw [cRoomFor,if_neg (by rw [hv];exact iu)];refine bf ?_;refine ak (zb hT F.slot_NoneType_hash.lookup ?_)
 show wpAny _ _ (if (some (Value.builtin "NoneType.__hash__")==some Value.none)=true then _ else _) Q E s;rw [if_neg (by rw [JN];exact iu)];refine ak (zb hT F.slot_NoneType_hash.lookup ?_)
 show wpAny _ _ (callSpecialIfBoundUnlessNone? .none "__hash__" _ >>= _) Q E s
 refine ak (wpAny_callSpecialIfBoundUnlessNone?_slot hT QK
  (qb QK hT F.entry_NoneType_hash
   (show wpAny _ _ (do ret (← mkInt 0xFCA86420)) _ _ s from wpAny_ret_mkInt ?_) (F.args_NoneType_hash_1 _)))
 exact bf h
theorem uJ {P:Program}{w:World}{A:Around}{E:Value->Shared->Prop}{s:Shared}{Q:Bool->Shared->Prop}(h:Q true s):wpAny (model P w) A (eqBool .none .none) Q E s:=by
 unfold eqBool;refine sy ?_;rw [if_pos (by rfl)];exact ak (EY (bf h))
noncomputable def Lp (prog:Program) (w:World):PySem.KeyKind prog w (Option Str) where
 is:=cY
 hash:=Abh w
 inj:=λv a b ha hb=>by
  rcases Bu ha with ⟨rfl,rfl⟩|⟨x,t,rfl,rfl⟩
  ·rcases Bu hb with ⟨rfl,e⟩|⟨y,u,rfl,e⟩
   ·rfl
   ·exact nomatch e
  ·rcases Bu hb with ⟨rfl,e⟩|⟨y,u,rfl,e⟩
   ·exact nomatch e
   ·injection e with e1 _;rw [e1]
 byValue:=λk v h=>by
  rcases Bu h with ⟨rfl,rfl⟩ | ⟨x,t,rfl,rfl⟩ <;> rfl
 pyHash:=λhv h=>by
  rcases Bu hv with ⟨rfl,rfl⟩|⟨x,t,rfl,rfl⟩
  ·exact cZ h
  ·exact JM h
 eqBool:=λhu hv h=>by
  rcases Bu hu with ⟨rfl,rfl⟩|⟨x,t,rfl,rfl⟩
  ·rcases Bu hv with ⟨rfl,rfl⟩|⟨y,u,rfl,rfl⟩
   ·exact uJ (by simpa using h)
   ·exact SeqAt.EqAt.none_str y u _ _ _ _ (by simpa using h)
  ·rcases Bu hv with ⟨rfl,rfl⟩|⟨y,u,rfl,rfl⟩
   ·exact SeqAt.EqAt.str_none x t _ _ _ _ (by simpa using h)
   ·exact wpAny_eqBool_str (by simpa using h)
 «strs»:=λk x t v h=>by
  rcases Bu h with ⟨rfl,e⟩|⟨y,u,rfl,e⟩
  ·exact nomatch e
  ·injection e with e1 _
   subst e1;cases v <;> rfl
theorem Z2:∀ {w:World}{K:aj}{es:List DictEntry}{kvs:List (Str×D)},DEnts w K es kvs->es.find? (λe=>cY none e.key)=none
 | _,_,_,_,.nil=>rfl
 | _,_,_,_,.cons rv rd h=>by rw [lg];exact Z2 h
section
variable {X:Cx}{a:Addr}{kvs:List (Str×D)}
theorem DicOk.mapO {pins:List (Addr×Obj)}{σ:L2.St}{H:Hp}{s:Shared}(D:DicOk X.w X.K a kvs) (I:Inv X pins σ H s):∃ f,s.heap.MapOf (Lp X.prog X.w) a f/\f none=none/\(∃ o,s.heap.get? a=some o/\o.dict=none)/\∀ k,(∃ d u v,kvs.lookup k=some d/\f (some k)=some u/\RelV v u/\∀ H ρ,RD X.K H ρ d v)\/(kvs.lookup k=none/\f (some k)=none):=by
 obtain ⟨o,es,ep,h1,h2,h3,h4⟩:=D.ob;refine ⟨λk=>match k with | none=>none | some k=>El es.toList k,⟨o,es,ep,I.kIn a o h1,h2,h3,λe he=>?_,λk=>?_⟩,rfl,⟨o,I.kIn a o h1,h2.2.1⟩,J5 h4⟩
 ·obtain ⟨k,e1,e2⟩:=Oz (P:=X.prog) h4 e (by simpa using he);exact ⟨some k,e1,e2⟩
 ·cases k with
  | none =>
   show (es.find? λe=>cY none e.key).map (·.val)=none;rw [← RW,Z2 h4];rfl
  | some k=>exact My es k
noncomputable def Aee (K:aj) (a:Addr) (kvs:List (Str×D)):V->List V->Hp->VK->Prop:=λx xs H Q=>x=.ref a /\
  ((∃ k,xs=[.str k]/\∀ v,(∃ d,kvs.lookup k=some d/\∀ H ρ,RD K H ρ d v)\/(kvs.lookup k=none/\v=.non)->Q v H)\/(xs=[.non]/\Q .non H) \/
   ∃ k z,xs=[.str k,z]/\∀ v,(∃ d,kvs.lookup k=some d/\∀ H ρ,RD K H ρ d v)\/(kvs.lookup k=none/\v=z)->Q v H)
theorem Abi (D:DicOk X.w X.K a kvs):MtR X "dict.get" (Aee X.K a kvs):=by
 rintro pins s σ H x xs v us Q I rx rv ⟨rfl,q⟩;cases rx;obtain ⟨f,m,hn,_,hf⟩:=D.mapO I;rcases q with ⟨k,rfl,q⟩|⟨rfl,q⟩|⟨k,z,rfl,q⟩
 ·obtain ⟨u,rfl,ru⟩:=rv.one;obtain ⟨t,rfl⟩:=ru;refine KH yo m.typeIs CQ (LR _ _) (meets_dict_get (Lp X.prog X.w) a (k:=some k) (by simp [Lp,cY,Value.isStrOf]) D.ns) ⟨_,m,?_⟩;rcases hf k with ⟨d,u,v,h1,h2,h3,h4⟩|⟨h1,h2⟩
  ·rw [h2];exact ⟨v,H,I.tok _,h3,q v (.inl ⟨d,h1,h4⟩)⟩
  ·rw [h2];exact ⟨.non,H,I.tok _,rfl,q _ (.inr ⟨h1,rfl⟩)⟩
 ·obtain ⟨u,rfl,ru⟩:=rv.one;cases ru;refine KH yo m.typeIs CQ (LR _ _) (meets_dict_get (Lp X.prog X.w) a (k:=none) rfl D.ns) ⟨_,m,?_⟩;rw [hn];exact ⟨.non,H,I.tok _,rfl,q⟩
 ·obtain ⟨u,w,rfl,ru,rz⟩:=rv.two;obtain ⟨t,rfl⟩:=ru;refine KH yo m.typeIs CQ (PySem.F.args_dict_get_3 _ _ _) (meets_dict_get_default (Lp X.prog X.w) a (k:=some k) (by simp [Lp,cY,Value.isStrOf]) D.ns w) ⟨_,m,?_⟩;rcases hf k with ⟨d,u,v,h1,h2,h3,h4⟩|⟨h1,h2⟩
  ·rw [h2];exact ⟨v,H,I.tok _,h3,q v (.inl ⟨d,h1,h4⟩)⟩
  ·rw [h2];exact ⟨z,H,I.tok _,rz,q _ (.inr ⟨h1,rfl⟩)⟩
variable {e:Expr}{es:List Expr}{x:Str}{p apos cpos:Pos}
theorem uK {id:String}{name:Str}{t:TA}{r:V->List V->Hp->VK->Prop}(D:DicOk X.w X.K a kvs) (hg:Gl X x) (hm:X.mg x=some (.ref a)) (hd:(x==("__debug__":Str))=false) (slot:Slot "dict" name id) (hty:typeOf (.builtin id)=pure (.type "method_descriptor")) (hr:MtR X id r) (ha:PA X (e::es) t)
  (hbase:attributeBase (.Name x p) name X.env (eval (.Name x p) X.env)=eval (.Name x p) X.env)
  (hfew:((backTo cpos (starEach (e::es) X.env)).all (λx=>!x.1)&&(backToKw cpos (keywordEach [] X.env)).all (λx=>x.1.isSome)
   && decide ((e::es).length+([]:List Keyword).length+(if ([]:List Keyword).isEmpty then 0 else 1) < 30))=true)
  (hline:(apos.endLine==cpos.line)=true) (hs:starEach (e::es) X.env=(false,eval e X.env)::starEach es X.env) (hplain:(backTo cpos (starEach es X.env)).any (·.1)=false) :
  PE X (.Call (.Attribute (.Name x p) name apos) (e::es) [] cpos) (λσ H Q=>t σ H λxs H2=>r (.ref a) xs H2 Q):=by
 intro pins s σ H Q I h;refine NK hbase hfew hline rfl (thn (Hg (v:=.ref a) hg hm rfl hd pins s σ H (λy H1=>y=.ref a/\t σ H1 λxs H2=>r (.ref a) xs H2 Q) I ⟨rfl,h⟩) ?_);rintro v s1 ⟨x,H1,I1,r1,rfl,q1⟩;cases (show v=Value.ref a from r1);obtain ⟨f,m,hn,⟨o,ho1,ho2⟩,hf⟩:=D.mapO I1
 refine ⟨"dict",id,PySem.F.plainAttrs_dict,slot,hty,m.typeIs,λb e=>by cases e;exact ⟨o,ho1,ho2⟩,?_⟩;have hA:=ha cpos pins s1 σ H1 _ I1 q1;rw [hs] at hA ⊢;refine CP (by show (false || (backTo cpos (starEach es X.env)).any (·.1))=false;rw [hplain] <;> rfl) (QG ?_);refine thn hA ?_;rintro us s2 ⟨vs,H2,I2,r2,q2⟩;exact hr pins s2 σ H2 (.ref a) vs _ us Q I2 (show RelV (.ref a) (Value.ref a) from rfl) r2 q2
noncomputable def getOf (kvs:List (Str×D)):List D->Option D
 | [.str k]=>some ((kvs.lookup k).getD .non)
 | [.non]=>some .non
 | [.str k,z]=>some ((kvs.lookup k).getD z)
 | _=>none
noncomputable def lK (kvs:List (Str×D)) (mr:DM (List D)):DM D:=mr.bnd λds=>match getOf kvs ds with
 | some d=>Zr d
 | none=>Zb
theorem uL {H:Hp}{ρ:List Addr}{Q:VK}{ds:List D}{vs:List V}{d:D}(h:getOf kvs ds=some d) (r:RDs X.K H ρ ds vs) (q:∀ v,RD X.K H ρ d v->Q v H):Aee X.K a kvs (.ref a) vs H Q:=by
 refine ⟨rfl,?_⟩;unfold getOf at h;split at h
 ·rename_i k;cases h;obtain ⟨v,rfl,rv⟩:=Ik r;cases rv
  exact .inl ⟨k,rfl,λv hv=>q v (by
   rcases hv with ⟨d,h1,h2⟩|⟨h1,rfl⟩
   ·rw [h1];exact h2 H ρ
   ·rw [h1];exact .non)⟩
 ·cases h;obtain ⟨v,rfl,rv⟩:=Ik r;cases rv;exact .inr (.inl ⟨rfl,q _ .non⟩)
 ·rename_i k z;cases h;cases r with
  | cons rv r2 =>
   cases rv;obtain ⟨w,rfl,rw⟩:=Ik r2
   exact .inr (.inr ⟨k,w,rfl,λv hv=>q v (by
    rcases hv with ⟨d,h1,h2⟩|⟨h1,rfl⟩
    ·rw [h1];exact h2 H ρ
    ·rw [h1];exact rw)⟩)
 ·cases h
theorem dB {mr:DM (List D)}(D:DicOk X.w X.K a kvs) (hg:Gl X x) (hm:X.mg x=some (.ref a)) (hd:(x==("__debug__":Str))=false) (ha:DA X (e::es) mr)
  (hbase:attributeBase (.Name x p) "get" X.env (eval (.Name x p) X.env)=eval (.Name x p) X.env)
  (hfew:((backTo cpos (starEach (e::es) X.env)).all (λx=>!x.1)&&(backToKw cpos (keywordEach [] X.env)).all (λx=>x.1.isSome)
   && decide ((e::es).length+([]:List Keyword).length+(if ([]:List Keyword).isEmpty then 0 else 1) < 30))=true)
  (hline:(apos.endLine==cpos.line)=true) (hs:starEach (e::es) X.env=(false,eval e X.env)::starEach es X.env) (hplain:(backTo cpos (starEach es X.env)).any (·.1)=false) :
  DE X (.Call (.Attribute (.Name x p) "get" apos) (e::es) [] cpos) (lK kvs mr):=λloc mh =>
 Ar (uK D hg hm hd yo PySem.F.type_dict_get (Abi D) (ha loc mh) hbase hfew hline hs hplain) λσ H Q ⟨ρ,d,mh',q,rl,rs,co⟩=>by
  obtain ⟨ds,m1,ea,q⟩:=Ah q;refine ⟨ρ,ds,m1,ea,rl,rs,λH1 ρ1 vs e1 rs1 r1=>?_⟩;have q:(match getOf kvs ds with | some d=>Zr d | none=>Zb:DM DL.D) loc m1=some (d,mh'):=q;cases eg:getOf kvs ds with
  | some d' =>
   rw [eg] at q;cases q;exact uL eg r1 λv rv=>co H1 ρ1 v e1 rs1 rv
  | none=>rw [eg] at q;cases q
end
section
variable {X:Cx}{pos pos':Pos}
noncomputable def newD:DM D:=λ_ mh=>some (.ref mh.length,mh++[.dct []])
theorem uM:DE X (.Dict [] [] pos) newD:=λloc mh=>by
 refine Ar Oh ?_;rintro σ H Q ⟨ρ,d,mh',q,rl,rs,co⟩;cases q;exact λp hp=>co _ (ρ++[p]) _ (Ev.newL hp) (rs.newD hp RK.nil) (.ref (rs.last p))
noncomputable def Pg (o i v:D) (h:MH):Option MH:=match o with
 | .ref n=>(match h[n]? with
  | some (.dct kvs)=>(match Xo i with
   | some k=>if kvs.length < 1000000 then some (h.set n (.dct (putD kvs k v))) else none
   | none=>(match kvs with
    | []=>(match kD i with | some k=>some (h.set n (.dtk [(k,v)])) | none=>none)
    | _=>none))
  | some (.dtk kvs)=>(match kD i with | some k=>if kvs.length < 1000000 then some (h.set n (.dtk (cV kvs k v))) else none | none=>none)
  | _=>none)
 | _=>none
theorem Xu {o i v:D}{h h':MH}(q:Pg o i v h=some h'):∃ n,o=.ref n/\((∃ kvs k,h[n]?=some (.dct kvs)/\Xo i=some k/\kvs.length < 1000000/\h'=h.set n (.dct (putD kvs k v)))\/(∃ k,h[n]?=some (.dct [])/\kD i=some k/\h'=h.set n (.dtk [(k,v)]))\/∃ kvs k,h[n]?=some (.dtk kvs)/\kD i=some k/\kvs.length < 1000000/\h'=h.set n (.dtk (cV kvs k v))):=by
 unfold Pg at q;split at q
 ·rename_i n;refine ⟨n,rfl,?_⟩;split at q
  ·rename_i kvs en;split at q
   ·rename_i k ek;split at q
    ·rename_i hz;cases q;exact .inl ⟨kvs,k,en,ek,hz,rfl⟩
    ·cases q
   ·split at q
    ·split at q
     ·rename_i k ek;cases q;exact .inr (.inl ⟨k,en,ek,rfl⟩)
     ·cases q
    ·cases q
  ·rename_i kvs en;split at q
   ·rename_i k ek;split at q
    ·rename_i hz;cases q;exact .inr (.inr ⟨kvs,k,en,ek,hz,rfl⟩)
    ·cases q
   ·cases q
  ·cases q
 ·cases q
noncomputable def lM (mv mo mi:DM D):SM:=λloc mh=>match mv loc mh with
 | none=>none
 | some (v,h1)=>match mo loc h1 with
  | none=>none
  | some (o,h2)=>match mi loc h2 with
   | none=>none
   | some (i,h3)=>match Pg o i v h3 with
    | some h4=>some (.nx,loc,h4)
    | none=>none
theorem Abj {o i value:Expr}{mv mo mi:DM D}(hu:X.A.units+64 < cLine) (ho:DE X o mo) (hi:DE X i mi) (hv:DE X value mv) (hs:swapsWith value (some (.Subscript o i pos')) pos.line X.env=pure false):DS X (.Assign [.Subscript o i pos'] value pos) (lM mv mo mi):=by
 rintro pins s σ H N I ⟨loc,mh,ρ,f,loc',mh',q,rl,rs,co⟩;unfold lM at q;split at q
 ·cases q
 rename_i v h1 ev;split at q
 ·cases q
 rename_i ov h2 eo;split at q
 ·cases q
 rename_i iv h3 ei;split at q
 ·rename_i h4 ep;cases q;refine wpAny_Assign_Subscript (thn (hv.x pins s σ H (λv1 H1=>∃ ρ1,Ev X.K H ρ H1 ρ1/\RS X.K H1 ρ1 h1/\RD X.K H1 ρ1 v v1) I ⟨loc,mh,ρ,v,h1,ev,rl,rs,λH1 ρ1 v1 e1 rs1 r1=>⟨ρ1,e1,rs1,r1⟩⟩) ?_) hs;rintro r s1 ⟨v1,H1,I1,rv,ρ1,e1,rs1,r1⟩;refine thn (ho.x pins s1 σ H1 (λv2 H2=>∃ ρ2,Ev X.K H1 ρ1 H2 ρ2/\RS X.K H2 ρ2 h2/\RD X.K H2 ρ2 ov v2) I1 ⟨loc,h1,ρ1,ov,h2,eo,rl.mono e1,rs1,λH2 ρ2 v2 e2 rs2 r2=>⟨ρ2,e2,rs2,r2⟩⟩) ?_;rintro u s2 ⟨v2,H2,I2,ru,ρ2,e2,rs2,r2⟩;refine thn (hi.x pins s2 σ H2 (λv3 H3=>∃ ρ3,Ev X.K H2 ρ2 H3 ρ3/\RS X.K H3 ρ3 h3/\RD X.K H3 ρ3 iv v3) I2 ⟨loc,h2,ρ2,iv,h3,ei,(rl.mono e1).mono e2,rs2,λH3 ρ3 v3 e3 rs3 r3=>⟨ρ3,e3,rs3,r3⟩⟩) ?_;rintro ui s3 ⟨v3,H3,I3,ri,ρ3,e3,rs3,r3⟩;have r2:=r2.mono e3;have rv3:=(r1.mono e2).mono e3;have rl3:=((rl.mono e1).mono e2).mono e3;have e13:=e1.trans (e2.trans e3);obtain ⟨n,rfl,⟨kvs,k,en,ek,hz,rfl⟩ | ⟨k,en,ek,rfl⟩ | ⟨kvs,k,en,ek,hz,rfl⟩⟩:=Xu ep
  ·obtain ⟨a,xs,rfl,hd,rk⟩:=Im rs3 r2 en;cases Tp r3 ek;have hn:ρ3[n]?=some a:=by cases r2 with | ref h=>exact h
   cases (show u=Value.ref a from ru);exact bO (Vs hu) I3 (rQ.k hd (by rw [rk.length];exact di hz (by decide))) ri rv λs4 I4=>⟨σ,_,I4,co _ ρ3 σ (e13.trans (Ev.dk hd)) (rs3.setD hn hd (rk.put k rv3)) (rl3.mono (Ev.dk hd))⟩
  ·obtain ⟨a,xs,rfl,hd,rk⟩:=Im rs3 r2 en;have hn:ρ3[n]?=some a:=by cases r2 with | ref h=>exact h
   cases (show u=Value.ref a from ru);cases rk.inv0;obtain ⟨b,rfl,rfl,ok,rkk⟩:=Vr I3 rs3 ek r3 ri;obtain ⟨z,lo,vs,rel,dd⟩:=Y9 I3.hok hd;cases rel;have pn:PN [(k,b,v1)] (storedH [] k b r):=.cons ⟨rfl,rfl,rv⟩ .nil;refine GZ (hsz:=by decide) (Pb hu) (Lk I3 rs3 ok rkk) (lJ dd) λh' dd' hs'=>?_
   obtain ⟨q,es,ep',hq,g2,g3,g4,_,g5⟩:=dd';have ho:(∃ ys,HO.dK []=.dN ys)\/∃ ys,HO.dK []=.dK ys:=.inr ⟨_,rfl⟩;exact ⟨σ,_,Np I3 (by rw [hd];exact True.intro) hs' ⟨q,hq⟩ (ob:=.dN [(k,b,v1)]) ⟨(by decide:1<=sizeLine),lo,_,pn,q,es,ep',hq,g2,g3,g4,g5⟩,co _ ρ3 σ (e13.trans (Ev.dn hd ho)) (rs3.setN hn hd ho (.cons ok rkk rv3 .nil)) (rl3.mono (Ev.dn hd ho))⟩
  ·obtain ⟨a,xs,ys,rfl,hn,hd,kn,z,lo,pn,dd⟩:=Z1 I3 rs3 en r2;cases (show u=Value.ref a from ru);obtain ⟨b,rfl,rfl,ok,rkk⟩:=Vr I3 rs3 ek r3 ri;have hz':xs.length < 1000000:=by rw [kn.length];exact hz
   have hl:(lG xs k b v1 (Gz kvs k).isSome).length<=sizeLine:=jg (lH _) (jg hz' (by decide));refine GZ (hsz:=by rw [← Paired.length pn];exact z) (Pb hu) (Lk I3 rs3 ok rkk) dd λh' dd' hs'=>?_
   obtain ⟨q,es,ep',hq,g2,g3,g4,_,g5⟩:=dd';have ho:(∃ zs,HO.dN xs=.dN zs)\/∃ zs,HO.dN xs=.dK zs:=.inl ⟨_,rfl⟩;exact ⟨σ,_,Np I3 (by rw [hd];exact True.intro) hs' ⟨q,hq⟩ (ob:=.dN (lG xs k b v1 (Gz kvs k).isSome)) ⟨hl,lo,_,PN.put rv pn (kn.some_eq k pn),q,es,ep',hq,g2,g3,g4,g5⟩,co _ ρ3 σ (e13.trans (Ev.dn hd ho)) (rs3.setN hn hd ho (kn.put ok rkk rv3)) (rl3.mono (Ev.dn hd ho))⟩
 ·cases q
noncomputable def orS (m1 m2:SM):SM:=λloc mh=>match m1 loc mh with
 | some r=>some r
 | none=>m2 loc mh
theorem Aef {st:Stmt}{m1 m2:SM}(h1:DS X st m1) (h2:DS X st m2):DS X st (orS m1 m2):=by
 rintro pins s σ H N I ⟨loc,mh,ρ,f,loc',mh',q,rest⟩;unfold orS at q;split at q
 ·rename_i e;cases q;exact h1 pins s σ H N I ⟨loc,mh,ρ,f,loc',mh',e,rest⟩
 ·exact h2 pins s σ H N I ⟨loc,mh,ρ,f,loc',mh',q,rest⟩
noncomputable def Tq (o i v:D) (h:MH):Option MH:=match Mv o i v h with
 | some h'=>some h'
 | none=>Pg o i v h
noncomputable def M7 (mo mi:DM D):GM:=λv loc mh=>match mo loc mh with
 | some (o,m1)=>match mi loc m1 with
  | some (i,m2)=>match Tq o i v m2 with
   | some m3=>some (loc,m3)
   | none=>none
  | none=>none
 | none=>none
theorem lN {mv mo mi:DM D}{loc:DL.Loc}{mh:MH}{r:Fl×DL.Loc×MH}(q:Ba mv (M7 mo mi) loc mh=some r):orS (Ba mv (U9 mo mi)) (lM mv mo mi) loc mh=some r:=by
 unfold Ba M7 Tq at q;unfold orS Ba U9 lM;cases ev:mv loc mh with
 | none=>rw [ev] at q;cases q
 | some a =>
  obtain ⟨v,h1⟩:=a;rw [ev] at q;dsimp only at q ⊢;cases eo:mo loc h1 with
  | none=>rw [eo] at q;cases q
  | some b =>
   obtain ⟨o,h2⟩:=b;rw [eo] at q;dsimp only at q ⊢;cases ei:mi loc h2 with
   | none=>rw [ei] at q;cases q
   | some c =>
    obtain ⟨i,h3⟩:=c;rw [ei] at q;dsimp only at q ⊢;cases es:Mv o i v h3 with
    | some h4=>rw [es] at q;exact q
    | none =>
     rw [es] at q;dsimp only at q ⊢;cases ep:Pg o i v h3 with
     | some h4=>rw [ep] at q;exact q
     | none=>rw [ep] at q;cases q
theorem uN {st:Stmt}{mv mo mi:DM D}(h1:DS X st (Ba mv (U9 mo mi))) (h2:DS X st (lM mv mo mi)):DS X st (Ba mv (M7 mo mi)):=by
 rintro pins s σ H N I ⟨loc,mh,ρ,f,loc',mh',q,rest⟩;exact Aef h1 h2 pins s σ H N I ⟨loc,mh,ρ,f,loc',mh',lN q,rest⟩
end
noncomputable def spL (a:Addr) (fd:FuncData):Sp:=λvs H Q _=>vs.length=2/\(∃ o u,H a=some (.frz o u)/\o.data=.func fd)/\Kq H fd.code fd.qualname/\∀ t,H t=none->Q (.ref t) (upd H t (.tup vs))
theorem Abk {P:Program}{w:World}{K:aj}{mg:Str->Option Value}{base:Heap}{a:Addr}{fd:FuncData}(L:Zc fd):∃ x y,FnOk P w K mg base CX0 1 a fd [x,y] (spL a fd)/\∀ u v,bindArgs fd ⟨[u,v],[]⟩=pure [(x,u),(y,v)]:=by
 obtain ⟨name,qual,ps,x,y,p,q,pt,k,sc,pm,cdv,ct,rfl,S,d1,d2,d3,d4,bind⟩:=L;refine ⟨x,y,⟨λvs H Q E h=>h.1,λA outer s H args us vs Q E hr e0 hb r hsp=>?_⟩,bind⟩;obtain ⟨hl,⟨o,u,ho,hd⟩,⟨c,oc,u2,fs,tq,e1,e2,e3,e4⟩,hQ⟩:=hsp;have lim:s.heap.NoLimit:=e0.mod.nolimit.keeps λb o e=>(e0.bs b o e).1
 have hkind:∀ z∈[x,y].zip us,sc.names.lookup z.1=some .local\/(sc.names.lookup z.1=some .cell/\((cellsFrom (s.heap.objs.size+1) sc.names []).lookup z.1).isSome=true):=by
  rintro ⟨n,v⟩ hy;rcases S.par n (qz hy).1 with q|q
  ·exact .inl q
  ·exact .inr ⟨q,mj _ _ _ (.inl q)⟩
 refine QL hr.depth (e0.hok a _ ho).1 hd S.co S.gen rfl ⟨c,oc,fs,tq,e1,(e0.hok c _ e2).1,e3,e4⟩ (hb _ _ _ _ ?_);refine uy S.kind hkind λenv he s1 xx=>?_
 subst he;refine ⟨lim.keeps xx.toInCall.keep,QM ?_⟩;have I:Inv (Gq CX0 P w K mg base [x,y] qual sc a cdv A outer s H E) [] (start [x,y] vs) H s1:=Jd S hr.hd e0 hl r xx;have vis:∀ z∈[x,y],Vis sc z:=λz hz=>(S.par z hz).elim .inl λh=>.inr (.inl h)
 have pe:PE (Gq CX0 P w K mg base [x,y] qual sc a cdv A outer s H E) (.Tuple [.Name x p,.Name y q] k pt) (Adq (gH (bD 0) (gH (bD 1) gG))) :=
  gJ (Dr (Hf rfl (vis x (by simp)) d1 d2) (Dr (Hf rfl (vis y (by simp)) d3 d4) Ga))
 obtain ⟨v1,v2,rfl⟩:∃ v1 v2,vs=[v1,v2]:=by
  match vs,hl with
  | [v1,v2],_=>exact ⟨v1,v2,rfl⟩
 refine nq (pe [] s1 _ H Q I ⟨v1,rfl,v2,rfl,by show 2<=sizeLine;decide,hQ⟩) (λv s' h=>?_) λe s' h=>h
 obtain ⟨v',H',J,rv,q'⟩:=h;exact ⟨v',H',J.os,J.bare,J.base,J.hok,rv,q'⟩
section
variable {X:Cx}
theorem Tr {a:Addr}{o:Obj}{h:Heap}(e:h.get? a=some o):PySem.W.Frag.In [(a,o)] h:=λb ob q=>by
 by_cases hb:b=a
 ·subst hb;simp at q;subst q;exact e
 ·have:(b==a)=false:=by simpa using hb
  simp [qe,this] at q
theorem Xv {i:Nat}{x:Str}{p pos:Pos}{e:Expr}{es:List Expr}{t:TA}{E:XK}
  (hr:Room 1 X.A) (hN:X.N[i]?=some x) (hv:Vis X.env.scope x) (hx:Bh CX0 X E)
  (ha:PA X (e::es) t) (hdb:(x==("__debug__":Str))=false) (hcd:(x==("__classdict__":Str))=false) (he:starEach (e::es) X.env=(false,eval e X.env)::starEach es X.env) (hpl:(backTo pos (starEach es X.env)).any (·.1)=false) :
  PE X (.Call (.Name x p) (e::es) [] pos) (λσ H Q=>∃ a o fd,σ[i]?=some (some (.ref a))/\Zc fd/\o.data=.func fd/\(∃ u,H a=some (.frz o u))/\t σ H λvs H1=>(∃ u,H1 a=some (.frz o u))/\spL a fd vs H1 Q E):=by
 intro pins s σ H Q I h;obtain ⟨a,o,fd,h3,L,ho,h5,h4⟩:=h;refine lq (thn (Hf hN hv hdb hcd pins s σ H (λv H1=>v=.ref a/\(∃ u,H1 a=some (.frz o u))/\t σ H1 λvs H1=>(∃ u,H1 a=some (.frz o u))/\spL a fd vs H1 Q E) I ⟨_,h3,rfl,h5,h4⟩) ?_);rintro u s1 ⟨v,H1,I1,rv,rfl,⟨u1,g1⟩,q⟩;cases (show u=Value.ref a from rv);obtain ⟨x1,y1,F,bind⟩:=Abk (P:=X.prog) (w:=X.w) (K:=X.K) (mg:=X.mg) (base:=X.base) (a:=a) L;have hk:iw [(a,o)] (.ref a)=true:=by
  obtain ⟨oc,od,dd,sl⟩:=o;cases ho;simp [iw]
 refine um (K:=[(a,o)]) (h₀:=s1.heap) (Tr (I1.hok a _ g1).1) hk (thn (ha pos pins s1 σ H1 _ I1 q) λus s2 ⟨vs,H2,I2,r,⟨uf,hf⟩,q2⟩=>⟨Tr (I2.hok a _ hf).1,?_⟩) he hpl;refine Jy (ds:=[]) (dvs:=[]) F hr ?_ .nil hx I2 r (by rw [oh];exact q2);intro s us hk hl;obtain ⟨u1,u2,rfl⟩:∃ u1 u2,us=[u1,u2]:=by
  match us,(show us.length=2 by simpa using hl) with
  | [u1,u2],_=>exact ⟨u1,u2,rfl⟩
 exact .of_eq (bind u1 u2)
noncomputable def lamP (ds:List D) (mh:MH):Option (D×MH):=match ds with
 | [a,b]=>some (.tup [a,b],mh)
 | _=>none
theorem Xw {i:Nat}{x:Str}{p pos:Pos}{a:Expr}{es:List Expr}{mr:DM (List D)}{loc:DL.Loc}{mh:MH}
  (hr:Room 1 X.A) (hN:X.N[i]?=some x) (hv:Vis X.env.scope x) (hx:Bh CX0 X E0) (ha:DA X (a::es) mr)
  (hdb:(x==("__debug__":Str))=false) (hcd:(x==("__classdict__":Str))=false) (he:starEach (a::es) X.env=(false,eval a X.env)::starEach es X.env) (hpl:(backTo pos (starEach es X.env)).any (·.1)=false) (el:loc[i]?=some (some .lam)) :
  PE X (.Call (.Name x p) (a::es) [] pos) (tD X.K loc mh ((mr.bnd λds=>Zl (lamP ds)) loc mh)):=by
 refine Ar (Xv hr hN hv hx (ha loc mh) hdb hcd he hpl) ?_;rintro σ H Q ⟨ρ,d,mh',q,rl,rs,co⟩;obtain ⟨ds,m1,ea,q⟩:=Ah q;obtain ⟨v,e1,r⟩:=rl.2 i _ el;cases r with
 | @lam ad L =>
  obtain ⟨o,u,fd,h1,h2,h3,h4⟩:=L;refine ⟨ad,o,fd,e1,h3,h2,⟨u,h1⟩,ρ,ds,m1,ea,rl,rs,λH1 ρ1 vs e1 rs1 r1=>⟨⟨u,e1.frz _ _ _ h1⟩,?_⟩⟩;unfold Zl lamP at q;split at q
  ·rename_i a b;cases q;exact ⟨by rw [← r1.length];rfl,⟨o,u,e1.frz _ _ _ h1,h2⟩,h4.mono e1.frz,Co.newT rs1 r1 (co.ev e1)⟩
  ·cases q
end
noncomputable abbrev Xx:=CloI->List D->List D->MH->Option (D×MH)
noncomputable def spC (K:aj) (a:Addr) (I:CloI) (fd:FuncData) (cl:List (Str×Addr)) (g:List D->List D->MH->Option (D×MH)):Sp:=λvs H Q _=>vs.length=I.ps.length/\(∃ o u,H a=some (.frz o u)/\o.data=.func fd)/\Kq H fd.code fd.qualname/\cl.map (·.1)=I.fr/\(cl.map (·.2)).Nodup /\
 ∃ xs,Bt H (cl.map (·.2)) xs/\∃ ρ mh fs ds d mh',g fs ds mh=some (d,mh')/\RS K H ρ mh/\RDs K H ρ fs xs/\RDs K H ρ ds vs/\∀ H' ρ' v,Ev K H ρ H' ρ'->RS K H' ρ' mh'->RD K H' ρ' d v->Q v H'
noncomputable def Vt (P:Program) (w:World) (K:aj) (mg:Str->Option Value) (base:Heap) (k:Nat) (clo:Xx):Prop:=(∀ I a fd cl,CloSc I->Ze I fd cl->FnOk P w K mg base CX0 k a fd I.ps (spC K a I fd cl (clo I)))/\∀ I fs ds mh r,clo I fs ds mh=some r->ds.length=I.ps.length
theorem lO {P:Program}{w:World}{K:aj}{mg:Str->Option Value}{base:Heap}{k:Nat}:Vt P w K mg base k (λ_ _ _ _=>none) :=
 ⟨λI a fd cl _ _=>⟨λvs H Q E h=>h.1,λA outer s H args us vs Q E _ _ _ _ h=>by
  obtain ⟨_,_,_,_,_,_,_,_,_,_,_,_,_,q,_⟩:=h
  cases q⟩,λI fs ds mh r h=>by cases h⟩
section
variable {X:Cx}
theorem Xy {k i:Nat}{clo:Xx}{x:Str}{p pos:Pos}{e:Expr}{es:List Expr}{t:TA}{E:XK}
  (F:Vt X.prog X.w X.K X.mg X.base k clo) (hr:Room k X.A) (hN:X.N[i]?=some x) (hv:Vis X.env.scope x) (hx:Bh CX0 X E)
  (ha:PA X (e::es) t) (hdb:(x==("__debug__":Str))=false) (hcd:(x==("__classdict__":Str))=false) (he:starEach (e::es) X.env=(false,eval e X.env)::starEach es X.env) (hpl:(backTo pos (starEach es X.env)).any (·.1)=false) :
  PE X (.Call (.Name x p) (e::es) [] pos) (λσ H Q=>∃ a o fd cl I,σ[i]?=some (some (.ref a))/\CloSc I/\Ze I fd cl/\o.data=.func fd/\(∃ u,H a=some (.frz o u))/\t σ H λvs H1=>(∃ u,H1 a=some (.frz o u))/\spC X.K a I fd cl (clo I) vs H1 Q E):=by
 intro pins s σ H Q I h;obtain ⟨a,o,fd,cl,ci,h3,L1,L2,ho,h5,h4⟩:=h;refine lq (thn (Hf hN hv hdb hcd pins s σ H (λv H1=>v=.ref a/\(∃ u,H1 a=some (.frz o u))/\t σ H1 λvs H1=>(∃ u,H1 a=some (.frz o u))/\spC X.K a ci fd cl (clo ci) vs H1 Q E) I ⟨_,h3,rfl,h5,h4⟩) ?_);rintro u s1 ⟨v,H1,I1,rv,rfl,⟨u1,g1⟩,q⟩;cases (show u=Value.ref a from rv);have hk:iw [(a,o)] (.ref a)=true:=by
  obtain ⟨oc,od,dd,sl⟩:=o;cases ho;simp [iw]
 refine um (K:=[(a,o)]) (h₀:=s1.heap) (Tr (I1.hok a _ g1).1) hk (thn (ha pos pins s1 σ H1 _ I1 q) λus s2 ⟨vs,H2,I2,r,⟨uf,hf⟩,q2⟩=>⟨Tr (I2.hok a _ hf).1,?_⟩) he hpl;refine Jy (ds:=[]) (dvs:=[]) (F.1 ci a fd cl L1 L2) hr ?_ .nil hx I2 r (by rw [oh];exact q2);intro s us hk hl;obtain ⟨_,bind⟩:=L2;rw [oh] at hl ⊢;exact .of_eq (bind us hl)
theorem Xz {k i:Nat}{clo:Xx}{ci:CloI}{fs:List D}{x:Str}{p pos:Pos}{a:Expr}{es:List Expr}{mr:DM (List D)}{loc:DL.Loc}{mh:MH}
  (F:Vt X.prog X.w X.K X.mg X.base k clo) (hr:Room k X.A) (hN:X.N[i]?=some x) (hv:Vis X.env.scope x) (hx:Bh CX0 X E0) (ha:DA X (a::es) mr)
  (hdb:(x==("__debug__":Str))=false) (hcd:(x==("__classdict__":Str))=false) (he:starEach (a::es) X.env=(false,eval a X.env)::starEach es X.env) (hpl:(backTo pos (starEach es X.env)).any (·.1)=false) (el:loc[i]?=some (some (.clo ci fs))) :
  PE X (.Call (.Name x p) (a::es) [] pos) (tD X.K loc mh ((mr.bnd λds=>Zl (clo ci fs ds)) loc mh)):=by
 refine Ar (Xy F hr hN hv hx (ha loc mh) hdb hcd he hpl) ?_;rintro σ H Q ⟨ρ,d,mh',q,rl,rs,co⟩;obtain ⟨ds,m1,ea,q⟩:=Ah q;obtain ⟨v,e1,r⟩:=rl.2 i _ el;cases r with
 | @clo _ _ ad xs L rf =>
  obtain ⟨o,u,fd,cl,h1,h2,h3,h4,h5,h6,h7,h8⟩:=L;refine ⟨ad,o,fd,cl,ci,e1,h3,h4,h2,⟨u,h1⟩,ρ,ds,m1,ea,rl,rs,λH1 ρ1 vs e1 rs1 r1=>⟨⟨u,e1.frz _ _ _ h1⟩,?_⟩⟩;exact ⟨by rw [← r1.length];exact F.2 _ _ _ _ _ q,⟨o,u,e1.frz _ _ _ h1,h2⟩,h5.mono e1.frz,h6,h7,xs,h8.mono e1.frz,ρ1,m1,fs,ds,d,mh',q,rs1,rf.mono e1,r1,co.ev e1⟩
end
section
variable {X:Cx}
theorem lQ {CX:CXT}{k i:Nat}{fa:Addr}{fd:FuncData}{ps:List Str}{sp:Sp}{ds:List Value}{dvs:List V}{x:Str}{p pos:Pos}{e:Expr}{es:List Expr}{t:TA}{E:XK}
  (F:FnOk X.prog X.w X.K X.mg X.base CX k fa fd ps sp) (hr:Room k X.A) (hN:X.N[i]?=some x) (hv:Vis X.env.scope x) (hk:iw X.K (.ref fa)=true) (hb:Binds X.K fd ps ds) (hd:Vals dvs ds) (hx:Bh CX X E)
  (ha:PA X (e::es) t) (hdb:(x==("__debug__":Str))=false) (hcd:(x==("__classdict__":Str))=false) (he:starEach (e::es) X.env=(false,eval e X.env)::starEach es X.env) (hpl:(backTo pos (starEach es X.env)).any (·.1)=false) :
  PE X (.Call (.Name x p) (e::es) [] pos) (λσ H Q=>∃ y a,dg X.K mainGlobals y=some (some (.ref a))/\X.mg y=some (.ref fa)/\σ[i]?=some (some (.ref a))/\Y5 sp dvs E t σ H Q):=by
 intro pins s σ H Q I h;obtain ⟨y,a,h1,h2,h3,h4⟩:=h;have e1:=yc I.kIn (I.mod.glob.keeps I.bk) h1;rw [h2] at e1;cases e1;refine lq (thn (Hf hN hv hdb hcd pins s σ H (λv H1=>v=.ref fa/\Y5 sp dvs E t σ H1 Q) I ⟨_,h3,rfl,h4⟩) ?_);rintro u s1 ⟨v,H1,I1,rv,rfl,q⟩;cases (show u=Value.ref fa from rv);refine um (h₀:=X.base) I1.ok.mod.kin hk (thn (ha pos pins s1 σ H1 _ I1 q) λus s2 ⟨vs,H2,I2,r,q2⟩=>⟨I2.kIn,?_⟩) he hpl;exact Jy F hr hb hd hx I2 r q2
noncomputable def Rm (cal:Str->Option (List Str×Fn)) (clo:Xx) (i:Nat) (mr:DM (List D)):DM D:=λloc mh=>match loc[i]? with
 | some (some (.fn y))=>(match cal y with
  | some (_,g)=>(mr.bnd λds=>Zl (g ds)) loc mh
  | none=>none)
 | some (some .lam)=>(mr.bnd λds=>Zl (lamP ds)) loc mh
 | some (some (.clo I fs))=>(mr.bnd λds=>Zl (clo I fs ds)) loc mh
 | _=>none
theorem lR {cal:Str->Option (List Str×Fn)}{clo:Xx}{k i:Nat}{x:Str}{p pos:Pos}{a:Expr}{es:List Expr}{mr:DM (List D)}(k1:1<=k)
  (hc:∀ y ps f,cal y=some (ps,f)->∃ fa fd,X.mg y=some (.ref fa)/\iw X.K (.ref fa)=true/\Binds X.K fd ps []/\FnOk X.prog X.w X.K X.mg X.base CX0 k fa fd ps (spD X.K ps.length f)/\∀ ds mh r,f ds mh=some r->ds.length=ps.length)
  (hcl:Vt X.prog X.w X.K X.mg X.base k clo) (hr:Room k X.A) (hN:X.N[i]?=some x) (hv:Vis X.env.scope x) (hx:Bh CX0 X E0) (ha:DA X (a::es) mr)
  (hdb:(x==("__debug__":Str))=false) (hcd:(x==("__classdict__":Str))=false) (he:starEach (a::es) X.env=(false,eval a X.env)::starEach es X.env) (hpl:(backTo pos (starEach es X.env)).any (·.1)=false) :
  DE X (.Call (.Name x p) (a::es) [] pos) (Rm cal clo i mr):=λloc mh=>by
 unfold Rm;split
 ·rename_i y el;split
  ·rename_i ps f ec;obtain ⟨fa,fd,h1,h2,h3,h4,h5⟩:=hc y ps f ec;refine Ar (lQ h4 hr hN hv h2 h3 .nil hx (ha loc mh) hdb hcd he hpl) ?_;rintro σ H Q ⟨ρ,d,mh',q,rl,rs,co⟩;obtain ⟨ds,m1,ea,q⟩:=Ah q;obtain ⟨v,e1,r⟩:=rl.2 i _ el;cases r with
   | @fn _ ad hn =>
    refine ⟨y,ad,hn,h1,e1,ρ,ds,m1,ea,rl,rs,λH1 ρ1 vs e1 rs1 r1=>?_⟩;show spD X.K ps.length f (vs++[]) H1 Q E0;rw [oh];exact ⟨by rw [← r1.length];exact h5 _ _ _ q,ρ1,m1,ds,d,mh',q,rs1,r1,co.ev e1⟩
  ·exact Ax
 ·rename_i el;exact Xw (hr.mono k1) hN hv hx ha hdb hcd he hpl el
 ·rename_i I fs el;exact Xz hcl hr hN hv hx ha hdb hcd he hpl el
 ·exact Ax
noncomputable def Rn (g:D->D->MH->Option (D×MH)):D->D->MH->Option (D×MH):=λx y mh=>match Vp x mh with
 | some ds=>(match y with
  | .int k=>if (-(2 ^ 62)<=k/\k < 2 ^ 62)/\ds.length * k.toNat<=1000000 then some (.ref mh.length,mh++[.lst (au k.toNat ds).flatten]) else none
  | _=>none)
 | none=>g x y mh
theorem lU {g:D->D->MH->Option (D×MH)}(h:OpR X (binaryOp .Mult) (rD X.K g)):OpR X (binaryOp .Mult) (rD X.K (Rn g)):=by
 rintro pins s σ H x y v u Q I rx ry ⟨ρ,mh,dx,dy,d,mh',q,rs,r1,r2,co⟩;unfold Rn at q;split at q
 ·rename_i ds e;obtain ⟨n,rfl,en⟩:=Pa e;split at q
  ·rename_i k;split at q
   ·rename_i hk;cases q;cases r2;cases r1 with
    | @ref _ a ha =>
     obtain ⟨a',ha',xs,hl,rr⟩:=rs.at en;rw [ha] at ha';cases ha';refine Aag pins s σ H _ _ v u Q I rx ry ⟨a,k,xs,rfl,rfl,hl,by omega,by omega,by rw [← rr.length,ji];omega,Co.newL rs (rr.rep _) co⟩
   ·cases q
  ·cases q
 ·exact h pins s σ H x y v u Q I rx ry ⟨ρ,mh,dx,dy,d,mh',q,rs,r1,r2,co⟩
end
theorem X3 {prog:Program}{w:World}{d:Addr}(hd:(d==sysModules)=false) :
  MeetsIn prog w (Builtin.«dict.__len__» ⟨[.ref d],[]⟩) (λ_ R s=>∃ o es ep,s.heap.get? d=some o/\o.data=.dict es ep/\R (.ok (.ret (.int es.size s.toks))) { s with toks:=s.toks+1 }) :=
 .of_wp λA R s ⟨o,es,ep,ho,hdat,h⟩=>by
  show wpAny _ _ (dictSize d >>= _) _ _ s;unfold dictSize;refine ak (ak (wpAny_dictEntries ho hdat (bf ?_)));show wpAny _ _ (Builtin.Dict.pendingCount d >>= _) _ _ s;refine ak (wpAny_pendingCount_other hd ?_);refine wpAny_ret_mkInt ?_;rw [Nat.add_zero];exact h
theorem dD {prog:Program}{w:World}{A:Around}{E:Value->Shared->Prop}{s:Shared}{d:Addr}{o:Obj}{es ep}{Q:Value->Shared->Prop}(hd:(d==sysModules)=false) (ho:s.heap.get? d=some o) (hc:o.cls=.type "dict") (hdat:o.data=.dict es ep) (hfit:(es.size:Int) < 2 ^ 63)
  (h:Q (.int es.size (s.toks+1)) { s with toks:=s.toks+1+1 }):wpAny (model prog w) A (call (.builtin "len") [.ref d]) Q E s:=by
 refine JH kind_len plain_len entry_len (args_len1 _) ?_
 have hT:s.TypeIs (.ref d) "dict":=⟨o,ho,hc⟩
 unfold Builtin.«len»
 refine ak (m:=oneArg "len" _) (bf ?_)
 refine ak (m:=callSpecial? (.ref d) (Str.ofString "__len__")) (jt (name:=Str.ofString "__len__") hT F.slot_dict_len
  (KH F.slot_dict_len hT F.entry_dict_len (F.args_dict_len_1 _) (X3 hd) ⟨o,es,ep,ho,hdat,?_⟩))
 show wpAny _ _ _ _ _ { s with toks:=s.toks+1 };refine ak (sy (bf ?_));refine ak (GQ ?_);show wpAny _ _ (if ((es.size:Nat):Int) < 0 then _ else _) _ _ _;rw [if_neg (by omega)];show wpAny _ _ (if ((es.size:Nat):Int) ≥ 2 ^ 63 then _ else _) _ _ _;rw [if_neg (by omega)];exact ak (MT (bf ⟨_,rfl,h⟩))
noncomputable def Gj (ds:List D) (mh:MH):Option (D×MH):=match ds with
 | [.ref n]=>(match mh[n]? with
  | some (.dct kvs)=>some (.int kvs.length,mh)
  | some (.dtk kvs)=>some (.int kvs.length,mh)
  | _=>Qz [.ref n] mh)
 | _=>Qz ds mh
section
variable {X:Cx}
theorem dF:Ay X (.builtin "len") (rDs X.K Gj):=by
 rintro pins s σ H xs us Q I rv ⟨ρ,mh,ds,d,mh',q,rs,r,co⟩;unfold Gj at q;split at q
 ·rename_i n;obtain ⟨v,rfl,rx⟩:=Ik r;obtain ⟨u,rfl,ru⟩:∃ u,us=[u]/\RelV v u:=by cases rv with | cons h t=>cases t;exact ⟨_,rfl,h⟩
  split at q
  ·rename_i kvs en;cases q;obtain ⟨a,xs,rfl,hd,rk⟩:=Im rs rx en;cases (show u=Value.ref a from ru);exact Adz I (.of hd) λt s' I'=>⟨.int _,H,I',⟨_,rfl⟩,by rw [rk.length];exact co H ρ _ Ev.refl rs (.int _)⟩
  ·rename_i kvs en;cases q;obtain ⟨a,xs,ys,rfl,hn,hd,kn,z,lo,pn,o,es,ep,h1,h2,h3,h4,_⟩:=Z1 I rs en rx;cases (show u=Value.ref a from ru);have hl:es.size=kvs.length:=by rw [← kn.length,Paired.length pn,← fu (f:=entryOfKey (Ib X.prog X.w)),← h4];simp
   have hf:(es.size:Int) < 2 ^ 63:=by
    rw [hl,← kn.length];rw [ji] at z;omega
   exact dD lo h1 h2.1 h3 hf ⟨.int _,H,(I.tok _),⟨_,rfl⟩,by rw [hl];exact co H ρ _ Ev.refl rs (.int _)⟩
  ·exact Oq pins s σ H _ _ Q I rv ⟨ρ,mh,_,d,mh',q,rs,r,co⟩
 ·exact Oq pins s σ H _ _ Q I rv ⟨ρ,mh,_,d,mh',q,rs,r,co⟩
end
section
open PySem.W
variable {prog:Program}{w:World}{A:Around}{E:Value->Shared->Prop}{s:Shared}{T:String}{a d:Addr}{n:Nat}{P:Nat->Value->Prop}{OK:Heap->Prop}
end
section
variable {X:Cx}
end
end DL
namespace DL
open PySem PySem.Spec PyProof.Rows L2 PySem.W
section
variable {prog:Program}{w:World}{A:Around}{E:Value->Shared->Prop}{s:Shared}{d it:Addr}{es:Array DictEntry}{ep i:Nat}
end
section
variable {prog:Program}{w:World}{A:Around}{E:Value->Shared->Prop}{s:Shared}
end
section
variable {K:aj}{H:Hp}{ρ:List Addr}
end
section
variable {X:Cx}
end
section
variable {X:Cx}
end
section
variable {prog:Program}{w:World}{A:Around}{E:Value->Shared->Prop}{s:Shared}
end
section
variable {X:Cx}{pins:List (Addr×Obj)}{σ:L2.St}{H:Hp}{s:Shared}{ρ:List Addr}{mh:MH}
theorem Abl {X:Cx}(hu:X.A.units+64 < cLine):OpR X (compareOp .Eq) (rD X.K eqD):=by
 rintro pins s σ H x y v u Q I rx ry ⟨ρ,mh,dx,dy,d,mh',q,rs,r1,r2,co⟩;unfold eqD at q;split at q
 ·rename_i k ek;cases q;obtain ⟨a,b,ea,eb,rfl⟩:=U5 ek;obtain ⟨⟨as,h1⟩,h2,h3⟩:=Cr I rs 60 dx x v a ea r1 rx;obtain ⟨⟨bs,g1⟩,g2,g3⟩:=Cr I rs 60 dy y u b eb r2 ry;exact SeqAt.compareEq_reads h1 g1 h2 g2 (iR hu h3) ⟨.bl _,H,I,rfl,co H ρ _ Ev.refl rs (.bl _)⟩
 ·cases q
end
section
variable {prog:Program}{w:World}{A:Around}{E:Value->Shared->Prop}{s:Shared}{d it v:Addr}{es:Array DictEntry}{ep i:Nat}{ok ov:Value}
end
section
variable {K:aj}{H H':Hp}{ρ ρ':List Addr}
end
section
variable {X:Cx}{pins:List (Addr×Obj)}{σ:L2.St}{H:Hp}{s:Shared}
end
section
variable {X:Cx}{pos apos:Pos}
end
end DL
namespace DL
open PySem PySem.Spec PyProof.Rows L2
inductive InF where
 | par | nd | nl
noncomputable def Jo:List (Str×InF)->D->MH->List D×MH
 | [],_,mh=>([],mh)
 | (_,.par)::r,d,mh=>(d::(Jo r d mh).1,(Jo r d mh).2)
 | (_,.nd)::r,d,mh=>(.ref mh.length::(Jo r d (mh++[.dct []])).1,(Jo r d (mh++[.dct []])).2)
 | (_,.nl)::r,d,mh=>(.ref mh.length::(Jo r d (mh++[.lst []])).1,(Jo r d (mh++[.lst []])).2)
noncomputable def xZ (c:Str) (fs:List (Str×InF)) (ma:DM D):DM D:=ma.bnd λd=>λ_ mh=>some (.obj c (fs.map (·.1)) (Jo fs d mh).1,(Jo fs d mh).2)
noncomputable def Tv (C x dx:Addr) (v:V):List (Str×InF)->List (Str×V)->Hp->(Hp->Prop)->Prop
 | [],_,H,Q=>Q H
 | (f,.par)::r,done,H,Q=>Tv C x dx v r (done++[(f,v)]) (upd H x (.ins C dx (done++[(f,v)]))) Q
 | (f,.nd)::r,done,H,Q=>∀ p,H p=none->Tv C x dx v r (done++[(f,.ref p)]) (upd (upd H p (.dK [])) x (.ins C dx (done++[(f,.ref p)]))) Q
 | (f,.nl)::r,done,H,Q=>∀ p,H p=none->Tv C x dx v r (done++[(f,.ref p)]) (upd (upd H p (.lst [])) x (.ins C dx (done++[(f,.ref p)]))) Q
noncomputable def spN (C:Addr) (fs:List (Str×InF)):Sp:=λvs H Q _=>∃ x dx v,vs=[.ref x,v]/\H x=some (.ins C dx [])/\Tv C x dx v fs [] H (Q .non)
inductive IniB (s q:Str):List Stmt->List (Str×InF)->Prop
 | nil:IniB s q [] []
 | par {f:Str} {p1 p2 p3 p4:Pos} {r:List Stmt} {fs:List (Str×InF)}:IniB s q r fs->IniB s q (.Assign [.Attribute (.Name s p1) f p2] (.Name q p3) p4::r) ((f,.par)::fs)
 | nd {f:Str} {p1 p2 p3 p4:Pos} {r:List Stmt} {fs:List (Str×InF)}:IniB s q r fs->IniB s q (.Assign [.Attribute (.Name s p1) f p2] (.Dict [] [] p3) p4::r) ((f,.nd)::fs)
 | nl {f:Str} {p1 p2 p3 p4:Pos} {r:List Stmt} {fs:List (Str×InF)}:IniB s q r fs->IniB s q (.Assign [.Attribute (.Name s p1) f p2] (.List [] p3) p4::r) ((f,.nl)::fs)
theorem G6 {f:Str}{v:V}:∀ {fs:List (Str×V)},f ∉ fs.map (·.1)->Ia f v fs=fs++[(f,v)]
 | [],_=>rfl
 | (g,x)::r,h=>by
  rw [dm,gn,not_or] at h;show (if g=f then (g,v)::r else (g,x)::Ia f v r)=_;rw [if_neg (Ne.symm h.1),G6 h.2];rfl
section
variable {X:Cx}{s q:Str}{C:Addr}
theorem uO (hs:∀ p,PE X (.Name s p) (bD 0)) (hq:∀ p,PE X (.Name q p) (bD 1)) (hc:Cls X.K C) {body:List Stmt}{fs:List (Str×InF)}(B:IniB s q body fs):(∀ f∈fs,Ck X.K C f.1)->(fs.map (·.1)).Nodup ->
  ∃ t,PSs X body t/\∀ (N:Ends) (x dx:Addr) (v:V) (done:List (Str×V)) (σ:L2.St) (H:Hp),σ[0]?=some (some (.ref x))->σ[1]?=some (some v)->H x=some (.ins C dx done)->(∀ f∈fs,f.1 ∉ done.map (·.1))->done.length+fs.length < 1000->Tv C x dx v fs done H (λH'=>N.nx σ H')->t N σ H:=by
 induction B with
 | nil=>exact λ_ _=>⟨_,Rx,λN x dx v done σ H _ _ _ _ _ h=>h⟩
 | @par f p1 p2 p3 p4 r fs _ ih =>
  intro ha hn;rw [dm,jn] at hn;obtain ⟨t,h1,h2⟩:=ih (λg hg=>ha g (cu _ hg)) hn.2;refine ⟨_,G3 (Oe (hs p1) (hq p3) rfl) h1,λN x dx v done σ H e0 e1 hx hd hl h=>?_⟩;have e2:=G6 (v:=v) (hd _ dw);refine ⟨v,e1,.ref x,e0,x,C,dx,done,rfl,hx,hc,ha _ dw,by rw [fj] at hl;omega,?_⟩;rw [e2];refine h2 N x dx v _ σ _ e0 e1 Ag (λg hg z=>?_) (by rw [dj,kj];rw [fj] at hl;omega) h;rw [pq,ju] at z;rcases z with z|z
  ·exact hd g (cu _ hg) z
  ·have z:g.1=f:=jw.mp z;exact hn.1 (jc.mpr ⟨g,hg,z⟩)
 | @nd f p1 p2 p3 p4 r fs _ ih =>
  intro ha hn;rw [dm,jn] at hn;obtain ⟨t,h1,h2⟩:=ih (λg hg=>ha g (cu _ hg)) hn.2;refine ⟨_,G3 (Oe (hs p1) Oh rfl) h1,λN x dx v done σ H e0 e1 hx hd hl h=>λp hp=>?_⟩;have nx:x≠p:=Ae hx hp;have e2:=G6 (v:=.ref p) (hd _ dw);refine ⟨.ref x,e0,x,C,dx,done,rfl,by rw [Ad nx];exact hx,hc,ha _ dw,by rw [fj] at hl;omega,?_⟩;rw [e2];refine h2 N x dx v _ σ _ e0 e1 Ag (λg hg z=>?_) (by rw [dj,kj];rw [fj] at hl;omega) (h p hp);rw [pq,ju] at z;rcases z with z|z
  ·exact hd g (cu _ hg) z
  ·have z:g.1=f:=jw.mp z;exact hn.1 (jc.mpr ⟨g,hg,z⟩)
 | @nl f p1 p2 p3 p4 r fs _ ih =>
  intro ha hn;rw [dm,jn] at hn;obtain ⟨t,h1,h2⟩:=ih (λg hg=>ha g (cu _ hg)) hn.2;refine ⟨_,G3 (Oe (hs p1) (W2 Ga) rfl) h1,λN x dx v done σ H e0 e1 hx hd hl h=>⟨by decide,λp hp=>?_⟩⟩;have nx:x≠p:=Ae hx hp;have e2:=G6 (v:=.ref p) (hd _ dw);refine ⟨.ref x,e0,x,C,dx,done,rfl,by rw [Ad nx];exact hx,hc,ha _ dw,by rw [fj] at hl;omega,?_⟩;rw [e2];refine h2 N x dx v _ σ _ e0 e1 Ag (λg hg z=>?_) (by rw [dj,kj];rw [fj] at hl;omega) (h p hp);rw [pq,ju] at z;rcases z with z|z
  ·exact hd g (cu _ hg) z
  ·have z:g.1=f:=jw.mp z;exact hn.1 (jc.mpr ⟨g,hg,z⟩)
end
theorem Ny {K:aj}{C:Addr}{f:Str×InF}{fs:List (Str×InF)}(h:Ck K C f.1) (t:∀ g∈fs,Ck K C g.1):∀ g∈f::fs,Ck K C g.1:=λg hg=>by
 rcases gn.mp hg with rfl|hg
 ·exact h
 ·exact t g hg
theorem lV {P:Program}{w:World}{K:aj}{mg:Str->Option Value}{base:Heap}{qual:Str}{st:Stmt}{fa C:Addr}{fd:FuncData}{s q:Str}{fs:List (Str×InF)}(F:Fun K "__init__" qual st fa fd) (S:FnScope [s,q] [s,q] (Ac st)) (hb:IniB s q (Aj st) fs)
  (hs1:Vis (Ac st) s) (hq1:Vis (Ac st) q) (hc:Cls K C) (ha:∀ f∈fs,Ck K C f.1) (nd:(fs.map (·.1)).Nodup) (hl:fs.length < 1000) (d1:(s==("__debug__":Str))=false/\(s==("__classdict__":Str))=false) (d2:(q==("__debug__":Str))=false/\(q==("__classdict__":Str))=false):FnOk P w K mg base CX0 1 fa fd [s,q] (spN C fs):=by
 refine F.ok S (λvs H Q E h=>?_) λcdv A outer sh H vs Q E hr h=>?_
 ·obtain ⟨x,dx,v,rfl,_⟩:=h;rfl
 ·obtain ⟨x,dx,v,rfl,hx,hQ⟩:=h;obtain ⟨t,h1,h2⟩:=uO (X:=(Gq CX0 P w K mg base [s,q] qual (Ac st) fa cdv A outer sh H E).nox) (s:=s) (q:=q) (C:=C) (λp=>Hf (i:=0) rfl hs1 d1.1 d1.2) (λp=>Hf (i:=1) rfl hq1 d2.1 d2.2) hc hb ha nd;exact ⟨t,h1,h2 _ x dx v [] _ H rfl rfl hx (λf _ z=>by cases z) (by rw [FJ,JV];exact hl) hQ⟩
noncomputable def Tw (c:Str) (fs:List (Str×InF)):DM D:=λ_ mh=>some (.obj c (fs.map (·.1)) (Jo fs .non mh).1,(Jo fs .non mh).2)
noncomputable def uP (C:Addr) (fs:List (Str×InF)):Sp:=λvs H Q _=>∃ x dx,vs=[.ref x]/\H x=some (.ins C dx [])/\Tv C x dx .non fs [] H (Q .non)
inductive IniB0 (s:Str):List Stmt->List (Str×InF)->Prop
 | nil:IniB0 s [] []
 | nd {f:Str} {p1 p2 p3 p4:Pos} {r:List Stmt} {fs:List (Str×InF)}:IniB0 s r fs->IniB0 s (.Assign [.Attribute (.Name s p1) f p2] (.Dict [] [] p3) p4::r) ((f,.nd)::fs)
 | nl {f:Str} {p1 p2 p3 p4:Pos} {r:List Stmt} {fs:List (Str×InF)}:IniB0 s r fs->IniB0 s (.Assign [.Attribute (.Name s p1) f p2] (.List [] p3) p4::r) ((f,.nl)::fs)
theorem lW {X:Cx}{s:Str}{C:Addr}(hs:∀ p,PE X (.Name s p) (bD 0)) (hc:Cls X.K C) {body:List Stmt}{fs:List (Str×InF)}(B:IniB0 s body fs):(∀ f∈fs,Ck X.K C f.1)->(fs.map (·.1)).Nodup ->
  ∃ t,PSs X body t/\∀ (N:Ends) (x dx:Addr) (v:V) (done:List (Str×V)) (σ:L2.St) (H:Hp),σ[0]?=some (some (.ref x))->H x=some (.ins C dx done)->(∀ f∈fs,f.1 ∉ done.map (·.1))->done.length+fs.length < 1000->Tv C x dx v fs done H (λH'=>N.nx σ H')->t N σ H:=by
 induction B with
 | nil=>exact λ_ _=>⟨_,Rx,λN x dx v done σ H _ _ _ _ h=>h⟩
 | @nd f p1 p2 p3 p4 r fs _ ih =>
  intro ha hn;rw [dm,jn] at hn;obtain ⟨t,h1,h2⟩:=ih (λg hg=>ha g (cu _ hg)) hn.2;refine ⟨_,G3 (Oe (hs p1) Oh rfl) h1,λN x dx v done σ H e0 hx hd hl h=>λp hp=>?_⟩;have nx:x≠p:=Ae hx hp;have e2:=G6 (v:=.ref p) (hd _ dw);refine ⟨.ref x,e0,x,C,dx,done,rfl,by rw [Ad nx];exact hx,hc,ha _ dw,by rw [fj] at hl;omega,?_⟩;rw [e2];refine h2 N x dx v _ σ _ e0 Ag (λg hg z=>?_) (by rw [dj,kj];rw [fj] at hl;omega) (h p hp);rw [pq,ju] at z;rcases z with z|z
  ·exact hd g (cu _ hg) z
  ·have z:g.1=f:=jw.mp z;exact hn.1 (jc.mpr ⟨g,hg,z⟩)
 | @nl f p1 p2 p3 p4 r fs _ ih =>
  intro ha hn;rw [dm,jn] at hn;obtain ⟨t,h1,h2⟩:=ih (λg hg=>ha g (cu _ hg)) hn.2;refine ⟨_,G3 (Oe (hs p1) (W2 Ga) rfl) h1,λN x dx v done σ H e0 hx hd hl h=>⟨by decide,λp hp=>?_⟩⟩;have nx:x≠p:=Ae hx hp;have e2:=G6 (v:=.ref p) (hd _ dw);refine ⟨.ref x,e0,x,C,dx,done,rfl,by rw [Ad nx];exact hx,hc,ha _ dw,by rw [fj] at hl;omega,?_⟩;rw [e2];refine h2 N x dx v _ σ _ e0 Ag (λg hg z=>?_) (by rw [dj,kj];rw [fj] at hl;omega) (h p hp);rw [pq,ju] at z;rcases z with z|z
  ·exact hd g (cu _ hg) z
  ·have z:g.1=f:=jw.mp z;exact hn.1 (jc.mpr ⟨g,hg,z⟩)
theorem lX {P:Program}{w:World}{K:aj}{mg:Str->Option Value}{base:Heap}{qual:Str}{st:Stmt}{fa C:Addr}{fd:FuncData}{s:Str}{fs:List (Str×InF)}(F:Fun K "__init__" qual st fa fd) (S:FnScope [s] [s] (Ac st)) (hb:IniB0 s (Aj st) fs)
  (hs1:Vis (Ac st) s) (hc:Cls K C) (ha:∀ f∈fs,Ck K C f.1) (nd:(fs.map (·.1)).Nodup) (hl:fs.length < 1000) (d1:(s==("__debug__":Str))=false/\(s==("__classdict__":Str))=false):FnOk P w K mg base CX0 1 fa fd [s] (uP C fs):=by
 refine F.ok S (λvs H Q E h=>?_) λcdv A outer sh H vs Q E hr h=>?_
 ·obtain ⟨x,dx,rfl,_⟩:=h;rfl
 ·obtain ⟨x,dx,rfl,hx,hQ⟩:=h;obtain ⟨t,h1,h2⟩:=lW (X:=(Gq CX0 P w K mg base [s] qual (Ac st) fa cdv A outer sh H E).nox) (s:=s) (C:=C) (λp=>Hf (i:=0) rfl hs1 d1.1 d1.2) hc hb ha nd;exact ⟨t,h1,h2 _ x dx .non [] _ H rfl hx (λf _ z=>by cases z) (by rw [FJ,JV];exact hl) hQ⟩
section
variable {X:Cx}{C:Addr}{c:Str}
theorem Vu {H:Hp}{x p:Addr}{i o j:HO}(h:p≠x):upd (upd (upd H x i) p o) x j=upd (upd H p o) x j:=by
 funext b
 by_cases e:b=x
 ·subst e;rw [Ag,Ag]
 ·rw [Ad e,Ad e]
  by_cases e2:b=p
  ·subst e2;rw [Ag,Ag]
  ·rw [Ad e2,Ad e2,Ad e]
theorem Ph {H1:Hp}{ρ1:List Addr}{z dx:Addr}{v:V}{d:D}{Q:Hp->Prop}(hn:dg X.K mainGlobals c=some (some (.ref C))):∀ (fs:List (Str×InF)) (ks:List Str) (xs:List V) (ds:List D) (Hc:Hp) (ρc:List Addr) (m:MH),Hc z=none->Ev X.K H1 ρ1 Hc ρc->RS X.K Hc ρc m->ks.length=xs.length->RDs X.K Hc ρc ds xs->RD X.K Hc ρc d v ->
  (∀ H' ρ',Ev X.K H1 ρ1 H' ρ'->RS X.K H' ρ' (Jo fs d m).2->RD X.K H' ρ' (.obj c (ks++fs.map (·.1)) (ds++(Jo fs d m).1)) (.ref z)->Q H')->Tv C z dx v fs (ks.zip xs) (upd Hc z (.ins C dx (ks.zip xs))) Q
 | [],ks,xs,ds,Hc,ρc,m,hz,e,rs,kl,rx,rd,h=>by
  refine h _ ρc (e.trans (Ev.new hz)) (rs.new hz) ?_;show RD X.K _ ρc (.obj c (ks++[]) (ds++[])) _;rw [oh,oh];exact .obj (xs:=xs) hn Ag kl (rx.mono (Ev.new hz))
 | (f,.par)::r,ks,xs,ds,Hc,ρc,m,hz,e,rs,kl,rx,rd,h=>by
  have ez:ks.zip xs++[(f,v)]=(ks++[f]).zip (xs++[v]):=by rw [MN kl];rfl
  show Tv C z dx v r (ks.zip xs++[(f,v)]) (upd (upd Hc z _) z (.ins C dx (ks.zip xs++[(f,v)]))) Q;rw [qO,ez];refine Ph hn r (ks++[f]) (xs++[v]) (ds++[d]) Hc ρc m hz e rs (by rw [dj,dj,kl];rfl) (rx.append (.cons rd .nil)) rd λH' ρ' e' rs' r'=>h H' ρ' e' rs' ?_
  rw [su,su] at r';exact r'
 | (f,.nd)::r,ks,xs,ds,Hc,ρc,m,hz,e,rs,kl,rx,rd,h=>by
  intro p hp;have ne:p≠z:=λq=>by rw [q,Ag] at hp;cases hp
  rw [Ad ne] at hp;have ez:ks.zip xs++[(f,V.ref p)]=(ks++[f]).zip (xs++[V.ref p]):=by rw [MN kl];rfl
  rw [Vu ne,ez];have e2:=Ev.newL (K:=X.K) (ρ:=ρc) (o:=.dK []) hp;refine Ph hn r (ks++[f]) (xs++[.ref p]) (ds++[.ref m.length]) _ (ρc++[p]) (m++[MO.dct []]) (by rw [Ad (Ne.symm ne)];exact hz) (e.trans e2) (rs.newD hp RK.nil) (by rw [dj,dj,kl];rfl) ((rx.mono e2).append (.cons (.ref (rs.last p)) .nil)) (rd.mono e2) λH' ρ' e' rs' r'=>h H' ρ' e' rs' ?_
  rw [su,su] at r';exact r'
 | (f,.nl)::r,ks,xs,ds,Hc,ρc,m,hz,e,rs,kl,rx,rd,h=>by
  intro p hp;have ne:p≠z:=λq=>by rw [q,Ag] at hp;cases hp
  rw [Ad ne] at hp;have ez:ks.zip xs++[(f,V.ref p)]=(ks++[f]).zip (xs++[V.ref p]):=by rw [MN kl];rfl
  rw [Vu ne,ez];have e2:=Ev.newL (K:=X.K) (ρ:=ρc) (o:=.lst []) hp;refine Ph hn r (ks++[f]) (xs++[.ref p]) (ds++[.ref m.length]) _ (ρc++[p]) (m++[MO.lst []]) (by rw [Ad (Ne.symm ne)];exact hz) (e.trans e2) (rs.newL hp .nil) (by rw [dj,dj,kl];rfl) ((rx.mono e2).append (.cons (.ref (rs.last p)) .nil)) (rd.mono e2) λH' ρ' e' rs' r'=>h H' ρ' e' rs' ?_
  rw [su,su] at r';exact r'
variable {CX:CXT}{k:Nat}{fa:Addr}{fd:FuncData}{ps:List Str}{E:XK}{pos:Pos}
theorem lY {x:Str}{p:Pos}{ma:DM D}{a:Expr}{fs:List (Str×InF)}(hn:dg X.K mainGlobals x=some (some (.ref C))) (M:Mk X.K C fa) (F:FnOk X.prog X.w X.K X.mg X.base CX k fa fd ps (spN C fs)) (hr:Room (k+1) X.A) (hg:Gl X x) (hm:X.mg x=some (.ref C)) (hb:Binds X.K fd ps []) (hx:Bh CX X E)
  (ha:DE X a ma) (hdb:(x==("__debug__":Str))=false) (hs:starEach [a] X.env=(false,eval a X.env)::starEach [] X.env):DE X (.Call (.Name x p) [a] [] pos) (xZ x fs ma):=λloc mh =>
 Ar (rF M F hr hg hm hb .nil hx (Dr (ha loc mh) Ga hs) hdb hs) λσ H Q ⟨ρ,d,mh',q,rl,rs,co⟩=>by
  obtain ⟨y,m1,ea,q⟩:=Ah q;cases q;refine ⟨ρ,y,_,ea,rl,rs,λH1 ρ1 v e1 rs1 r1=>λz dx hz hdx hne=>?_⟩;have hz':upd H1 dx (HO.own z) z=none:=by rw [Ad (Ne.symm hne)];exact hz
  refine ⟨z,dx,v,rfl,Ag,?_⟩;exact Ph (H1:=H1) (ρ1:=ρ1) (c:=x) hn fs [] [] [] (upd H1 dx (.own z)) ρ1 m1 hz' (Ev.new hdx) (rs1.new hdx) rfl .nil (r1.mono (Ev.new hdx)) λH' ρ' e' rs' r'=>⟨rfl,co H' ρ' _ (e1.trans e') rs' r'⟩
theorem lZ {x:Str}{p:Pos}{fs:List (Str×InF)}(hn:dg X.K mainGlobals x=some (some (.ref C))) (M:Mk X.K C fa) (F:FnOk X.prog X.w X.K X.mg X.base CX k fa fd ps (uP C fs)) (hr:Room (k+1) X.A) (hg:Gl X x) (hm:X.mg x=some (.ref C)) (hb:Binds X.K fd ps []) (hx:Bh CX X E)
  (hdb:(x==("__debug__":Str))=false):DE X (.Call (.Name x p) [] [] pos) (Tw x fs):=λloc mh =>
 Ar (gO M F hr hg hm hb .nil hx hdb) λσ H Q ⟨ρ,d,mh',q,rl,rs,co⟩=>by
  cases q;intro z dx hz hdx hne;have hz':upd H dx (HO.own z) z=none:=by rw [Ad (Ne.symm hne)];exact hz
  refine ⟨z,dx,rfl,Ag,?_⟩;exact Ph (H1:=H) (ρ1:=ρ) (c:=x) hn fs [] [] [] (upd H dx (.own z)) ρ mh hz' (Ev.new hdx) (rs.new hdx) rfl .nil .non λH' ρ' e' rs' r'=>⟨rfl,co H' ρ' _ e' rs' r'⟩
end
end DL
namespace DL
open PySem PySem.Spec PyProof.Rows L2 PySem.W
section
variable {prog:Program}{w:World}{A:Around}{E:Value->Shared->Prop}{κ:SortKind}{it:Array Keyed}{s:Shared}
end
section
variable {X:Cx}
noncomputable def dG (ds:List D) (mh:MH):Option (D×MH):=match ds with
 | [.int i,.int j]=>if ((-(2 ^ 62)<=i/\i < 2 ^ 62)/\(-(2 ^ 62)<=j/\j < 2 ^ 62))/\(j - i).toNat<=1000000 then some (.ref mh.length,mh++[.lst (Dw i (j - i).toNat)]) else none
 | _=>none
end
end DL
namespace DL
open PySem PySem.Spec PyProof.Rows L2
theorem dH:typeLookup (.type "list_reverseiterator") "__len__"=pure none:=by rw [typeLookup_type,PX];kernel_rfl
theorem mC:typeLookup (.type "list_reverseiterator") "__length_hint__"=pure (some (.builtin "list_reverseiterator.__length_hint__")):=by rw [typeLookup_type,PX];kernel_rfl
section
variable {prog:Program}{w:World}{A:Around}{E:Value->Shared->Prop}{s:Shared}
theorem mD {r l:Addr}{i:Int}{Q:Bool->Shared->Prop}(hr:s.heap.IsRevIter r l i) (h:Q false s):wpAny (model prog w) A (HD (.ref r)) Q E s:=by
 unfold HD;refine ak (zb hr.typeIs dH ?_)
 show wpAny _ _ (specialOf (Value.ref r) (Str.ofString "__length_hint__") >>= _) _ _ _;refine ak (zb hr.typeIs mC ?_)
 generalize hid:("list_reverseiterator.__length_hint__":String)=id0
 wp_delta
 rw [show splitId id0=some ("list_reverseiterator", "__length_hint__") from by subst hid;decide +kernel];subst hid
 refine ak (CT (T := "list_reverseiterator") (b:=true) hr.typeIs (by rw [isSubtype_type];kernel_rfl) ?_);refine GC (λhab=>absurd hab (by decide)) (λ_=>?_);refine GC (λ_=>?_) (λhab=>absurd (by decide +kernel) hab);refine GC (λhab=>absurd hab (by decide +kernel)) (λ_=>?_);exact bf h
theorem Qm {r l:Addr}{items:Array Value}{Q:Value->Shared->Prop}(hh:A.handled=none) (hr:s.heap.IsRevIter r l ((items.size:Int) - 1)) (hl:s.heap.IsList l items) (hne:l≠r) (hn:items.size<=sizeLine)
  (hQ:∀ h' tk acc' c',(∀ b o,b≠r->s.heap.get? b=some o->h'.get? b=some o) ->
   h'.get? s.heap.objs.size=some { cls:=.type "list",dict:=none,data:=.seq acc' c',slots:=#[] }->ItemsOf (λi v=>items[items.size - 1 - i]?=some v) acc' items.size->Q (.ref s.heap.objs.size) { s with heap:=h',toks:=tk }) :
  wpAny (model prog w) A (call (.type "list") [.ref r]) Q E s:=by
 refine callType_codes (Q₁:=λobj s₁=>obj=.ref s.heap.objs.size/\s₁={ s with heap:=s.heap.push { cls:=.type "list",data:=.seq #[] } }) F.called_list (F.typeCall_list_1 _) F.entry_list_init
  (code_list_new _ ⟨rfl,rfl⟩) λobj s₁ h₁=>?_
 obtain ⟨rfl,rfl⟩:=h₁;have ltr:r < s.heap.objs.size:=by obtain ⟨o,e,_⟩:=hr;exact Heap.lt_size e
 have ltl:l < s.heap.objs.size:=by obtain ⟨o,e,_⟩:=hl;exact Heap.lt_size e
 generalize hN:s.heap.objs.size=S at *
 have hS:(s.heap.push { cls:=.type "list",data:=.seq #[] }).get? S=some { cls:=.type "list",data:=.seq #[] }:=by rw [← hN];exact bh _ rfl
 refine ⟨⟨_,hS,rfl⟩,F.args_list_init_2 _ _,?_⟩
 have up0:∀ b o,s.heap.get? b=some o->(s.heap.push { cls:=.type "list",data:=.seq #[] }).get? b=some o:=λb o e=>ao _ e
 generalize s.heap.push { cls:=.type "list",data:=.seq #[] }=h0 at hS up0;show wpAny _ _ (OD (.ref S) >>= _) _ _ _;refine ak ?_;unfold OD;refine ak (qg hS rfl (bf ?_));show wpAny _ _ (updateSeq S (λ_=>#[]) >>= _) _ _ _;refine ak (wpAny_updateSeq hS rfl ?_);have hS1:=DQ (lz (λ_=>(#[]:Array Value))) hS rfl;have up1:∀ b o,b≠S->s.heap.get? b=some o->(h0.update S (lz (λ_=>(#[]:Array Value)))).get? b=some o:=λb o hb e=>(CN _ _ (Ne.symm hb)).trans (up0 b o e)
 refine ak (GQ ?_);generalize h0.update S (lz (λ_=>(#[]:Array Value)))=ha at hS1 up1;have rS:r≠S:=cj ltr;have lS:l≠S:=cj ltl;have hr1:ha.IsRevIter r l ((items.size:Int) - 1):=hr.at λo e=>up1 r o rS e
 have hl1:ha.IsList l items:=hl.at λo e=>up1 l o lS e
 unfold uo
 have hT1:Shared.TypeIs { s with heap:=ha } (.ref r) "list_reverseiterator":=Heap.IsRevIter.typeIs (s:={ s with heap:=ha }) hr1
 refine ak (zy hT1 ?_);have q1:KJ (.ref S) (.ref r)=false:=by simp [KJ,Ne.symm rS]
 have q2:(Value.type "list_reverseiterator"==Value.type "list")=false:=by decide
 have q3:(Value.type "list_reverseiterator"==Value.type "tuple")=false:=by decide
 simp only [q1,q2,q3,HY,uh,if_false];refine ak (wpAny_pyIter_revIter (s:={ s with heap:=ha }) hr1 ?_);refine ak (sy (mD (s:={ s with heap:=ha }) hr1 ?_));refine GC (λhab=>absurd hab (by decide)) (λ_=>?_);have W:=(Walks.listRev (prog:=prog) (w:=w) (A:=A.in1.in1) hh r l hne items).toS;have hSf:S ∉ [r,l]:=λhm=>by
  rcases gn.mp hm with e|hm
  ·exact rS e.symm
  ·exact lS (jw.mp hm).symm
 refine bf ⟨plainId_quiet F.plain_extend_loop _,codeAny_extend_loopS W hn S hSf .none items.size 0 _ #[] _ rfl (qx _) ⟨qx _,by simpa using hr1,hl1⟩ hS1 (ItemsOf.nil _) λs' acc' c' hm hS' hacc=>?_⟩;rw [Moved.eq_with hm];refine ⟨rfl,hQ s'.heap s'.toks acc' c' (λb o hb e=>hm.heap b o (λhmem=>?_) (up1 b o ?_ e)) hS' hacc⟩
 ·rcases gn.mp hmem with e'|hmem
  ·rw [e'] at e;exact absurd (Heap.lt_size e) (by rw [hN];exact jj _)
  ·exact hb (jw.mp hmem)
 ·intro z;rw [z] at e;exact absurd (Heap.lt_size e) (by rw [hN];exact jj _)
end
theorem Vals.reverse {xs:List V}{us:List Value}(h:Vals xs us):Vals xs.reverse us.reverse:=by
 induction h with
 | nil=>exact .nil
 | cons r _ ih=>rw [BZ,BZ];exact ih.append (.cons r .nil)
theorem dI {t:List Value}{acc:Array Value}(h:ItemsOf (λi v=>t.toArray[t.toArray.size - 1 - i]?=some v) acc t.toArray.size):acc.toList=t.reverse:=by
 obtain ⟨h1,h2⟩:=h;have h1:acc.size=t.length:=by rw [h1,cg]
 refine List.ext_getElem? λi=>?_
 by_cases hi:i < t.length
 ·have ha:i < acc.size:=by rw [h1];exact hi
  have:=h2 i acc[i] (JK ha);rw [List.getElem?_reverse hi,Array.getElem?_toList,JK ha]
  simpa using this.symm
 ·rw [DR (by simp;omega),DR (by simp;omega)]
noncomputable def Io (x:D) (mh:MH):Option (D×MH):=match x with
 | .ref n=>(match mh[n]? with | some (.lst o)=>some (.ref mh.length,mh++[.lst o.reverse]) | _=>none)
 | _=>none
noncomputable def yC (m:DM D):DM D:=m.bnd λx=>Zl (Io x)
section
variable {X:Cx}
theorem boot_reversed:bootBuiltins "reversed"=some (.type "reversed"):=by decide +kernel
theorem X4 {a:Expr}{ma:DM D}{p p2 pos pos2:Pos}(hc:X.calm=true) (hg:Gl X "list") (hm:X.mg "list"=none) (hg2:Gl X "reversed") (hm2:X.mg "reversed"=none) (ha:DE X a ma) (hs:starEach [a] X.env=(false,eval a X.env)::starEach [] X.env) :
  DE X (.Call (.Name "list" p) [.Call (.Name "reversed" p2) [a] [] pos2] [] pos) (ma.bnd λx=>Zl (Io x)):=by
 rintro loc mh pins s σ H Q I ⟨ρ,d,mh',q,rl,rs,co⟩;obtain ⟨x,m1,ea,q⟩:=Ah q;have q:Io x m1=some (d,mh'):=q
 refine Call_ (Ie I hg hm boot_list (PyProof.Rows.callWith_type1 (e:=.Call (.Name "reversed" p2) [a] [] pos2) (rest:=[]) ?_ rfl rfl))
 show wpAny _ _ (spliced ((false,eval (.Call (.Name "reversed" p2) [a] [] pos2) X.env)::backTo pos (starEach [] X.env))) _ _ s;refine RZ (Call_ (Ie I hg2 hm2 boot_reversed (PyProof.Rows.callWith_type1 (thn (Hj ha Ss hs loc mh pos2 pins s σ H (λvs H1=>∃ ρ1,Ev X.K H ρ H1 ρ1/\RS X.K H1 ρ1 m1/\RDs X.K H1 ρ1 [x] vs) I ⟨ρ,[x],m1,by unfold Aa DM.bnd;rw [ea];rfl,rl,rs,λH1 ρ1 v e1 rs1 r1=>⟨ρ1,e1,rs1,r1⟩⟩) ?_) hs rfl)));rintro us s1 ⟨vs,H1,I1,r1,ρ1,e1,rs1,rx⟩;unfold Io at q;split at q
 ·rename_i n;split at q
  ·rename_i o eo;cases q;cases rx with
   | cons rx ry =>
    cases ry;cases r1 with
    | cons u1 r1 =>
     cases r1;obtain ⟨a0,ha0,ro⟩:=rs1.at eo;cases rx with
     | ref hz =>
      rw [ha0] at hz;cases hz;cases u1;obtain ⟨xs,sq,rd⟩:=ro.read;obtain ⟨t1,w1,p1,z1⟩:=Xh.get I1 sq;have p1:s1.heap.IsList a0 t1.toArray:=p1;have lt0:a0 < s1.heap.objs.size:=by obtain ⟨o,e,_⟩:=p1;exact Heap.lt_size e
      refine call_reversed_list p1 ?_;refine UW (Qm (s:={ s1 with heap:=s1.heap.push (revObj a0 ((t1.toArray.size:Int) - 1)) }) (I1.ok.hd hc) ⟨_,bh _ rfl,rfl,rfl⟩ (p1.at λo e=>ao _ e) (cj lt0) (by rw [cg,← w1.length];exact z1) λh' tk acc c hk hS hacc=>?_);have hk2:∀ b u,s1.heap.get? b=some u->h'.get? b=some u:=λb u e=>hk b u (cj (Heap.lt_size e)) (ao _ e)
      have hsz:(s1.heap.push (revObj a0 ((t1.toArray.size:Int) - 1))).objs.size=s1.heap.objs.size+1:=ir _ _;have hge:s1.heap.objs.size<=(s1.heap.push (revObj a0 ((t1.toArray.size:Int) - 1))).objs.size:=by rw [hsz];omega
      have fr:=I1.hok.fresh hge;refine ⟨.ref _,_,I1.laid (t':=tk) (o:=.lst xs.reverse) hk2 hge ⟨by rw [List.length_reverse];exact z1,acc.toList,c,by rw [dI hacc];exact Vals.reverse w1,by simpa using hS⟩,rfl,?_⟩;exact co.ev e1 _ _ _ (Ev.newL fr) (rs1.newL fr rd.reverse) (.ref (rs1.last _))
  ·cases q
 ·cases q
noncomputable def uQ:Fn:=λds mh=>match ds with
 | [.int i]=>some (.int (if i < 0 then -i else i),mh)
 | _=>none
theorem dJ:Ay X (.builtin "abs") (rDs X.K uQ):=by
 rintro pins s σ H xs us Q I r ⟨ρ,mh,ds,d,mh',q,rs,rd,co⟩;unfold uQ at q;split at q
 ·rename_i i;cases q;obtain ⟨v,rfl,rx⟩:=Ik rd;cases rx;obtain ⟨u,rfl,ru⟩:=vals1 r;obtain ⟨t,rfl⟩:=ru;exact call_abs_int λu tk=>⟨.int _,H,I.tok _,⟨_,rfl⟩,co H ρ _ Ev.refl rs (.int _)⟩
 ·cases q
end
theorem mF {X:Cx}:OpR X (binaryOp .FloorDiv) (rI (λ_ j=>j≠0/\j.natAbs < 10889035741470030830827987437816582766592) λi j=>.int (i.fdiv j)):=opI λ_ j _ _ _ _ _ hc q=>floordiv_int hc.1 q (.inl (PyProof.noPylong_of_log2 (by
 have h:j.natAbs < 2 ^ 133:=hc.2
 by_cases h0:j.natAbs=0
 ·rw [h0];decide +kernel
 ·have h60:j.natAbs.log2 < 133:=(Nat.log2_lt h0).mpr h
  omega)))
structure SC where
 N:List Str
 scope:Scope
 own:Str->Bool
structure Gb where
 cal:Str->Option (List Str×Fn)
 con:Str->Option D
 dic:Str->Option (List (Str×D))
 fld:Str->Str->Bool
 met:Str->Str->Option (List Str×Fn)
 mkr:Str->Option (List (Str×InF))
 clo:Xx:=λ_ _ _ _=>none
 mk0:Str->Option (List (Str×InF)):=λ_=>none
noncomputable def slot (N:List Str) (x:Str):Option Nat:=N.findIdx? (λy=>y==x)
noncomputable def mG (sc:Scope) (x:Str):Bool:=match sc.names.lookup x with
 | some .local=>true
 | some .cell=>true
 | some .free=>true
 | _=>false
noncomputable def dM (sc:Scope) (x:Str):Bool:=match sc.names.lookup x with
 | some .local=>true
 | some .cell=>true
 | _=>false
noncomputable def glB (sc:Scope) (x:Str):Bool:=match sc.names.lookup x with
 | some .globalImplicit=>true
 | _=>false
noncomputable def Vv (i j:Int):Bool:=decide (-(2 ^ 64) < i/\i < 2 ^ 64) || decide (-(2 ^ 64) < j/\j < 2 ^ 64)
theorem Aeg {X:Cx}{f:Value->Value->Sem Value}:OpR X f (rD X.K λ_ _ _=>none):=by
 rintro _ _ _ _ _ _ _ _ _ _ _ _ ⟨_,_,_,_,_,_,e,_⟩;cases e
noncomputable def Aeh:Operator->Option (D->D->MH->Option (D×MH))
 | .Add=>some Ij
 | .Sub=>some (iop (λ_ _=>true) λi j=>i - j)
 | .Mult=>some (Zz (Rn (iop Vv λi j=>i * j)))
 | .FloorDiv=>some (iop (λ_ j=>decide (j≠0)&&decide (j.natAbs < 10889035741470030830827987437816582766592)) λi j=>i.fdiv j)
 | .Mod=>some (iop (λ_ j=>decide (j≠0)) λi j=>i.fmod j)
 | .Pow=>some (iop (λi j=>decide (0<=j)&&(decide (j<=1000000)&&decide (i.natAbs < 2 ^ 64))) λi j=>i ^ j.toNat)
 | _=>none
noncomputable def Pj:CmpOp->(D->D->MH->Option (D×MH))
 | .Eq=>eqD
 | .NotEq=>neD
 | .Lt=>Qh λi j=>decide (i < j)
 | .LtE=>Qh λi j=>decide (i<=j)
 | .Gt=>Qh λi j=>decide (j < i)
 | .GtE=>Qh λi j=>decide (j<=i)
 | .Is=>isD false
 | .IsNot=>isD true
 | .In=>inD false
 | .NotIn=>λ_ _ _=>none
theorem uR {X:Cx}{op:Operator}{f:D->D->MH->Option (D×MH)}(h:Aeh op=some f):OpR X (binaryOp op) (rD X.K f):=by
 cases op <;> (try cases h)
 ·exact sX
 ·exact sU zR
 ·refine lA (lU (Oo zT λi j h=>?_));unfold Vv at h;rw [zp,decide_eq_true_iff,decide_eq_true_iff] at h;exact h
 ·exact Oo qZ λi j h=>of_decide_eq_true h
 ·refine Oo zU λi j h=>?_
  rw [aq,aq,decide_eq_true_iff,decide_eq_true_iff,decide_eq_true_iff] at h;exact ⟨h.1,h.2.1,h.2.2⟩
 ·refine Oo mF λi j h=>?_
  rw [aq,decide_eq_true_iff,decide_eq_true_iff] at h;exact ⟨h.1,h.2⟩
theorem G7 {X:Cx}(hu:X.A.units+64 < cLine) (op:CmpOp):OpR X (compareOp op) (rD X.K (Pj op)):=by
 cases op
 ·exact Abl hu
 ·exact Aat hu
 ·exact Nr Adm
 ·exact Nr Adn
 ·exact Nr Ado
 ·exact Nr Adp
 ·exact Aau
 ·exact bQ
 ·exact Abg hu
 ·exact Aeg
noncomputable def isStar:Expr->Bool
 | .Starred ..=>true
 | _=>false
noncomputable def isSet:Expr->Bool
 | .Set ..=>true
 | _=>false
noncomputable def Jh:Expr->Bool
 | .ListComp ..=>true
 | .SetComp ..=>true
 | .DictComp ..=>true
 | _=>false
noncomputable def isSlice:Expr->Bool
 | .Slice ..=>true
 | _=>false
noncomputable def baseOk:Expr->Bool
 | .Call (.Name ..) [] [] _=>false
 | _=>true
noncomputable def tyOf (c:Str):Option String :=
 if c == "int" then some "int" else if c == "bool" then some "bool" else if c == "str" then some "str" else if c == "tuple" then some "tuple" else if c == "list" then some "list" else if c == "dict" then some "dict" else none
noncomputable def uU:Fn:=λ_ _=>none
noncomputable def Vw (_:D) (_:List D) (_:MH):Option (D×MH):=none
theorem Tz {X:Cx}{f:Value}:Ay X f (rDs X.K uU):=by
 rintro _ _ _ _ _ _ _ _ _ ⟨_,_,_,_,_,e,_⟩;cases e
theorem Pk {X:Cx}{id:String}:MtR X id (rDM X.K Vw):=by
 rintro _ _ _ _ _ _ _ _ _ _ _ _ ⟨_,_,_,_,_,_,e,_⟩;cases e
noncomputable def mH (x:Str):Option Fn:=if x=="len" then some Gj else if x=="list" then some iY else if x=="tuple" then some Lf else if x=="all" then some bZ else if x=="any" then some uU else if x=="max" then some xW else if x=="min" then some xX else if x=="int" then some uU else if x=="sorted" then some Nv else if x=="sum" then some uU else if x=="abs" then some uQ else none
noncomputable def Lq (m:Str) (n:Nat):Option (String×(D->List D->MH->Option (D×MH))) :=
 if m == "append"&&n==1 then some ("list",Fx) else if m == "bit_length"&&n==0 then some ("int",Vw) else if m == "pop"&&n==1 then some ("list",Vw) else if m == "pop"&&n==0 then some ("list",Vw) else if m == "extend"&&n==1 then some ("list",Vw) else if m == "index"&&n==1 then some ("tuple",Vw) else none
noncomputable def Dz:Expr->Bool
 | .Tuple ..=>true
 | _=>false
noncomputable def setArg (_:Expr) (_:List Expr):Option Expr:=none
noncomputable def X5:Expr->List Expr->Option Expr
 | .Call (.Name g _) [b] [] _,[]=>if g == "range"&&!isStar b then some b else none
 | _,_=>none
noncomputable def X6:Expr->List Expr->Option Expr
 | .Call (.Name g _) [b] [] _,[]=>if g == "reversed"&&!isStar b then some b else none
 | _,_=>none
noncomputable def Abm:List (Option Expr)->List Expr->Option (Expr×Expr)
 | [some k],[v]=>some (k,v)
 | _,_=>none
theorem dO {ks:List (Option Expr)}{vs:List Expr}{k v:Expr}(h:Abm ks vs=some (k,v)):ks=[some k]/\vs=[v]:=by
 unfold Abm at h;split at h
 ·cases h;exact ⟨rfl,rfl⟩
 ·cases h
noncomputable def uV (_:Expr) (_:List Expr):Option (Expr×Expr):=none
noncomputable def Abn (_:Expr) (_:List Expr):Option (Expr×Expr):=none
noncomputable def Z3 (_:SC) (_:Expr) (_:CmpOp) (_:Expr):Option (Nat×Nat):=none
noncomputable def Dn (scope:Scope):List Str:=(scope.names.filter λp=>(match p.2 with | .local=>true | .cell=>true | .free=>true | _=>false)).map (·.1)
noncomputable def Pn (N:List Str) (scope:Scope):List (Option Nat):=(Dn scope).map λx=>match scope.names.lookup x with
 | some .free=>slot N x
 | _=>none
noncomputable def K4 (scope outer:Scope):Scope:={ scope with names:=scope.names.map λ(n,k)=>if (k==.free&&outer.kind==.function&&outer.names.lookup n==some .cell) then (n,.cell) else (n,k) }
noncomputable def T4 (scope:Scope) (sc:SC):SC:={ N:=Dn scope,scope:=K4 scope sc.scope,own:=λx=>dM scope x }
noncomputable def Nz (scope:Scope) (sc:SC):Bool :=
 (match scope.kind with | .function=>true | _=>false)&&(decide ((scope.names.map (·.1)).Nodup) &&
  scope.names.all λp=>(match p.2 with | .free=>(match sc.scope.names.lookup p.1 with | some .cell=>true | some .free=>true | _=>false) | _=>true))
noncomputable def M8 (G:Gb) (sc:SC):Expr->Option (List (Str×D))
 | .Name x _=>if glB sc.scope x&&!(x == "__debug__") then G.dic x else none
 | _=>none
noncomputable def Lr (G:Gb) (sc:SC) (op:CmpOp) (b:Expr):Option (Bool×List (Str×D)):=match op with
 | .In=>(match M8 G sc b with | some kvs=>some (false,kvs) | none=>none)
 | .NotIn=>(match M8 G sc b with | some kvs=>some (true,kvs) | none=>none)
 | _=>none
noncomputable def yD (G:Gb) (f:Str):List Expr->Option (List (Str×InF))
 | []=>G.mkr f
 | _=>none
noncomputable def iGn (sc:SC) (x:Str):Option Nat:=if dM sc.scope x&&sc.own x then slot sc.N x else none
noncomputable def iGs (sc:SC):List Expr->Option (List Nat)
 | []=>some []
 | .Name x _::r=>match iGn sc x with
  | some i=>match iGs sc r with
   | some is=>some (i::is)
   | none=>none
  | none=>none
 | _=>none
noncomputable def iG (sc:SC):Expr->Option (List Nat×GM)
 | .Name x _=>match iGn sc x with | some i=>some ([i],Bf i) | none=>none
 | .Tuple es _ _=>match iGs sc es with | some is=>some (is,Ot is) | none=>none
 | _=>none
noncomputable def Abo:Option Str->Bool
 | some n=>n == "default"
 | none=>false
noncomputable def uW:Expr->Bool
 | .Constant .none _ _=>true
 | _=>false
noncomputable def X7 (k:Keyword):Bool:=Abo k.arg&&uW k.value
theorem Vx {k:Keyword}(h:X7 k=true):∃ j cp kp,k=⟨some "default",.Constant .none j cp,kp⟩:=by
 obtain ⟨n,v,p⟩:=k;unfold X7 at h;rw [aq] at h;obtain ⟨h1,h2⟩:=h;cases n with
 | none=>cases h1
 | some n =>
  have e:n = "default":=bw h1
  subst e;cases v with
  | Constant c j cp =>
   cases c with
   | none=>exact ⟨_,_,_,rfl⟩
   | _=>cases h2
  | _=>cases h2
noncomputable def iEb (E:SC->Expr->DM D) (T:SC->Expr->DM Bool) (A:SC->List Expr->DM (List D)) (F:SC->List Expr->DM Bool) (I:SC->Expr->Expr->DM Src) (G:Gb) (sc:SC) (e:Expr):DM D:=match e with
 | .Constant (.int i) _ _=>Zr (.int i)
 | .Constant (.bool b) _ _=>Zr (.bl b)
 | .Constant .none _ _=>Zr .non
 | .Constant (.str x) _ _=>Zr (.str x)
 | .Name x _=>if mG sc.scope x&&!(x == "__debug__")&&!(x == "__classdict__") then (match slot sc.N x with
   | some i=>λloc mh=>match loc[i]? with | some (some d)=>some (d,mh) | _=>none
   | none=>Zb) else if glB sc.scope x&&!(x == "__debug__") then (match G.con x with | some d=>Zr d | none=>Zb) else Zb
 | .BinOp a op b _=>(match Aeh op with | some f=>dop f (E sc a) (E sc b) | none=>Zb)
 | .UnaryOp .USub a _=>(E sc a).bnd λx=>Zl (Aa2 x)
 | .UnaryOp .Not a _=>(Am (E sc a)).bnd λc=>Zr (.bl (!c))
 | .BoolOp op [a] _=>E sc a
 | .BoolOp .And (a::b::r) p=>Jp (E sc a) (E sc (.BoolOp .And (b::r) p))
 | .BoolOp .Or (a::b::r) p=>Xb (E sc a) (E sc (.BoolOp .Or (b::r) p))
 | .Compare a [op] [b] _=>(match Z3 sc a op b with
  | some (i,j)=>jP (λloc mh=>match loc[i]? with | some (some d)=>some (d,mh) | _=>none) (λloc mh=>match loc[j]? with | some (some d)=>some (d,mh) | _=>none)
  | none=>match Lr G sc op b with
   | some (neg,kvs)=>K3 neg kvs (E sc a)
   | none=>if isSet b then Zb else dop (Pj op) (E sc a) (E sc b))
 | .Compare a [op,op'] [b,c] _=>if isSet c then Zb else J1 (Pj op) (Pj op') (E sc a) (E sc b) (E sc c)
 | .IfExp c a b _=>dIf (T sc c) (E sc a) (E sc b)
 | .Tuple es _ _=>(A sc es).bnd λds=>Zl (Qx ds)
 | .List es _=>(A sc es).bnd λds=>Zl (Qy ds)
 | .Dict ks vs _=>if ks.isEmpty&&vs.isEmpty then newD else if xY ks vs&&!ks.isEmpty&&decide (ks.length<=15) then Zb else (match Abm ks vs with | some (k,v)=>Zb | none=>Zb)
 | .Subscript a (.Slice lo hi none _) _=>dSl (E sc a) (match lo with | some e=>some (E sc e) | none=>none) (match hi with | some e=>some (E sc e) | none=>none)
 | .Subscript a b _=>if isSlice b then Zb else (match M8 G sc a with | some kvs=>Zv kvs (E sc b) | none=>dop ixD (E sc a) (E sc b))
 | .Attribute o f _=>if baseOk o then Ca G.fld f (E sc o) else Zb
 | .Call (.Name f _) [] [] _=>if glB sc.scope f&&!(f == "__debug__") then (match G.cal f with | some ([],g)=>Zl (g []) | some _=>Zb | none=>match G.mk0 f with | some fl=>Tw f fl | none=>Zb) else Zb
 | .Call (.Name f _) (a::es) [] _=>if mG sc.scope f&&!(f == "__debug__")&&!(f == "__classdict__")&&!(isStar a)&&es.all (λe=>!isStar e) then (match slot sc.N f with | some i=>Rm G.cal G.clo i (A sc (a::es)) | none=>Zb) else if glB sc.scope f&&!(f == "__debug__")&&!(f == "__name__")&&!(isStar a)&&es.all (λe=>!isStar e) then
   (match G.cal f with
   | some (_,g)=>(A sc (a::es)).bnd λds=>Zl (g ds)
   | none=>match yD G f es with
    | some fl=>xZ f fl (E sc a)
    | none=>match setArg a es with
    | some b=>if glB sc.scope "set" then (if f == "len" then (E sc b).bnd (λx=>Zl (tX x)) else if f == "sorted" then (E sc b).bnd (λx=>Zl (cJ x)) else Zb) else Zb
    | none=>match Abn a es with
    | some (b,c)=>if glB sc.scope "zip"&&f == "list" then (A sc [b,c]).bnd (λds=>Zl (jX ds)) else if glB sc.scope "zip"&&f == "sorted" then (A sc [b,c]).bnd (λds=>Zl (jY ds)) else Zb
    | none=>match X5 a es with
    | some b=>if glB sc.scope "range" then (if f == "list" then (E sc b).bnd (λx=>Zl (Kz x)) else if f == "tuple" then (E sc b).bnd (λx=>Zl (Nt x)) else Zb) else Zb
    | none=>match uV a es with
    | some (b,c)=>if glB sc.scope "range"&&f == "list" then (A sc [b,c]).bnd (λds=>Zl (dG ds)) else Zb
    | none=>match X6 a es with
    | some b=>if glB sc.scope "reversed"&&f == "list" then (E sc b).bnd (λx=>Zl (Io x)) else Zb
    | none=>if f == "isinstance" then (match es with
    | [.Name c _]=>if glB sc.scope c&&!(c == "__debug__")&&!(c == "__name__") then (match tyOf c with | some ty=>(E sc a).bnd λx=>Zl (jF ty x) | none=>Zb) else Zb
    | _=>Zb) else match mH f with
     | some g=>(A sc (a::es)).bnd λds=>Zl (g ds)
     | none=>Zb) else Zb
 | .Call (.Name f _) [a] (kw::ks) _=>if glB sc.scope f&&!(isStar a)&&X7 kw&&ks.isEmpty then (if f == "max" then Zb else if f == "min" then Zb else Zb) else Zb
 | .Call (.Attribute o m ap) [] [] p=>if baseOk o&&(ap.endLine==p.line) then (match Lq m 0 with | some (ty,f)=>Du ty f (E sc o) (Zr []) | none=>Gi G.met m (E sc o) (Zr [])) else Zb
 | .Call (.Attribute o m ap) (a::es) [] p=>if baseOk o&&(ap.endLine==p.line)&&!(isStar a)&&es.all (λe=>!isStar e)&&decide ((a::es).length < 20) then (if m == "get" then (match M8 G sc o with | some kvs=>lK kvs (A sc (a::es)) | none=>Zb) else if m == "count"&&es.isEmpty then Jt "tuple" cO "list" M6 (E sc o) (A sc (a::es)) else if m == "index"&&es.isEmpty then Jt "tuple" Vw "list" Vw (E sc o) (A sc (a::es)) else (match Lq m (a::es).length with | some (ty,f)=>Du ty f (E sc o) (A sc (a::es)) | none=>Gi G.met m (E sc o) (A sc (a::es)))) else Zb
 | .ListComp elt [⟨tg,iter,ifs,k⟩] scope _=>if k==0&&Nz scope sc&&!(isSet iter) then (match iG (T4 scope sc) tg with
   | some (ws,g)=>if ws.all (λi=>match (Pn sc.N scope)[i]? with | some (some _)=>false | _=>true) then Dt (I sc tg iter) (Pn sc.N scope) g (F (T4 scope sc) ifs) (E (T4 scope sc) elt) else Zb
   | none=>Zb) else Zb
 | _=>Zb
noncomputable def iTb (E:SC->Expr->DM D) (T:SC->Expr->DM Bool) (A:SC->List Expr->DM (List D)) (F:SC->List Expr->DM Bool) (I:SC->Expr->Expr->DM Src) (G:Gb) (sc:SC) (e:Expr):DM Bool:=match e with
 | .UnaryOp .Not a _=>Gs (T sc a)
 | .BoolOp op [a] _=>T sc a
 | .BoolOp .And (a::b::r) p=>Mt (T sc a) (T sc (.BoolOp .And (b::r) p))
 | .BoolOp .Or (a::b::r) p=>Ni (T sc a) (T sc (.BoolOp .Or (b::r) p))
 | .BoolOp _ [] _=>Zb
 | .IfExp ..=>Zb
 | .Compare a [op] [b] _=>(match Lr G sc op b with
  | some (neg,kvs)=>Am (K3 neg kvs (E sc a))
  | none=>if isSet b then Zb else Am (dop (Pj op) (E sc a) (E sc b)))
 | .Compare a [op,op'] [b,c] _=>if isSet c then Zb else Am (J1 (Pj op) (Pj op') (E sc a) (E sc b) (E sc c))
 | .Compare ..=>Zb
 | e=>Hi (E sc e)
noncomputable def iIb (E:SC->Expr->DM D) (T:SC->Expr->DM Bool) (A:SC->List Expr->DM (List D)) (F:SC->List Expr->DM Bool) (I:SC->Expr->Expr->DM Src) (G:Gb) (sc:SC) (tg e:Expr):DM Src:=match e with
 | .Call (.Name f p) [a] [] p'=>if f == "range"&&glB sc.scope f then (if isStar a then Zb else tE iZ (A sc [a])) else if f == "enumerate"&&glB sc.scope f then (if isStar a || !(Dz tg) then Zb else Ky (E sc a)) else Gr (E sc (.Call (.Name f p) [a] [] p'))
 | .Call (.Name f p) [a,b] [] p'=>if f == "range"&&glB sc.scope f then (if isStar a || isStar b then Zb else Zb) else if f == "zip"&&glB sc.scope f then (if isStar a || isStar b || !(Dz tg) then Zb else Xk (A sc [a,b])) else Gr (E sc (.Call (.Name f p) [a,b] [] p'))
 | .Call (.Name f p) [a,b,c] [] p'=>if f == "range"&&glB sc.scope f then (if isStar a || isStar b || isStar c then Zb else Zb) else Gr (E sc (.Call (.Name f p) [a,b,c] [] p'))
 | .Call (.Attribute o m ap) [] [] p=>if m == "items"&&baseOk o&&(ap.endLine==p.line)&&Dz tg then Zb else Gr (E sc (.Call (.Attribute o m ap) [] [] p))
 | e=>Gr (E sc e)
mutual
noncomputable def iE (G:Gb):Nat->SC->Expr->DM D
 | 0,_,_=>Zb
 | n+1,sc,e=>iEb (iE G n) (iT G n) (iA G n) (iF G n) (iI G n) G sc e
termination_by structural n=>n
noncomputable def iT (G:Gb):Nat->SC->Expr->DM Bool
 | 0,_,_=>Zb
 | n+1,sc,e=>iTb (iE G n) (iT G n) (iA G n) (iF G n) (iI G n) G sc e
termination_by structural n=>n
noncomputable def iA (G:Gb):Nat->SC->List Expr->DM (List D)
 | 0,_,_=>Zb
 | n+1,sc,es=>match es with
  | []=>Zr []
  | a::r=>if isStar a then Zb else Aa (iE G n sc a) (iA G n sc r)
termination_by structural n=>n
noncomputable def iF (G:Gb):Nat->SC->List Expr->DM Bool
 | 0,_,_=>Zb
 | n+1,sc,es=>match es with
  | []=>Zr true
  | [c]=>iT G n sc c
  | _=>Zb
termination_by structural n=>n
noncomputable def iI (G:Gb):Nat->SC->Expr->Expr->DM Src
 | 0,_,_,_=>Zb
 | n+1,sc,tg,e=>iIb (iE G n) (iT G n) (iA G n) (iF G n) (iI G n) G sc tg e
termination_by structural n=>n
end
noncomputable def Aei (sc:SC) (x:Str) (px:Pos) (y:Str) (py:Pos) (a b:Expr):Bool :=
 ((if sc.scope.kind.isAnnotationScope then ScopeKind.function else sc.scope.kind)==.function)&&(sc.scope.names.lookup x==some .local)&&(sc.scope.names.lookup y==some .local)&&(py.line==px.line)&&!(x==y)&&!isStar a&&!isStar b&&!([a,b].all (foldedForSure 8))&&!([a,b].all (constantsAlone 8))
noncomputable def Abp (mr:DM (List D)) (i j:Nat):SM:=λloc mh=>match mr loc mh with
 | some ([d,e],h)=>some (.nx,(loc.set i (some d)).set j (some e),h)
 | _=>none
noncomputable def iGt (G:Gb) (n:Nat) (sc:SC) (tg:Expr):Option GM:=match tg with
 | .Subscript o i _=>if isSlice i then none else some (M7 (iE G n sc o) (iE G n sc i))
 | tg=>match iG sc tg with | some (_,g)=>some g | none=>none
noncomputable def Abq (n:Nat) (G:Gb) (sc:SC) (tg v:Expr):SM:=match tg,v with
 | .Name y py,.ListComp elt gens scope vp=>(match iG sc (.Name y py) with | some (_,g)=>Ba (iE G n sc (.ListComp elt gens scope vp)) g | none=>SM.bad)
 | .Tuple [.Name x px,.Name y py] _ _,.Tuple [a,b] _ _=>if Aei sc x px y py a b then (match slot sc.N x,slot sc.N y with | some i,some j=>Abp (iA G n sc [a,b]) i j | _,_=>SM.bad) else SM.bad
 | tg,v=>if Jh v || (Dz tg&&Dz v) then SM.bad else (match iGt G n sc tg with | some g=>Ba (iE G n sc v) g | none=>SM.bad)
noncomputable def iSb (n:Nat) (B:SC->List Stmt->SM) (G:Gb) (sc:SC) (s:Stmt):SM:=match s with
 | .Expr e _=>if Jh e then SM.bad else Hv (iE G n sc e)
 | .Pass _=>Zn
 | .Break _=>λloc mh=>some (.bk,loc,mh)
 | .Continue _=>λloc mh=>some (.ct,loc,mh)
 | .Return (some e) _=>retS (iE G n sc e)
 | .Return none _=>λloc mh=>some (.rt .non,loc,mh)
 | .Assign [tg] v _=>Abq n G sc tg v
 | .If c a b _=>ifS (iT G n sc c) (B sc a) (B sc b)
 | .While c body [] _=>Ou (iT G n sc c) (B sc body)
 | .For tg it body [] _=>if isSet it then SM.bad else (match iG sc tg with | some (_,g)=>Nk (iI G n sc tg it) g (B sc body) | none=>SM.bad)
 | _=>SM.bad
mutual
noncomputable def iS (G:Gb):Nat->SC->Stmt->SM
 | 0,_,_=>SM.bad
 | n+1,sc,s=>iSb n (iSs G n) G sc s
termination_by structural n=>n
noncomputable def iSs (G:Gb):Nat->SC->List Stmt->SM
 | 0,_,_=>SM.bad
 | n+1,sc,ss=>match ss with
  | []=>Zn
  | s::r=>Af (iS G n sc s) (iSs G n sc r)
termination_by structural n=>n
end
structure FnI where
 ps:List Str
 N:List Str
 scope:Scope
 body:List Stmt
noncomputable def Ai (G:Gb) (n:Nat) (f:FnI):Fn:=λds mh=>if ds.length=f.ps.length then (match iSs G n { N:=f.N,scope:=f.scope,own:=λ_=>true } f.body (ds.map some++au (f.N.length - ds.length) none) mh with
 | some (.rt d,_,mh')=>some (d,mh')
 | some (.nx,_,mh')=>some (.non,mh')
 | _=>none) else none
noncomputable def fuel:Nat:=60
structure MakI where
 pre:List Stmt
 i:Nat
 pl:Nat
 js:List Nat
 ci:CloI
 post:List Stmt
noncomputable def Ip (loc:Loc):List Nat->Option (List D)
 | []=>some []
 | j::r=>match loc[j]? with
  | some (some d)=>(match Ip loc r with | some ds=>some (d::ds) | none=>none)
  | _=>none
noncomputable def Abr (x:Str) (m:MakI):SM:=λloc mh=>match mh[m.pl]? with
 | some (.plq y)=>if y==x then (match Ip loc m.js with | some ds=>some (.nx,loc.set m.i (some (.clo m.ci ds)),mh) | none=>none) else none
 | _=>none
noncomputable def yE (G:Gb) (n:Nat) (x:Str) (f:FnI) (m:MakI):SM:=Af (iSs G n { N:=f.N,scope:=f.scope,own:=λ_=>true } m.pre) (Af (Abr x m) (iSs G n { N:=f.N,scope:=f.scope,own:=λy=>!(m.ci.fr.contains y) } m.post))
noncomputable def dR (G:Gb) (n:Nat) (x:Str) (f:FnI) (m:MakI):Fn:=λds mh=>if ds.length=f.ps.length then (match yE G n x f m (ds.map some++au (f.N.length - ds.length) none) mh with
 | some (.rt d,_,mh')=>some (d,mh')
 | some (.nx,_,mh')=>some (.non,mh')
 | _=>none) else none
noncomputable def Ir (G:Gb) (n:Nat):Xx:=λI fs ds mh=>if ds.length=I.ps.length then (match iSs G n { N:=I.N++I.fr,scope:=I.scope,own:=λy=>!(I.fr.contains y) } I.body (ds.map some++au (I.N.length - ds.length) none++fs.map some) mh with
 | some (.rt d,_,mh')=>some (d,mh')
 | some (.nx,_,mh')=>some (.non,mh')
 | _=>none) else none
structure MakL where
 pre:List Stmt
 y:Str
 pl:Nat
 js:List Nat
 ci:CloI
 g:Str
 a:Expr
 args:List Expr
 post:List Stmt
noncomputable def X8 (x:Str) (pl:Nat) (js:List Nat) (ci:CloI):DM D:=λloc mh=>match mh[pl]? with
 | some (.plq y)=>if y==x then (match Ip loc js with | some ds=>some (.clo ci ds,mh) | none=>none) else none
 | _=>none
noncomputable def mJ (E:Expr->DM D) (ml:DM D):List Expr->DM (List D)
 | []=>Aa ml (Zr [])
 | a::r=>Aa (E a) (mJ E ml r)
noncomputable def Abs (G:Gb) (n:Nat) (sc:SC) (x:Str) (m:MakL):SM:=match iGn sc m.y with
 | some i=>(match G.cal m.g with
  | some (_,gf)=>Ba ((mJ (iE G n sc) (X8 x m.pl m.js m.ci) (m.a::m.args)).bnd λds=>Zl (gf ds)) (Bf i)
  | none=>SM.bad)
 | none=>SM.bad
noncomputable def Vy (G:Gb) (n:Nat) (x:Str) (f:FnI) (m:MakL):SM:=Af (iSs G n { N:=f.N,scope:=f.scope,own:=λ_=>true } m.pre) (Af (Abs G n { N:=f.N,scope:=f.scope,own:=λy=>!(m.ci.fr.contains y) } x m) (iSs G n { N:=f.N,scope:=f.scope,own:=λy=>!(m.ci.fr.contains y) } m.post))
noncomputable def Pq (G:Gb) (n:Nat) (x:Str) (f:FnI) (m:MakL):Fn:=λds mh=>if ds.length=f.ps.length then (match Vy G n x f m (ds.map some++au (f.N.length - ds.length) none) mh with
 | some (.rt d,_,mh')=>some (d,mh')
 | some (.nx,_,mh')=>some (.non,mh')
 | _=>none) else none
structure Tb where
 tb:Str->Option FnI
 con:Str->Option D
 dic:Str->Option (List (Str×D))
 fld:Str->Str->Bool
 tbm:Str->Str->Option FnI
 mkr:Str->Option (List (Str×InF))
 lam:Str->Option Str:=λ_=>none
 mak:Str->Option MakI:=λ_=>none
 mal:Str->Option MakL:=λ_=>none
 mk0:Str->Option (List (Str×InF)):=λ_=>none
noncomputable def lamF (G:Gb) (y:Str):Fn:=λds mh=>match ds,mh[0]?,G.cal y with
 | [d],some MO.plc,some (_,g)=>g [d,d,D.lam] mh
 | _,_,_=>none
noncomputable def Vz (T:Tb) (G:Gb) (x:Str) (g:Fn):Fn:=match T.lam x with
 | some y=>lamF G y
 | none=>g
noncomputable def V0 (T:Tb) (G:Gb) (x:Str) (I:FnI) (g:Fn):Fn:=match T.mak x with
 | some m=>dR G fuel x I m
 | none=>g
noncomputable def V1 (T:Tb) (G:Gb) (x:Str) (I:FnI) (g:Fn):Fn:=match T.mal x with
 | some m=>Pq G fuel x I m
 | none=>g
noncomputable def GkN (T:Tb):Nat->Gb
 | 0=>{ cal:=λ_=>none,con:=T.con,dic:=T.dic,fld:=T.fld,met:=λ_ _=>none,mkr:=T.mkr,mk0:=T.mk0 }
 | k+1=>{ cal:=λx=>(match T.tb x with | some I=>some (I.ps,V1 T (GkN T k) x I (V0 T (GkN T k) x I (Vz T (GkN T k) x (Ai (GkN T k) fuel I)))) | none=>none),con:=T.con,dic:=T.dic,fld:=T.fld,met:=λc m=>(match T.tbm c m with | some I=>some (I.ps,Ai (GkN T k) fuel I) | none=>none),mkr:=T.mkr,clo:=Ir (GkN T k) fuel,mk0:=T.mk0 }
noncomputable def G8:List Str:=["len", "list", "tuple", "range", "isinstance", "int", "bool", "str", "dict", "set", "sorted", "all", "any", "max", "min", "enumerate", "zip", "sum", "abs", "reversed"]
structure GOk (P:Program) (w:World) (K:aj) (mg:Str->Option Value) (base:Heap) (k:Nat) (G:Gb):Prop where
 fn:∀ x ps f,G.cal x=some (ps,f)->∃ fa fd,mg x=some (.ref fa)/\iw K (.ref fa)=true/\Binds K fd ps []/\FnOk P w K mg base CX0 (k+2) fa fd ps (spD K ps.length f)/\∀ ds mh r,f ds mh=some r->ds.length=ps.length
 con:∀ x d,G.con x=some d->∃ u v,mg x=some u/\RelV v u/\∀ H ρ,RD K H ρ d v
 blt:∀ b∈G8,mg b=none
 dic:∀ x kvs,G.dic x=some kvs->∃ a,mg x=some (.ref a)/\DicOk w K a kvs
 fld:∀ c f,G.fld c f=true->∃ C,dg K mainGlobals c=some (some (.ref C))/\Cls K C/\Ck K C f
 met:∀ c m ps g,G.met c m=some (ps,g)->∃ C fa fd,dg K mainGlobals c=some (some (.ref C))/\Cls K C/\Meth K C m fa/\Binds K fd ps []/\FnOk P w K mg base CX0 (k+2) fa fd ps (spD K ps.length g)/\∀ ds mh r,g ds mh=some r->ds.length=ps.length
 mkr:∀ c f,G.mkr c=some f->∃ C fa fd ps,dg K mainGlobals c=some (some (.ref C))/\Mk K C fa/\mg c=some (.ref C)/\Binds K fd ps []/\FnOk P w K mg base CX0 1 fa fd ps (spN C f)
 clo:Vt P w K mg base (k+2) G.clo
 mk0:∀ c f,G.mk0 c=some f->∃ C fa fd ps,dg K mainGlobals c=some (some (.ref C))/\Mk K C fa/\mg c=some (.ref C)/\Binds K fd ps []/\FnOk P w K mg base CX0 1 fa fd ps (uP C f)
structure XOk (X:Cx) (k:Nat) (G:Gb) (sc:SC):Prop where
 N:X.N=sc.N
 nd:sc.N.Nodup
 sco:X.env.scope=sc.scope
 own:∀ x,sc.own x=true->L2.Loc sc.scope x->X.fn x=true\/sc.scope.names.lookup x=some .local
 calm:X.calm=true
 xe:X.xe=λ_ _=>False
 room:Room (k+2) X.A
 g:GOk X.prog X.w X.K X.mg X.base k G
theorem Ea {N:List Str}{x:Str}{i:Nat}(h:slot N x=some i):N[i]?=some x:=by
 unfold slot at h;obtain ⟨hl,hp,_⟩:=List.findIdx?_eq_some_iff_getElem.mp h;rw [gq hl];exact congrArg some (bw hp)
theorem uX {sc:Scope}{x:Str}(h:mG sc x=true):Vis sc x:=by
 unfold mG at h;split at h
 ·exact .inl (by assumption)
 ·exact .inr (.inl (by assumption))
 ·exact .inr (.inr (by assumption))
 ·cases h
theorem T5 {sc:Scope}{x:Str}(h:dM sc x=true):L2.Loc sc x:=by
 unfold dM at h;split at h
 ·exact .inl (by assumption)
 ·exact .inr (by assumption)
 ·cases h
theorem mK {sc:Scope}{x:Str}(h:glB sc x=true):sc.names.lookup x=some .globalImplicit:=by
 unfold glB at h;split at h
 ·assumption
 ·cases h
section
variable {X:Cx}{k:Nat}{G:Gb}{sc:SC}
theorem XOk.gl (O:XOk X k G sc) {x:Str}(h:glB sc.scope x=true):Gl X x:=by
 show X.env.scope.names.lookup x=_;rw [O.sco];exact mK h
theorem XOk.vis (O:XOk X k G sc) {x:Str}(h:mG sc.scope x=true):Vis X.env.scope x:=by rw [O.sco];exact uX h
theorem XOk.units (O:XOk X k G sc):X.A.units+64 < cLine:=O.room.units
theorem Bb {a:Expr}{es:List Expr}{env:Env}(h:isStar a=false):starEach (a::es) env=(false,eval a env)::starEach es env:=by
 cases a <;> first | rfl | cases h
theorem Aw {pos:Pos}{env:Env}:∀ {es:List Expr},(es.all λe=>!isStar e)=true->(backTo pos (starEach es env)).any (·.1)=false
 | [],_=>rfl
 | a::r,h=>by
  rw [xr,aq] at h;have h1:isStar a=false:=by simpa using h.1
  rw [Bb h1];show (false || (backTo pos (starEach r env)).any (·.1))=false;rw [Aw h.2];rfl
theorem T6 {pos:Pos}{env:Env}:∀ {es:List Expr},(es.all λe=>!isStar e)=true->(backTo pos (starEach es env)).all (λx=>!x.1)=true
 | [],_=>rfl
 | a::r,h=>by
  rw [xr,aq] at h;have h1:isStar a=false:=by simpa using h.1
  rw [Bb h1];show (true&&(backTo pos (starEach r env)).all (λx=>!x.1))=true;rw [T6 h.2];rfl
theorem Cd {o:Expr}{name:Str}{env:Env}{w:Sem Value}(h:baseOk o=true):attributeBase o name env w=w:=by
 cases o <;> try rfl
 rename_i f as kw p;cases f <;> try rfl
 cases as <;> try rfl
 cases kw <;> try rfl
 cases h
theorem Yb {e:Expr}{env:Env}(h:isSet e=false):∀ x,foldedSetIterable e env x=pure x:=by
 intro x;cases e <;> first | rfl | cases h
theorem K5 {op:CmpOp}{e:Expr}(h:isSet e=false):behindInMarks op e=false:=by
 cases e <;> first | rfl | cases h
theorem yF {b:Expr}(h:isSlice b=false):Nm b:=by
 intro o i;cases b <;> first | rfl | cases h
theorem Pu (O:XOk X k G sc) (scope:Scope):relabel scope X.env=K4 scope sc.scope:=by
 unfold relabel K4 Env.kindOf;rw [O.sco]
theorem Ls (O:XOk X k G sc) {scope:Scope}(h:Nz scope sc=true):CompOk X scope:=by
 unfold Nz at h;rw [aq,aq] at h;obtain ⟨h1,h2,h3⟩:=h;refine ⟨?_,of_decide_eq_true h2,λp hp e=>?_⟩
 ·split at h1
  ·assumption
  ·cases h1
 ·have:=DK.mp h3 p hp;rw [e] at this;show X.env.scope.names.lookup p.1=_\/X.env.scope.names.lookup p.1=_;rw [O.sco];dsimp only at this;split at this
  ·exact .inl (by assumption)
  ·exact .inr (by assumption)
  ·cases this
theorem T7 {scope:Scope}(h:(scope.names.map (·.1)).Nodup):(Dn scope).Nodup:=by
 unfold Dn;exact h.sublist ((List.filter_sublist).map _)
theorem V2 (O:XOk X k G sc) (scope:Scope):CapOk X (Dn scope) scope (Pn sc.N scope):=by
 refine ⟨by unfold Pn;rw [fu],λi x j e1 e2=>?_⟩;unfold Pn at e2;rw [gb,e1] at e2;simp only [ou,JC] at e2;split at e2
 ·rename_i hl;exact ⟨hl,by rw [O.N];exact Ea e2⟩
 ·cases e2
theorem XOk.comp (O:XOk X k G sc) {scope:Scope}(h:Nz scope sc=true) (pins:List (Addr×Obj)) (C:Addr) (cells:List (Str×Addr)) (s₀:Shared) (H₀:Hp) (fp:List Addr) :
  XOk (Br X pins (Dn scope) scope C cells s₀ H₀ fp) k G (T4 scope sc):=by
 have S:=Ls O h;refine ⟨rfl,T7 S.nd,Pu O scope,λx hx hl=>?_,O.calm,rfl,O.room,O.g⟩;have hx:dM scope x=true:=hx;rcases T5 hx with q|q
 ·right;show (K4 scope sc.scope).names.lookup x=_;rw [← Pu O scope,Gg,q];rfl
 ·left;exact decide_eq_true (gm q)
theorem V3 {x:Str}{i:Nat}(h:iGn sc x=some i):dM sc.scope x=true/\sc.own x=true/\slot sc.N x=some i:=by
 unfold iGn at h;split at h
 ·rename_i hc;rw [aq] at hc;exact ⟨hc.1,hc.2,h⟩
 ·cases h
theorem XOk.name (O:XOk X k G sc) {x:Str}{i:Nat}{pos:Pos}(h:iGn sc x=some i):PG X (.Name x pos) (fU i):=by
 obtain ⟨h1,h2,h3⟩:=V3 h;have hl:=T5 h1;refine Y0 (by rw [O.N];exact O.nd) (by rw [O.N];exact Ea h3) (by rw [O.sco];exact hl) ?_;rw [O.sco];exact O.own x h2 hl
theorem XOk.names (O:XOk X k G sc) {es:List Expr}{is:List Nat}(h:iGs sc es=some is):PGs X es (gNs is)/\(assignEach es X.env).length=is.length/\(assignEach es X.env).findIdx? (·.1)=none:=by
 induction es generalizing is with
 | nil=>cases h;exact ⟨qX,rfl,rfl⟩
 | cons e r ih =>
  cases e with
  | Name x p =>
   simp only [iGs] at h;split at h
   ·rename_i i ei;split at h
    ·rename_i js ej;cases h;obtain ⟨h1,h2,h3⟩:=ih ej;refine ⟨fV (O.name ei) h1 rfl,?_,?_⟩
     ·show (assignEach r X.env).length+1=js.length+1;rw [h2]
     ·show List.findIdx? (λx=>x.1) ((false,assign (.Name x p) X.env)::assignEach r X.env)=none;rw [List.findIdx?_cons];simp only [uh,if_false,h3];rfl
    ·cases h
   ·cases h
  | _=>cases h
theorem XOk.target (O:XOk X k G sc) {tg:Expr}{ws:List Nat}{g:GM}(h:iG sc tg=some (ws,g)):DG X tg ws g:=by
 cases tg with
 | Name x p =>
  simp only [iG] at h;split at h
  ·rename_i i ei;cases h;obtain ⟨h1,h2,h3⟩:=V3 ei;have hl:=T5 h1;refine tM (by rw [O.N];exact O.nd) (by rw [O.N];exact Ea h3) (by rw [O.sco];exact hl) ?_;rw [O.sco];exact O.own x h2 hl
  ·cases h
 | Tuple es kk p =>
  simp only [iG] at h;split at h
  ·rename_i is ei;cases h;obtain ⟨h1,h2,h3⟩:=O.names ei;exact Aax O.calm h1 h2 h3
  ·cases h
 | _=>cases h
end
structure SndE (G:Gb) (n:Nat):Prop where
 e:∀ {X:Cx} {k:Nat} {sc:SC},XOk X k G sc->∀ e,DE X e (iE G n sc e)
 t:∀ {X:Cx} {k:Nat} {sc:SC},XOk X k G sc->∀ e,DT X e (iT G n sc e)
 a:∀ {X:Cx} {k:Nat} {sc:SC},XOk X k G sc->∀ es,DA X es (iA G n sc es)
 f:∀ {X:Cx} {k:Nat} {sc:SC},XOk X k G sc->∀ es,DIf X es (iF G n sc es)
 i:∀ {X:Cx} {k:Nat} {sc:SC},XOk X k G sc->∀ tg e,DI X tg e (iI G n sc tg e)
theorem Z4 {X:Cx}{es:List Expr}:DIf X es Zb:=λpins s σ H Q I ⟨loc,mh,ρ,b,mh',q,_⟩=>by cases q
theorem Ho {X:Cx}{tg e:Expr}:DI X tg e Zb:=λloc mh=>Cu
theorem uY {c:Str}{T:String}(h:tyOf c=some T):T∈["bool", "int", "str", "tuple", "list", "dict"]/\bootBuiltins c=some (.type T)/\c∈G8:=by
 unfold tyOf at h;split at h
 ·rename_i e;cases h;rw [bw e];exact ⟨by decide,boot_int,by decide +kernel⟩
 ·split at h
  ·rename_i e;cases h;rw [bw e];exact ⟨by decide,boot_bool,by decide +kernel⟩
  ·split at h
   ·rename_i e;cases h;rw [bw e];exact ⟨by decide,boot_str,by decide +kernel⟩
   ·split at h
    ·rename_i e;cases h;rw [bw e];exact ⟨by decide,by decide +kernel,by decide +kernel⟩
    ·split at h
     ·rename_i e;cases h;rw [bw e];exact ⟨by decide,by decide +kernel,by decide +kernel⟩
     ·split at h
      ·rename_i e;cases h;rw [bw e];exact ⟨by decide,by decide +kernel,by decide +kernel⟩
      ·cases h
theorem Hq {X:Cx}{k:Nat}{G:Gb}{sc:SC}(O:XOk X k G sc) {e:Expr}{kvs:List (Str×D)}(h:M8 G sc e=some kvs):∃ x p a,e=.Name x p/\Gl X x/\(x==("__debug__":Str))=false/\X.mg x=some (.ref a)/\DicOk X.w X.K a kvs:=by
 cases e with
 | Name x p =>
  simp only [M8] at h;split at h
  ·rename_i hc;rw [aq] at hc;obtain ⟨a,h1,h2⟩:=O.g.dic _ _ h;exact ⟨x,p,a,rfl,O.gl hc.1,by simpa using hc.2,h1,h2⟩
  ·cases h
 | _=>cases h
theorem M9 {G:Gb}{sc:SC}{op:CmpOp}{b:Expr}{neg:Bool}{kvs:List (Str×D)}(h:Lr G sc op b=some (neg,kvs)):M8 G sc b=some kvs/\((op=.In/\neg=false)\/(op=.NotIn/\neg=true)):=by
 cases op <;> first | cases h;done | skip
 all_goals
  simp only [Lr] at h;split at h
  ·rename_i q;cases h;exact ⟨q,by simp⟩
  ·cases h
theorem mL {X:Cx}{k:Nat}{G:Gb}{sc:SC}(O:XOk X k G sc) {op:CmpOp}{a b:Expr}{neg:Bool}{kvs:List (Str×D)}{ma:DM D}{p:Pos}(h:Lr G sc op b=some (neg,kvs)) (ha:DE X a ma):DE X (.Compare a [op] [b] p) (K3 neg kvs ma):=by
 obtain ⟨h0,h1⟩:=M9 h;obtain ⟨x,p',ad,rfl,g1,g2,g3,g4⟩:=Hq O h0;rcases h1 with ⟨rfl,rfl⟩|⟨rfl,rfl⟩
 ·exact jZ g4 g1 g3 g2 ha
 ·exact Vm g4 g1 g3 g2 ha
theorem mO {X:Cx}{k:Nat}{G:Gb}{sc:SC}(O:XOk X k G sc) {op:CmpOp}{a b:Expr}{neg:Bool}{kvs:List (Str×D)}{ma:DM D}{p:Pos}(h:Lr G sc op b=some (neg,kvs)) (ha:DE X a ma):DT X (.Compare a [op] [b] p) (Am (K3 neg kvs ma)):=by
 obtain ⟨h0,h1⟩:=M9 h;obtain ⟨x,p',ad,rfl,g1,g2,g3,g4⟩:=Hq O h0;rcases h1 with ⟨rfl,rfl⟩|⟨rfl,rfl⟩
 ·exact kE g4 g1 g3 g2 ha
 ·exact Vn g4 g1 g3 g2 ha
theorem Yc {G:Gb}{f:Str}{fl:List (Str×InF)}{es:List Expr}(h:yD G f es=some fl):es=[]/\G.mkr f=some fl:=by
 cases es with
 | nil=>exact ⟨rfl,h⟩
 | cons a r=>cases h
theorem Lx {X:Cx}{a:Expr}{es:List Expr}{p:Pos}(hs:isStar a=false) (hr:(es.all λe=>!isStar e)=true) (hk:(a::es).length < 20):((backTo p (starEach (a::es) X.env)).all (λx=>!x.1)&&(backToKw p (keywordEach [] X.env)).all (λx=>x.1.isSome)&&decide ((a::es).length+([]:List Keyword).length+(if ([]:List Keyword).isEmpty then 0 else 1) < 30))=true:=by
 rw [T6 (by rw [xr,hs,hr];rfl)];have:decide ((a::es).length+([]:List Keyword).length+(if ([]:List Keyword).isEmpty then 0 else 1) < 30)=true:=decide_eq_true (by simp;simp at hk;omega);rw [this];rfl
theorem mQ {X:Cx}{k:Nat}{G:Gb}{sc:SC}(O:XOk X k G sc) {f:Str}{g:Fn}{p pos:Pos}{a:Expr}{es:List Expr}{mr:DM (List D)}(h:mH f=some g) (hg:glB sc.scope f=true) (ha:DA X (a::es) mr) (hn:f ≠ "__name__") (hd:(f==("__debug__":Str))=false) (hs:isStar a=false) (hr:(es.all λe=>!isStar e)=true) :
  DE X (.Call (.Name f p) (a::es) [] pos) (mr.bnd λds=>Zl (g ds)):=by
 unfold mH at h;split at h
 ·rename_i e;cases h;rw [bw e] at hg hn hd ⊢;exact Em dF (O.gl hg) (O.g.blt _ (by decide +kernel)) PySem.boot_len ha hn hd (Bb hs) (Aw hr)
 ·split at h
  ·rename_i e;cases h;rw [bw e] at hg hn hd ⊢;exact Ld Xc (O.gl hg) (O.g.blt _ (by decide +kernel)) (by decide +kernel) ha hn hd (Bb hs) (Aw hr)
  ·split at h
   ·rename_i e;cases h;rw [bw e] at hg hn hd ⊢;exact Ld U6 (O.gl hg) (O.g.blt _ (by decide +kernel)) (by decide +kernel) ha hn hd (Bb hs) (Aw hr)
   ·split at h
    ·rename_i e;cases h;rw [bw e] at hg hn hd ⊢;exact Em (cA O.calm) (O.gl hg) (O.g.blt _ (by decide +kernel)) (by decide +kernel) ha hn hd (Bb hs) (Aw hr)
    ·split at h
     ·rename_i e;cases h;rw [bw e] at hg hn hd ⊢;exact Em (Tz (f:=.builtin "any")) (O.gl hg) (O.g.blt _ (by decide +kernel)) (by decide +kernel) ha hn hd (Bb hs) (Aw hr)
     ·split at h
      ·rename_i e;cases h;rw [bw e] at hg hn hd ⊢;exact Em (Xm O.calm) (O.gl hg) (O.g.blt _ (by decide +kernel)) (by decide +kernel) ha hn hd (Bb hs) (Aw hr)
      ·split at h
       ·rename_i e;cases h;rw [bw e] at hg hn hd ⊢;exact Em (Xn O.calm) (O.gl hg) (O.g.blt _ (by decide +kernel)) (by decide +kernel) ha hn hd (Bb hs) (Aw hr)
       ·split at h
        ·rename_i e;cases h;rw [bw e] at hg hn hd ⊢;exact Ld (Tz (f:=.type "int")) (O.gl hg) (O.g.blt _ (by decide +kernel)) (by decide +kernel) ha hn hd (Bb hs) (Aw hr)
        ·split at h
         ·rename_i e;cases h;rw [bw e] at hg hn hd ⊢;exact Em Tf (O.gl hg) (O.g.blt _ (by decide +kernel)) (by decide +kernel) ha hn hd (Bb hs) (Aw hr)
         ·split at h
          ·rename_i e;cases h;rw [bw e] at hg hn hd ⊢;exact Em (Tz (f:=.builtin "sum")) (O.gl hg) (O.g.blt _ (by decide +kernel)) (by decide +kernel) ha hn hd (Bb hs) (Aw hr)
          ·split at h
           ·rename_i e;cases h;rw [bw e] at hg hn hd ⊢;exact Em dJ (O.gl hg) (O.g.blt _ (by decide +kernel)) (by decide +kernel) ha hn hd (Bb hs) (Aw hr)
           ·cases h
theorem Yd {X:Cx}{m:Str}{T:String}{f:D->List D->MH->Option (D×MH)}{o:Expr}{mo:DM D}{ap p:Pos}(h:Lq m 0=some (T,f)) (ho:DE X o mo) (hb:baseOk o=true) (hl:(ap.endLine==p.line)=true):DE X (.Call (.Attribute o m ap) [] [] p) (Du T f mo (Zr [])):=by
 unfold Lq at h;split at h
 ·rename_i e;rw [aq] at e;exact absurd e.2 (by decide)
 ·split at h
  ·rename_i e;rw [aq] at e;cases h;rw [bw e.1];exact jL PySem.F.plainAttrs_int PySem.F.slot_int_bit_length PySem.F.type_int_bit_length Pk ho (Cd hb) hl
  ·split at h
   ·rename_i e;rw [aq] at e;exact absurd e.2 (by decide)
   ·split at h
    ·rename_i e;rw [aq] at e;cases h;rw [bw e.1];exact jL qj QB QC Pk ho (Cd hb) hl
    ·split at h
     ·rename_i e;rw [aq] at e;exact absurd e.2 (by decide)
     ·split at h
      ·rename_i e;rw [aq] at e;exact absurd e.2 (by decide)
      ·cases h
theorem dU {X:Cx}{m:Str}{T:String}{f:D->List D->MH->Option (D×MH)}{o a:Expr}{es:List Expr}{mo:DM D}{mr:DM (List D)}{ap p:Pos}(h:Lq m (a::es).length=some (T,f)) (ho:DE X o mo) (ha:DA X (a::es) mr) (hb:baseOk o=true) (hl:(ap.endLine==p.line)=true) (hs:isStar a=false) (hr:(es.all λe=>!isStar e)=true) (hk:(a::es).length < 20) :
  DE X (.Call (.Attribute o m ap) (a::es) [] p) (Du T f mo mr):=by
 have few:((backTo p (starEach (a::es) X.env)).all (λx=>!x.1)&&(backToKw p (keywordEach [] X.env)).all (λx=>x.1.isSome)&&decide ((a::es).length+([]:List Keyword).length+(if ([]:List Keyword).isEmpty then 0 else 1) < 30))=true:=by
  rw [T6 (by rw [xr,hs,hr];rfl)];have:decide ((a::es).length+([]:List Keyword).length+(if ([]:List Keyword).isEmpty then 0 else 1) < 30)=true:=decide_eq_true (by simp;simp at hk;omega);rw [this];rfl
 unfold Lq at h;split at h
 ·rename_i e;rw [aq] at e;cases h;rw [bw e.1];exact Mw qj PySem.F.slot_list_append PySem.F.type_list_append Xg ho ha (Cd hb) few hl (Bb hs) (Aw hr)
 ·split at h
  ·rename_i e;rw [aq] at e;exact absurd (bw e.2) (by simp)
  ·split at h
   ·rename_i e;rw [aq] at e;cases h;rw [bw e.1];exact Mw qj QB QC Pk ho ha (Cd hb) few hl (Bb hs) (Aw hr)
   ·split at h
    ·rename_i e;rw [aq] at e;exact absurd (bw e.2) (by simp)
    ·split at h
     ·rename_i e;rw [aq] at e;cases h;rw [bw e.1];exact Mw qj PySem.F.slot_list_extend PySem.F.type_list_extend Pk ho ha (Cd hb) few hl (Bb hs) (Aw hr)
     ·split at h
      ·rename_i e;rw [aq] at e;cases h;rw [bw e.1];exact Mw BP KQ KR Pk ho ha (Cd hb) few hl (Bb hs) (Aw hr)
      ·cases h
theorem V4 {a:Expr}{es:List Expr}{b:Expr}(h:X5 a es=some b):es=[]/\isStar b=false/\∃ p q,a=.Call (.Name "range" p) [b] [] q:=by
 unfold X5 at h;split at h
 ·rename_i g p b' q;split at h
  ·rename_i hc;rw [aq] at hc;cases h;exact ⟨rfl,by simpa using hc.2,p,q,by rw [bw hc.1]⟩
  ·cases h
 ·cases h
theorem V5 {a:Expr}{es:List Expr}{b:Expr}(h:X6 a es=some b):es=[]/\isStar b=false/\∃ p q,a=.Call (.Name "reversed" p) [b] [] q:=by
 unfold X6 at h;split at h
 ·rename_i g p b' q;split at h
  ·rename_i hc;rw [aq] at hc;cases h;exact ⟨rfl,by simpa using hc.2,p,q,by rw [bw hc.1]⟩
  ·cases h
 ·cases h
theorem Ye {X:Cx}{k:Nat}{G:Gb}{sc:SC}(O:XOk X k G sc) {a b:Expr}{op:CmpOp}{i j:Nat}{pos:Pos}(h:Z3 sc a op b=some (i,j)) :
  DE X (.Compare a [op] [b] pos) (jP (λloc mh=>match loc[i]? with | some (some d)=>some (d,mh) | _=>none) (λloc mh=>match loc[j]? with | some (some d)=>some (d,mh) | _=>none)):=by cases h
theorem mR (G:Gb):SndE G 0:=⟨λ_ _=>Ak,λ_ _=>Eo,λ_ _=>iJ,λ_ _=>Z4,λ_ _ _=>Ho⟩
theorem Aej {G:Gb}{n:Nat}(S:SndE G n) {X:Cx}{k:Nat}{sc:SC}(O:XOk X k G sc) (es:List Expr):DA X es (iA G (n+1) sc es):=by
 cases es with
 | nil=>exact Ss
 | cons a r =>
  show DA X (a::r) (if isStar a then Zb else Aa (iE G n sc a) (iA G n sc r));split
  ·exact iJ
  ·rename_i h;exact Hj (S.e O a) (S.a O r) (Bb (by simpa using h))
theorem Aek {G:Gb}{n:Nat}(S:SndE G n) {X:Cx}{k:Nat}{sc:SC}(O:XOk X k G sc) (es:List Expr):DIf X es (iF G (n+1) sc es):=by
 cases es with
 | nil=>exact tQ
 | cons a r =>
  cases r with
  | nil=>exact tR (S.t O a)
  | cons b r=>exact Z4
theorem Ael {G:Gb}{n:Nat}(S:SndE G n) {X:Cx}{k:Nat}{sc:SC}(O:XOk X k G sc) (tg e:Expr):DI X tg e (iIb (iE G n) (iT G n) (iA G n) (iF G n) (iI G n) G sc tg e):=by
 cases e with
 | Call ff args kws p' =>
  cases ff with
  | Name f p =>
   cases args with
   | nil=>exact Dy (S.e O _)
   | cons a r =>
    cases r with
    | nil =>
     cases kws with
     | nil =>
      delta iIb
      dsimp only;split
      ·rename_i h;rw [aq] at h;split
       ·exact Ho
       ·rename_i hs;have hs:isStar a=false:=by simpa using hs
        have e:=bw h.1;subst e;exact bW (O.gl h.2) (O.g.blt _ (by decide +kernel)) (S.a O [a]) (Bb hs)
      ·split
       ·rename_i h;rw [aq] at h;split
        ·exact Ho
        ·rename_i hs;have hs:isStar a=false/\Dz tg=true:=by simpa using hs
         have e:=bw h.1;subst e;cases tg with
         | Tuple es kk tp=>exact tY O.calm (O.gl h.2) (O.g.blt _ (by decide +kernel)) (S.e O a) (Bb hs.1)
         | _=>cases hs.2
       ·exact Dy (S.e O _)
     | cons _ _=>exact Dy (S.e O _)
    | cons b r =>
     cases r with
     | nil =>
      cases kws with
      | nil =>
       delta iIb
       dsimp only;split
       ·rename_i h;rw [aq] at h;split
        ·exact Ho
        ·rename_i hs;have hs:isStar a=false/\isStar b=false:=by simpa using hs
         have e:=bw h.1;subst e;exact Ho
       ·split
        ·rename_i h;rw [aq] at h;split
         ·exact Ho
         ·rename_i hs;have hs:(isStar a=false/\isStar b=false)/\Dz tg=true:=by simpa using hs
          have e:=bw h.1;subst e;cases tg with
          | Tuple elts kk tp=>exact Aa7 (O.gl h.2) (O.g.blt _ (by decide +kernel)) (S.a O [a,b]) (Bb hs.1.1) (Aw (by simp [hs.1.2]))
          | _=>cases hs.2
        ·exact Dy (S.e O _)
      | cons _ _=>exact Dy (S.e O _)
     | cons c r =>
      cases r with
      | cons _ _=>exact Dy (S.e O _)
      | nil =>
       cases kws with
       | cons _ _=>exact Dy (S.e O _)
       | nil =>
        delta iIb
        dsimp only;split
        ·rename_i h;rw [aq] at h;split
         ·exact Ho
         ·rename_i hs;have hs:(isStar a=false/\isStar b=false)/\isStar c=false:=by simpa using hs
          have e:=bw h.1;subst e;exact Ho
        ·exact Dy (S.e O _)
  | Attribute o m ap =>
   cases args with
   | cons _ _=>exact Dy (S.e O _)
   | nil =>
    cases kws with
    | cons _ _=>exact Dy (S.e O _)
    | nil =>
     delta iIb
     dsimp only;split
     ·rename_i h;simp only [aq] at h;obtain ⟨⟨⟨h1,h2⟩,h3⟩,h4⟩:=h;have e:=bw h1;subst e;cases tg with
      | Tuple es kk tp=>exact Ho
      | _=>cases h4
     ·exact Dy (S.e O _)
  | _=>exact Dy (S.e O _)
 | _=>exact Dy (S.e O _)
theorem yG {X:Cx}{op:BoolOp}{vs:List Expr}{p:Pos}{m:DM Bool}(h:DT X (.BoolOp op vs p) m):DW X (.BoolOp op vs p) m:=λloc mh wh pins s σ H Q I q=>h loc mh pins s σ H Q I q
theorem Aem {G:Gb}{n:Nat}(S:SndE G n) {X:Cx}{k:Nat}{sc:SC}(O:XOk X k G sc) (e:Expr):DT X e (iTb (iE G n) (iT G n) (iA G n) (iF G n) (iI G n) G sc e):=by
 cases e with
 | UnaryOp op a p =>
  cases op with
  | Not=>exact Aan (S.t O _)
  | _=>exact U4 (S.e O _) λ_=>rfl
 | BoolOp op vs p =>
  cases vs with
  | nil=>cases op <;> exact Eo
  | cons a r =>
   cases r with
   | nil =>
    cases op
    ·exact (sO (S.t O a)).dt
    ·exact (Aal (S.t O a)).dt
   | cons b r =>
    cases op
    ·exact (Aam (S.t O _) (yG (S.t O _))).dt
    ·exact (Ad3 (S.t O _) (yG (S.t O _))).dt
 | IfExp c a b p=>exact Eo
 | Compare a ops cs p =>
  cases ops with
  | nil=>exact Eo
  | cons op ops =>
   cases ops with
   | nil =>
    cases cs with
    | nil=>exact Eo
    | cons b cs =>
     cases cs with
     | cons _ _=>exact Eo
     | nil =>
      delta iTb
      dsimp only;split
      ·rename_i neg kvs hd;exact mO O hd (S.e O _)
      ·split
       ·exact Eo
       ·rename_i h;exact Aak (G7 O.units _) (K5 (by simpa using h)) (S.e O _) (S.e O _)
   | cons op' ops =>
    cases ops with
    | cons _ _=>exact Eo
    | nil =>
     cases cs with
     | nil=>exact Eo
     | cons b cs =>
      cases cs with
      | nil=>exact Eo
      | cons c cs =>
       cases cs with
       | cons _ _=>exact Eo
       | nil =>
        delta iTb
        dsimp only;split
        ·exact Eo
        ·rename_i h;exact jJ (G7 O.units _) (G7 O.units _) (by show behindInMarks _ _=false;exact K5 (by simpa using h)) (S.e O _) (S.e O _) (S.e O _)
 | _=>exact U4 (S.e O _) λ_=>rfl
theorem Aen {G:Gb}{n:Nat}(S:SndE G n) {X:Cx}{k:Nat}{sc:SC}(O:XOk X k G sc) (e:Expr):DE X e (iEb (iE G n) (iT G n) (iA G n) (iF G n) (iI G n) G sc e):=by
 cases e with
 | Constant c _ _ =>
  cases c with
  | int i=>exact sI yP λ_ _ _=>.int _
  | bool b=>exact sI Ac5 λ_ _ _=>.bl _
  | none=>exact sI yQ λ_ _ _=>.non
  | str x=>exact sI yR λ_ _ _=>.str _
  | _=>exact Ak
 | Name x p =>
  delta iEb
  dsimp only;split
  ·rename_i h;rw [aq,aq] at h;obtain ⟨⟨h1,h2⟩,h3⟩:=h;split
   ·rename_i i ei;exact iK (by rw [O.N];exact Ea ei) (O.vis h1) (by simpa using h2) (by simpa using h3)
   ·exact Ak
  ·split
   ·rename_i h;rw [aq] at h;split
    ·rename_i d ed;obtain ⟨u,v,h1,h2,h3⟩:=O.g.con _ _ ed;exact λloc mh=>Ar (Hg (O.gl h.1) h1 h2 (by simpa using h.2)) λσ H Q ⟨ρ,d',mh',q,rl,rs,co⟩=>by
      cases q;exact co H ρ v Ev.refl rs (h3 H ρ)
    ·exact Ak
   ·exact Ak
 | BinOp a op b _ =>
  delta iEb
  dsimp only;split
  ·rename_i f ef;exact Ad0 (uR ef) (S.e O _) (S.e O _)
  ·exact Ak
 | UnaryOp op a _ =>
  cases op with
  | USub=>exact Ad2 tW (S.e O _)
  | Not=>exact Aaq (S.e O _)
  | _=>exact Ak
 | BoolOp op vs _ =>
  cases vs with
  | nil=>cases op <;> exact Ak
  | cons a r =>
   cases r with
   | nil=>cases op <;> exact Aao (S.e O _)
   | cons b r =>
    cases op
    ·exact Aap (S.e O _) (S.e O _)
    ·exact Ad5 (S.e O _) (S.e O _)
 | Compare a ops cs _ =>
  cases ops with
  | nil=>exact Ak
  | cons op ops =>
   cases ops with
   | nil =>
    cases cs with
    | nil=>exact Ak
    | cons b cs =>
     cases cs with
     | cons _ _=>exact Ak
     | nil =>
      delta iEb
      dsimp only;split
      ·rename_i i j hp;exact Ye O hp
      ·split
       ·rename_i neg kvs hd;exact mL O hd (S.e O _)
       ·split
        ·exact Ak
        ·rename_i h;exact Aaj (G7 O.units _) (K5 (by simpa using h)) (S.e O _) (S.e O _)
   | cons op' ops =>
    cases ops with
    | cons _ _=>exact Ak
    | nil =>
     cases cs with
     | nil=>exact Ak
     | cons b cs =>
      cases cs with
      | nil=>exact Ak
      | cons c cs =>
       cases cs with
       | cons _ _=>exact Ak
       | nil =>
        delta iEb
        dsimp only;split
        ·exact Ak
        ·rename_i h;exact jH (G7 O.units _) (G7 O.units _) (by show behindInMarks _ _=false;exact K5 (by simpa using h)) (S.e O _) (S.e O _) (S.e O _)
 | IfExp c a b _=>exact Ad4 (S.t O _) (S.e O _) (S.e O _)
 | Tuple es _ _=>exact Aar (S.a O _)
 | List es _=>exact Aas (S.a O _)
 | Dict ks vs p =>
  delta iEb
  dsimp only;split
  ·rename_i h;rw [aq,KD,KD] at h;obtain ⟨rfl,rfl⟩:=h;exact uM
  split
  ·rename_i h;rw [aq,aq] at h;exact Ak
  ·split
   ·rename_i kk vv hh;obtain ⟨rfl,rfl⟩:=dO hh;exact Ak
   ·exact Ak
 | Subscript a b _ =>
  have gen:DE X (.Subscript a b ‹_›) (if isSlice b then Zb else (match M8 G sc a with | some kvs=>Zv kvs (iE G n sc b) | none=>dop ixD (iE G n sc a) (iE G n sc b))):=by
   split
   ·exact Ak
   ·rename_i h;split
    ·rename_i kvs hd;obtain ⟨x,p,a,rfl,h1,h2,h3,h4⟩:=Hq O hd;exact kI h4 h1 h3 h2 (S.e O _) (yF (by simpa using h))
    ·exact Ad1 (Af3 (by have:=O.room.un;omega)) (yF (by simpa using h)) (S.e O _) (S.e O _)
  cases b with
  | Slice lo hi st _ =>
   cases st with
   | none =>
    refine iW (S.e O _) ?_ ?_
    ·cases lo with
     | none=>trivial
     | some e=>exact S.e O e
    ·cases hi with
     | none=>trivial
     | some e=>exact S.e O e
   | some s=>exact gen
  | _=>exact gen
 | Attribute o f _ =>
  delta iEb
  dsimp only;split
  ·rename_i h;exact uH (λc hc=>O.g.fld c _ hc) (S.e O _) (Cd h)
  ·exact Ak
 | Call ff args kws p' =>
  cases ff with
  | Name f p =>
   cases kws with
   | cons kw ks =>
    cases args with
    | nil=>exact Ak
    | cons a es =>
     cases es with
     | cons _ _=>exact Ak
     | nil =>
      delta iEb
      dsimp only;split
      ·rename_i h;simp only [aq] at h;obtain ⟨⟨⟨h1,h4⟩,h5⟩,h6⟩:=h;have h4:isStar a=false:=by simpa using h4
       have h6:ks=[]:=by simpa using h6
       subst h6;obtain ⟨j,cp,kp,rfl⟩:=Vx h5;split
       ·rename_i hf;have e:=bw hf;subst e;exact Ak
       ·split
        ·rename_i hf;have e:=bw hf;subst e;exact Ak
        ·exact Ak
      ·exact Ak
   | nil =>
    cases args with
    | nil =>
     delta iEb
     dsimp only;split
     ·rename_i h;rw [aq] at h;split
      ·rename_i g eg;obtain ⟨fa,fd,h1,h2,h3,h4,h5⟩:=O.g.fn _ _ _ eg;exact jE (E:=E0) h4 O.room (O.gl h.1) h1 h2 h3 Kl (by simpa using h.2)
      ·exact Ak
      ·split
       ·rename_i fl hb;obtain ⟨C,fa,fd,ps,g1,g2,g3,g4,g5⟩:=O.g.mk0 _ _ hb;exact lZ (E:=E0) g1 g2 g5 (O.room.mono (by omega)) (O.gl h.1) g3 g4 Kl (by simpa using h.2)
       ·exact Ak
     ·exact Ak
    | cons a es =>
     delta iEb
     dsimp only;split
     ·rename_i h;simp only [aq] at h;obtain ⟨⟨⟨⟨h1,h2⟩,h3⟩,h4⟩,h5⟩:=h;have h4:isStar a=false:=by simpa using h4
      split
      ·rename_i i ei;exact lR (by omega) (λy ps f h=>O.g.fn y ps f h) O.g.clo O.room (by rw [O.N];exact Ea ei) (O.vis h1) Kl (S.a O _) (by simpa using h2) (by simpa using h3) (Bb h4) (Aw h5)
      ·exact Ak
     split
     ·rename_i h;simp only [aq] at h;obtain ⟨⟨⟨⟨h1,h2⟩,h3⟩,h4⟩,h5⟩:=h
      have h2:(f==("__debug__":Str))=false:=by simpa using h2
      have h3:f ≠ "__name__":=by simpa using h3
      have h4:isStar a=false:=by simpa using h4
      split
      ·rename_i ps g eg;obtain ⟨fa,fd,g1,g2,g3,g4,g5⟩:=O.g.fn _ _ _ eg;exact S5 (E:=E0) g4 O.room (O.gl h1) g1 g2 g3 Kl (S.a O _) g5 h2 (Bb h4) (Aw h5)
      ·split
       ·rename_i fl hb;obtain ⟨rfl,hb⟩:=Yc hb;obtain ⟨C,fa,fd,ps,g1,g2,g3,g4,g5⟩:=O.g.mkr _ _ hb;exact lY (E:=E0) g1 g2 g5 (O.room.mono (by omega)) (O.gl h1) g3 g4 Kl (S.e O a) h2 (Bb h4)
       split
       ·rename_i b hb;cases hb
       ·split
        ·rename_i b c hb;cases hb
        ·split
         ·rename_i b hb;obtain ⟨rfl,hsb,p2,q2,rfl⟩:=V4 hb;split
          ·rename_i hs;split
           ·rename_i hf;have e:=bw hf;subst e;exact Xi O.calm (O.gl h1) (O.g.blt _ (by decide +kernel)) (O.gl hs) (O.g.blt _ (by decide +kernel)) (S.e O b) (Bb hsb)
           ·split
            ·rename_i hf;have e:=bw hf;subst e;exact cI O.calm (O.gl h1) (O.g.blt _ (by decide +kernel)) (O.gl hs) (O.g.blt _ (by decide +kernel)) (S.e O b) (Bb hsb)
            ·exact Ak
          ·exact Ak
         ·split
          ·rename_i b c hb;cases hb
          ·split
           ·rename_i b hb;obtain ⟨rfl,hsb,p2,q2,rfl⟩:=V5 hb;split
            ·rename_i hs;rw [aq] at hs;have e:=bw hs.2;subst e;exact X4 O.calm (O.gl h1) (O.g.blt _ (by decide +kernel)) (O.gl hs.1) (O.g.blt _ (by decide +kernel)) (S.e O b) (Bb hsb)
            ·exact Ak
           ·split
            ·rename_i hf;split
             ·rename_i c pc;split
              ·rename_i hc;simp only [aq] at hc;obtain ⟨⟨c1,c2⟩,c3⟩:=hc;split
               ·rename_i T eT;obtain ⟨t1,t2,t3⟩:=uY eT;have e:=bw hf;subst e;exact Aa1 t1 (O.gl h1) (O.g.blt _ (by decide +kernel)) (O.gl c1) (O.g.blt _ t3) t2 (by simpa using c3) (by simpa using c2) (S.e O a) (Bb h4)
               ·exact Ak
              ·exact Ak
             ·exact Ak
            ·split
             ·rename_i g eg;exact mQ O eg h1 (S.a O _) h3 h2 h4 h5
             ·exact Ak
     ·exact Ak
  | Attribute o m ap =>
   cases kws with
   | cons _ _=>cases args <;> exact Ak
   | nil =>
    cases args with
    | nil =>
     delta iEb
     dsimp only;split
     ·rename_i h;rw [aq] at h;split
      ·rename_i T f eT;exact Yd eT (S.e O _) h.1 h.2
      ·exact kW (E:=E0) (λc ps g hg=>O.g.met c _ ps g hg) O.room Kl (S.e O _) (Cd h.1) h.2
     ·exact Ak
    | cons a es =>
     delta iEb
     dsimp only;split
     ·rename_i h;simp only [aq] at h;obtain ⟨⟨⟨⟨h1,h2⟩,h3⟩,h4⟩,h5⟩:=h;split
      ·rename_i hm;have em:=bw hm;subst em;rw [ql] at h3;split
       ·rename_i kvs hd;obtain ⟨x,p',ad,rfl,g1,g2,g3,g4⟩:=Hq O hd;exact dB g4 g1 g3 g2 (S.a O _) (Cd h1) (Lx h3 h4 (of_decide_eq_true h5)) h2 (Bb h3) (Aw h4)
       ·exact Ak
      split
      ·rename_i hm;rw [aq] at hm;have em:=bw hm.1;subst em;rw [ql] at h3;exact Vj (Mw BP JW PySem.F.type_tuple_count uE (S.e O _) (S.a O _) (Cd h1) (Lx h3 h4 (of_decide_eq_true h5)) h2 (Bb h3) (Aw h4))
        (Mw qj BX PySem.F.type_list_count lC (S.e O _) (S.a O _) (Cd h1) (Lx h3 h4 (of_decide_eq_true h5)) h2 (Bb h3) (Aw h4))
      split
      ·rename_i hm;rw [aq] at hm;have em:=bw hm.1;subst em;rw [ql] at h3;exact Vj (Mw BP KQ KR Pk (S.e O _) (S.a O _) (Cd h1) (Lx h3 h4 (of_decide_eq_true h5)) h2 (Bb h3) (Aw h4))
        (Mw qj PySem.F.slot_list_index PySem.F.type_list_index Pk (S.e O _) (S.a O _) (Cd h1) (Lx h3 h4 (of_decide_eq_true h5)) h2 (Bb h3) (Aw h4))
      split
      ·rename_i T f eT;exact dU eT (S.e O _) (S.a O _) h1 h2 (by simpa using h3) h4 (of_decide_eq_true h5)
      ·rw [ql] at h3;exact uI (E:=E0) (λc ps g hg=>O.g.met c _ ps g hg) O.room Kl (S.e O _) (S.a O _) (Cd h1) (Lx h3 h4 (of_decide_eq_true h5)) h2 (Bb h3) (Aw h4)
     ·exact Ak
  | _=>cases args <;> exact Ak
 | ListComp elt gens scope p =>
  cases gens with
  | nil=>exact Ak
  | cons g gens =>
   obtain ⟨tg,iter,ifs,kk⟩:=g;cases gens with
   | cons _ _=>exact Ak
   | nil =>
    delta iEb
    dsimp only;split
    ·rename_i h;simp only [aq] at h;obtain ⟨⟨h1,h2⟩,h3⟩:=h;have e:=bw h1;subst e;split
     ·rename_i ws g eg;split
      ·rename_i hw;refine tU (N':=Dn scope) O.calm (Ls O h2) (V2 O scope) (λi hi j q=>?_) (S.i O tg iter) (λp C c s h f=>(O.comp h2 p C c s h f).target eg) (λp C c s h f=>S.f (O.comp h2 p C c s h f) ifs) (λp C c s h f=>S.e (O.comp h2 p C c s h f) elt) (Yb (by simpa using h3));have z:=DK.mp hw i hi;rw [q] at z;cases z
      ·exact Ak
     ·exact Ak
    ·exact Ak
 | _=>exact Ak
theorem snd (G:Gb):∀ n,SndE G n
 | 0=>mR G
 | n+1=>⟨λO=>Aen (snd G n) O,λO=>Aem (snd G n) O,λO=>Aej (snd G n) O,λO=>Aek (snd G n) O,λO=>Ael (snd G n) O⟩
theorem Ly {pos:Pos}{i j:Int}{c v:Value}(l:List Value) (h:TriplesOk l) (e:codeAmong pos (l++[rawInt i,rawInt j,c])=some v):codeAmong pos l=some v\/v=c:=by
 fun_induction TriplesOk l with
 | case1 =>
  simp only [MK,codeAmong,rawInt] at e;split at e
  ·cases e;exact .inr rfl
  ·cases e
 | case2 a t b u x rest ih =>
  simp only [List.cons_append,codeAmong] at e ⊢;split at e
  ·rename_i hc;rw [if_pos hc];exact .inl e
  ·rename_i hc;rw [if_neg hc];exact ih h e
 | case3 l h1 h2=>exact h.elim
section
variable {K:aj}{H:Hp}{ρ:List Addr}
theorem Ev.tab {p:Addr}{ys zs:Array Value}(hp:H p=some (.tbl ys)):Ev K H ρ (upd H p (.tbl zs)) ρ:=by
 have ne:∀ {a:Addr} {o:HO},H a=some o->(∀ ps,o≠.tbl ps)->upd H p (.tbl zs) a=some o:=λ{a o} h n=>by
  rw [Ad (Fw h hp (n ys))];exact h
 refine ⟨λa xs h=>?_,wk _,λa xs h=>?_,λa C dx fs h=>ne h (λ_ z=>by cases z),λa o u h=>ne h (λ_ z=>by cases z)⟩
 ·rcases h with (h|⟨ob,h⟩)|h
  ·exact .inl (.inl (ne h (λ_ z=>by cases z)))
  ·exact .inl (.inr ⟨ob,ne h (λ_ z=>by cases z)⟩)
  ·exact .inr h
 ·rcases h with ⟨ob,h⟩|h
  ·exact .inl ⟨ob,ne h (λ_ z=>by cases z)⟩
  ·exact .inr h
theorem RS.tab {mh:MH}{n:Nat}{p:Addr}{ys zs:Array Value}(h:RS K H ρ mh) (hn:ρ[n]?=some p) (hm:mh[n]?=some .plc) (hp:H p=some (.tbl ys)) (new:iC K (upd H p (.tbl zs)) p):RS K (upd H p (.tbl zs)) ρ mh :=
 ⟨h.len,h.nd,λm a ob e1 e2=>by
  by_cases hm':n=m
  ·subst hm';rw [hn] at e1;cases e1;rw [hm] at e2;cases e2;exact new
  ·refine (h.obj m a ob e1 e2).mono (Ev.tab hp) ?_;rw [Ad];intro z;subst z
   exact hm' ((vm (dh.mp hn).1 h.nd).mp (hn.trans e1.symm))⟩
theorem RS.tabQ {mh:MH}{n:Nat}{p:Addr}{ys zs:Array Value}(h:RS K H ρ mh) (hn:ρ[n]?=some p) {x:Str}(hm:mh[n]?=some (.plq x)) (hp:H p=some (.tbl ys)) (new:Zg K (upd H p (.tbl zs)) x p):RS K (upd H p (.tbl zs)) ρ mh :=
 ⟨h.len,h.nd,λm a ob e1 e2=>by
  by_cases hm':n=m
  ·subst hm';rw [hn] at e1;cases e1;rw [hm] at e2;cases e2;exact new
  ·refine (h.obj m a ob e1 e2).mono (Ev.tab hp) ?_;rw [Ad];intro z;subst z
   exact hm' ((vm (dh.mp hn).1 h.nd).mp (hn.trans e1.symm))⟩
end
noncomputable abbrev uT:HO:=.ext λ_=>True
section
variable {P:Program}{w:World}{H:Hp}{h h2:Heap}{pl c a:Addr}{tb more:Array Value}{oc ob:Obj}{fs:List Addr}
noncomputable abbrev H3 (H:Hp) (c:Addr) (oc:Obj) (pl:Addr) (tb:Array Value) (a:Addr) (ob:Obj):Hp:=upd (upd (upd H c (.frz oc uT)) pl (.tbl tb)) a (.frz ob uT)
theorem Z5 {b:Addr}{o:HO}(e:H b=some o) (n:∀ ps,o≠.tbl ps) (ht:H pl=some (.tbl tb)) (fc:H c=none) (fa:H a=none):H3 H c oc pl (tb++more) a ob b=some o:=by
 unfold H3;rw [Ad (Ae e fa),Ad (Fw e ht (n tb)),Ad (Ae e fc)];exact e
theorem T8 (ok:HOk P w H h) (ht:H pl=some (.tbl tb)) (fc:H c=none) (fa:H a=none) (nca:c≠a) (k:∀ b o,b≠pl->h.get? b=some o->h2.get? b=some o)
  (hpl:h2.get? pl=some (jb (tb++more))) (hc:h2.get? c=some oc) (ha:h2.get? a=some ob):HOk P w (H3 H c oc pl (tb++more) a ob) h2:=λb o e=>by
 by_cases b1:b=a
 ·subst b1;unfold H3 at e;rw [Ag] at e;cases e;exact ⟨ha,trivial,⟨_,ha⟩,λ_ _ _ _=>trivial⟩
 ·by_cases b2:b=pl
  ·subst b2;unfold H3 at e;rw [Ad b1,Ag] at e;cases e;exact hpl
  ·by_cases b3:b=c
   ·subst b3;unfold H3 at e;rw [Ad b1,Ad b2,Ag] at e;cases e;exact ⟨hc,trivial,⟨_,hc⟩,λ_ _ _ _=>trivial⟩
   ·have e0:H b=some o:=by
     unfold H3 at e;rw [Ad b1,Ad b2,Ad b3] at e;exact e
    refine (ok b o e0).stay (λx u hx q=>k x u (λz=>?_) q) (λx q=>Z5 q (λ_ z=>by cases z) ht fc fa) λx xs q=>Z5 q (λ_ z=>by cases z) ht fc fa
    rcases hx with rfl|hx
    ·exact b2 z
    ·subst z;rw [ht] at hx;cases hx
theorem Yg (ht:H pl=some (.tbl tb)) (fc:H c=none) (fa:H a=none) (sc:h.objs.size<=c) (sa:h.objs.size<=a) (k:∀ b o,b≠pl->h.get? b=some o->h2.get? b=some o)
  (hpl:h2.get? pl=some (jb (tb++more))):Un fs [] H (H3 H c oc pl (tb++more) a ob) h h2:=by
 have np:∀ b,H b=none->b≠pl:=λb n z=>by subst z;rw [ht] at n;cases n
 refine ⟨λb o e n _ _=>k b o (np b n) e,λb o e n _ _=>⟨o.slots,k b o (np b n) e⟩,λb o e n _=>?_,λb o e _=>?_,λb xs e=>Z5 e (λ_ z=>by cases z) ht fc fa,λb o u e=>Z5 e (λ_ z=>by cases z) ht fc fa,λb ps e=>?_⟩
 ·unfold H3;rw [Ad (cj (di (Heap.lt_size e) sa)),Ad (np b n),Ad (cj (di (Heap.lt_size e) sc))];exact n
 ·by_cases z:b=pl
  ·subst z;exact ⟨_,hpl⟩
  ·exact ⟨o,k b o z e⟩
 ·unfold H3;rw [Ad (Ae e fa)]
  by_cases z:b=pl
  ·subst z;rw [ht] at e;cases e;exact ⟨more,by rw [Ag]⟩
  ·exact ⟨#[],by rw [Ad z,Ad (Ae e fc),e];simp⟩
end
structure LamT (lps:Arguments) (body:Expr) (lsc:Scope):Prop where
 d:∀ env,defaultsOf lps env=([],[])
 c:∀ env,closureFor lsc env=pure []
 f:∀ name qual pm cdv ct,Zc (yh name qual lps body lsc [] pm cdv ct)
section
variable {X:Cx}
theorem Abt {lps:Arguments}{body:Expr}{lsc:Scope}{lpos:Pos}{loc:DL.Loc}{mh:MH}(L:LamT lps body lsc) (hq:X.env.qual ++ "<lambda>"=rZ)
  (hX:∃ (f:Addr) (o:Obj) (fd:FuncData),dg X.K mainGlobals "pattern_of"=some (some (.ref f))/\X.K.lookup f=some o/\o.data=.func fd/\X.env.code=fd.code) (h0:mh[0]?=some .plc) :
  PE X (.Lambda lps body lsc lpos) (tD X.K loc mh (some (.lam,mh))):=by
 rintro pins s σ H Q I ⟨ρ,d,mh',q,rl,rs,co⟩;cases q;obtain ⟨pl,hpl,ro⟩:=rs.at h0;obtain ⟨tb,ht,tri,cod,pk⟩:=(show iC X.K H pl from ro);obtain ⟨f,o,fd,c,bm,ob,n1,n2,n3,n4,n5,b1,b2,b3,b4,b5,b6,b7⟩:=id pk;obtain ⟨f',o',fd',m1,m2,m3,m4⟩:=hX;rw [n1] at m1;cases m1;rw [n2] at m2;cases m2;rw [n3] at m3;cases m3;rw [n4] at m4;have hP:s.heap.get? pl=some (jb tb):=I.hok pl _ ht;have C:=yx I.kIn n5;have hg:s.heap.Ns mainGlobals X.mg:=I.mod.glob.keeps I.bk;have hgP:mainGlobals≠pl:=λz=>by
  obtain ⟨o,es,ep,e,hd,_⟩:=hg;rw [z,hP] at e;cases e;cases hd
 have hb:s.heap.BuiltinsAt X.mg pl:=⟨bm,ob,yc I.kIn hg b1,b6,b7,(λz=>by
  have e:=I.kIn _ _ b2
  rw [z,hP] at e;cases e;cases b3),I.kIn _ _ b2,b3,b4,b5⟩
 refine PySem.W.kla_eval (L.d _) ?_;rw [hq];cases hm:codeAmong lpos tb.toList with
 | none =>
  refine KY (L.c _) I.ok.glob hg m4 C hP tri hm hgP hb λc' ctv h' tk hx hge hlt hrec htb=>?_
  obtain ⟨c2,oc,vs,tq,e1,e2,e3,e4⟩:=hrec;cases e1;have fc:H c'=none:=I.hok.fresh hge;have sa:s.heap.objs.size<=h'.objs.size:=zq (HF hge hlt);have fa:H h'.objs.size=none:=I.hok.fresh sa;have nca:c'≠h'.objs.size:=cj hlt;have npa:h'.objs.size≠pl:=jo (Heap.lt_size htb);have kk:∀ (ob:Obj) b o,b≠pl->s.heap.get? b=some o->(h'.push ob).get? b=some o:=λob b o n e=>ao _ (hx b o n e)
  have rs1:=(rs.new (o:=.frz oc uT) fc);have t1:upd H c' (.frz oc uT) pl=some (.tbl tb):=by rw [Ad (Ae ht fc)];exact ht
  have fr:∀ a o u,H a=some (.frz o u)->upd (upd H c' (.frz oc uT)) pl (.tbl (tb++#[rawInt lpos.line,rawInt lpos.col,.ref c'])) a=some (.frz o u):=λa o u e=>by
   rw [Ad (Fw e ht (by intro z;cases z)),Ad (Ae e fc)];exact e
  have ncp:c'≠pl:=λz=>by subst z;rw [ht] at fc;cases fc
  have cd1:Kq (upd (upd H c' (.frz oc uT)) pl (.tbl (tb++#[rawInt lpos.line,rawInt lpos.col,.ref c']))) (.ref c') rZ:=⟨c',oc,uT,vs,tq,rfl,by rw [Ad ncp,Ag],e3,e4⟩
  have rs2:=rs1.tab (zs:=tb++#[rawInt lpos.line,rawInt lpos.col,.ref c']) hpl h0 t1 ⟨_,Ag,by
    simpa using QD lpos.line lpos.col (.ref c') _ tri,λpos v z=>by
    rcases Ly _ tri (by simpa using z) with z|z
    ·exact (cod pos v z).mono fr
    ·subst z;exact cd1,pk⟩
  have f2:upd (upd H c' (.frz oc uT)) pl (.tbl (tb++#[rawInt lpos.line,rawInt lpos.col,.ref c'])) h'.objs.size=none:=by rw [Ad npa,Ad (Ne.symm nca)];exact fa
  have ev:Ev X.K H ρ _ ρ:=((Ev.new (o:=.frz oc uT) fc).trans (Ev.tab (zs:=tb++#[rawInt lpos.line,rawInt lpos.col,.ref c']) t1)).trans (Ev.new (o:=.frz (PySem.W.kla_obj "<lambda>" rZ lps body lsc [] ((X.mg "__name__").getD .none) c' ctv) uT) f2);refine ⟨.ref h'.objs.size,H3 H c' oc pl _ h'.objs.size _,I.un (Yg ht fc fa hge sa (kk _) (ao _ htb)) (T8 I.hok ht fc fa nca (kk _) (ao _ htb) (ao _ e2) (bh _ rfl)),rfl,?_⟩;exact co _ ρ _ ev (rs2.new f2) (.lam ⟨_,uT,_,Ag,rfl,L.f _ _ _ _ _,cd1.mono λa o u e=>by unfold H3;rw [Ad (Ae e f2)];exact e⟩)
 | some cv =>
  obtain ⟨c',oc,u,vs,tq,rfl,e2,e3,e4⟩:=cod lpos cv hm;refine HJ (L.c _) I.ok.glob hg m4 C hP tri hm hb λctv h' tk hk hsz=>?_
  have fa:H h'.objs.size=none:=I.hok.fresh hsz;refine ⟨.ref h'.objs.size,upd H h'.objs.size (.frz _ uT),I.laid (t':=tk) (λb u e=>ao _ (hk b u e)) hsz ⟨bh _ rfl,trivial,⟨_,bh _ rfl⟩,λ_ _ _ _=>trivial⟩,rfl,?_⟩;exact co _ ρ _ (Ev.new fa) (rs.new fa) (.lam ⟨_,uT,_,Ag,rfl,L.f _ _ _ _ _,c',oc,u,vs,tq,rfl,by rw [Ad (Ae e2 fa)];exact e2,e3,e4⟩)
noncomputable def Abu:DM D:=λ_ mh=>match mh[0]? with
 | some MO.plc=>some (D.lam,mh)
 | _=>none
end
theorem Gm {K:aj}{H:Hp}{ρ:List Addr}{N:List Str}{ds:List D}{vs:List V}(r:RDs K H ρ ds vs):RL K H ρ (ds.map some++au (N.length - ds.length) none) (L2.start N vs):=by
 have hl:=r.length;unfold L2.start;refine ⟨by simp [hl],λi d e=>?_⟩
 by_cases hi:i < ds.length
 ·rw [gh (by simpa using hi),gb] at e;cases q:ds[i]? with
  | none=>rw [q] at e;cases e
  | some d' =>
   rw [q] at e;cases e;obtain ⟨v,e1,r1⟩:=r.get q;exact ⟨v,by rw [gh (by simp;omega),gb,e1];rfl,r1⟩
 ·rw [ig (by simpa using hi),xq] at e;split at e <;> cases e
noncomputable def mU (st:Stmt) (a y:Str):Prop:=∃ p1 p2 p3 rpos cpos lps body lsc lpos,Aj st=[.Return (some (.Call (.Name y p1) [.Name a p2,.Name a p3,.Lambda lps body lsc lpos] [] cpos)) rpos]/\LamT lps body lsc /\
  glB (Ac st) y=true/\(y==("__debug__":Str))=false/\(a==("__debug__":Str))=false/\(a==("__classdict__":Str))=false
theorem Abv {P:Program}{w:World}{K:aj}{mg:Str->Option Value}{base:Heap}{k:Nat}{G:Gb}{st:Stmt}{f:Addr}{fd:FuncData}{N:List Str}{a y:Str}(g:GOk P w K mg base k G) (F:Fun K "pattern_of" "pattern_of" st f fd)
  (hn:dg K mainGlobals "pattern_of"=some (some (.ref f))) (S:FnScope N [a] (Ac st)) (L:mU st a y):FnOk P w K mg base CX0 (k+3) f fd [a] (spD K 1 (lamF G y)):=by
 obtain ⟨⟨oc,od,kV,doc,pm,an,cdv,ct,osl,rfl,lk,hcd⟩,kp⟩:=F;obtain ⟨p1,p2,p3,rpos,cpos,lps,body,lsc,lpos,hb,LT,hy,hyd,ha1,ha2⟩:=L;refine xP lk hcd S (λvs H Q E h=>h.1) λA outer s H vs Q E hr h=>?_
 obtain ⟨hl,ρ,mh,ds,d,mh',q,rs,r,co⟩:=h;unfold lamF at q;split at q
 ·rename_i d0 ps gf h0 hg;obtain ⟨fa,fdz,g1,g2,g3,g4,g5⟩:=g.fn _ _ _ hg;have hN:N[0]?=some a:=by
   have:=S.pre
   match N,this with
   | n::r,z=>simp at z;rw [z];rfl
  have va:Vis (Ac st) a:=(S.par a (by simp)).elim .inl λh=>.inr (.inl h)
  have dl:DE (Gq CX0 P w K mg base N "pattern_of" (Ac st) f cdv A outer s H E) (.Lambda lps body lsc lpos) Abu:=λloc mh=>by
   unfold Abu;split
   ·rename_i h0;exact Abt LT rfl ⟨f,_,_,hn,lk,rfl,rfl⟩ h0
   ·exact Ax
  have dv:∀ p,DE (Gq CX0 P w K mg base N "pattern_of" (Ac st) f cdv A outer s H E) (.Name a p) _:=λp=>iK (i:=0) hN va ha1 ha2
  have dc:=S5 (p:=p1) (pos:=cpos) g4 hr (mK hy) g1 g2 g3 Kl (Hj (dv p2) (Hj (dv p3) (Hj dl Ss rfl) rfl) rfl) g5 hyd rfl rfl;refine ⟨_,by rw [hb];exact U7 (jB (pos:=rpos) dc) Zq,?_⟩;refine ⟨_,mh,ρ,.rt d,[d0].map some++au (N.length - [d0].length) none,mh',?_,Gm r,rs,co⟩;cases N with
  | nil=>cases hN
  | cons n r =>
   simp [Af,retS,DM.bnd,Aa,Zr,Zl,Abu,h0,q]
 ·cases q
theorem Ji {X:Cx}{st:Stmt}{g:GM}:DS X st (Ba Zb g):=λ_ _ _ _ _ _ h=>by obtain ⟨_,_,_,_,_,_,e,_⟩:=h;cases e
theorem Yh {G:Gb}{X:Cx}{k:Nat}{sc:SC}(O:XOk X k G sc) (n:Nat) {y:Str}{py vp spos:Pos}{elt:Expr}{gens:List Comprehension}{scope:Scope}{ws:List Nat}{gy:GM}(hgy:iG sc (.Name y py)=some (ws,gy)) :
  DS X (.Assign [.Name y py] (.ListComp elt gens scope vp) spos) (Ba (iE G n sc (.ListComp elt gens scope vp)) gy):=by
 have hg:=O.target hgy;have sw:swapsWith (.ListComp elt gens scope vp) (some (.Name y py)) spos.line X.env=pure (X.env.blockKind==.function&&X.env.kindOf y==some .local&&py.line==vp.line&&!(scope.names.any λ(n,k)=>n==y&&(k==.local || k==.cell))):=rfl;cases hb:(X.env.blockKind==.function&&X.env.kindOf y==some .local&&py.line==vp.line&&!(scope.names.any λ(n,k)=>n==y&&(k==.local || k==.cell))) with
 | false =>
  rw [hb] at sw;exact Sx ((snd G n).e O _) hg sw rfl rfl
 | true =>
  rw [hb] at sw;cases n with
  | zero=>exact Ji
  | succ n =>
   show DS X _ (Ba (iEb (iE G n) (iT G n) (iA G n) (iF G n) (iI G n) G sc _) gy)
   match gens with
   | []=>exact Ji
   | ⟨_,_,_,_⟩::_::_=>exact Ji
   | [⟨tg,iter,ifs,kk⟩] =>
    delta iEb
    dsimp only;split
    ·rename_i h;simp only [aq] at h;obtain ⟨⟨h1,h2⟩,h3⟩:=h;have e:=bw h1;subst e;split
     ·rename_i ws g eg;split
      ·rename_i hw;refine Xf (N':=Dn scope) O.calm (Ls O h2) (V2 O scope) (λi hi j q=>?_) ((snd G n).i O tg iter) (λp C c s h f=>(O.comp h2 p C c s h f).target eg) (λp C c s h f=>(snd G n).f (O.comp h2 p C c s h f) ifs) (λp C c s h f=>(snd G n).e (O.comp h2 p C c s h f) elt) hg sw (Yb (by simpa using h3));have z:=DK.mp hw i hi;rw [q] at z;cases z
      ·exact Ji
     ·exact Ji
    ·exact Ji
theorem K6 {v tg:Expr}{line:Nat}{env:Env}(h:Jh v=false):swapsWithSole [tg] v line env=pure false:=by
 show swapsWith v (some tg) line env=pure false;cases v <;> first | rfl | cases h
theorem dW {v:Expr}{line:Nat}{env:Env}(h:Jh v=false):swapsWith v none line env=pure false:=by
 cases v <;> first | rfl | cases h
theorem Iu {v tg:Expr}{env:Env}(h:(Dz tg&&Dz v)=false) (hl:∀ es p,tg≠.List es p):swappedStores [tg] v env=pure none:=by
 cases tg with
 | Tuple ts kk p =>
  cases v with
  | Tuple vs k2 p2=>cases h
  | _=>rfl
 | List es p=>exact (hl es p rfl).elim
 | _=>first | rfl | (cases v <;> rfl)
theorem Abw {x y:Str}{a b:Expr}{px py pt pt2:Pos}{kt k2:Nat}{env:Env}(hb:(env.blockKind==.function)=true) (hx:(env.kindOf x==some .local)=true) (hy:(env.kindOf y==some .local)=true) (hl:(py.line==px.line)=true) (hne:(x==y)=false) (sa:isStar a=false) (sb:isStar b=false)
  (hf:[a,b].all (foldedForSure 8)=false) (hc:[a,b].all (constantsAlone 8)=false):swappedStores [.Tuple [.Name x px,.Name y py] kt pt] (.Tuple [a,b] k2 pt2) env=pure (some [x,y]):=by
 have he:([x,y].eraseDups.length != [x,y].length)=false:=by
  have:(y==x)=false:=by
   cases q:(y==x) with
   | false=>rfl
   | true=>rw [bw q] at hne;simp at hne
  simp [List.eraseDups_cons,this,hne]
 have hbk:(env.blockKind != .function)=false:=by rw [bne,hb];rfl
 have e1:(Option.map (λe:Expr=>e.pos.line) [Expr.Name x px,Expr.Name y py].head?).getD 0=px.line:=rfl;unfold swappedStores;dsimp only;refine (if_neg ?_).trans ?_
 ·simp [hbk]
 refine (if_neg ?_).trans ?_
 ·simp only [yr,List.any_nil,HY];rw [Bool.not_eq_true,FZ];constructor
  ·cases a <;> first | rfl | cases sa
  ·cases b <;> first | rfl | cases sb
 simp only [e1,yu,List.filterMap_nil,hx,hy,hl,beq_self_eq_true,QT,if_true];refine (if_neg ?_).trans ?_
 ·rw [he];simp
 rw [if_neg (by rw [hf];simp),if_neg (by rw [hc];simp)]
theorem Abx {X:Cx}{i j:Nat}{x y:Str}{a b:Expr}{mr:DM (List D)}{px py pt pt2 pos:Pos}{kt k2:Nat}(hc:X.calm=true) (hN:X.N.Nodup) (hi:X.N[i]?=some x) (hj:X.N[j]?=some y) (hij:i≠j) (hx:X.env.scope.names.lookup x=some .local) (hy:X.env.scope.names.lookup y=some .local) (ha:DA X [a,b] mr)
  (hw:swappedStores [.Tuple [.Name x px,.Name y py] kt pt] (.Tuple [a,b] k2 pt2) X.env=pure (some [x,y])):DS X (.Assign [.Tuple [.Name x px,.Name y py] kt pt] (.Tuple [a,b] k2 pt2) pos) (Abp mr i j):=by
 rintro pins s σ H N I ⟨loc,mh,ρ,f,loc',mh',e,rl,rs,co⟩;refine zK hc hN hi hj hij hx hy (ha loc mh) hw rfl pins s σ H N I ?_;unfold Abp at e;split at e
 ·rename_i d1 d2 h1 er;cases e;refine ⟨ρ,[d1,d2],mh',er,rl,rs,λH' ρ' vs e' rs' r'=>?_⟩;cases r' with
  | cons r1 r' =>
   cases r' with
   | cons r2 r' =>
    cases r';exact ⟨_,_,rfl,co H' ρ' _ e' rs' (((rl.mono e').set r1).set r2)⟩
 ·cases e
theorem Aeo (G:Gb) (n:Nat) (ihss:∀ {X:Cx}{k:Nat}{sc:SC},XOk X k G sc->∀ ss,DSs X ss (iSs G n sc ss)) {X:Cx}{k:Nat}{sc:SC}(O:XOk X k G sc) (s:Stmt):DS X s (iSb n (iSs G n) G sc s):=by
 have S:=snd G n;cases s with
 | Expr e p =>
  delta iSb
  dsimp only;split
  ·exact Cq
  ·rename_i h;exact tL (S.e O _) (dW (by simpa using h))
 | Pass _=>exact tH
 | Break _=>exact jA
 | Continue _=>exact U8
 | Return e _ =>
  cases e with
  | some e=>exact jB (S.e O _)
  | none=>exact tK
 | Assign ts v p =>
  cases ts with
  | nil=>exact Cq
  | cons tg r =>
   cases r with
   | cons _ _=>exact Cq
   | nil =>
    have gen:DS X (.Assign [tg] v p) (if Jh v || (Dz tg&&Dz v) then SM.bad else (match iGt G n sc tg with | some g=>Ba (iE G n sc v) g | none=>SM.bad)):=by
     split
     ·exact Cq
     ·rename_i h;have h:Jh v=false/\(Dz tg&&Dz v)=false:=by
       rw [Bool.not_eq_true,FZ] at h;exact h
      split
      ·rename_i g eg;have gen:(match iG sc tg with | some (_,g)=>some g | none=>none)=some g->DS X (.Assign [tg] v p) (Ba (iE G n sc v) g):=λeg=>by
        split at eg
        ·rename_i ws g' eg';cases eg;refine Sx (S.e O _) (O.target eg') (K6 h.1) (Iu h.2 (λes p z=>by subst z;simp [iG] at eg')) ?_;cases tg <;> first | rfl | (simp [iG] at eg')
        ·cases eg
       cases tg with
       | Subscript o i p' =>
        simp only [iGt] at eg;split at eg
        ·cases eg
        ·rename_i hs;cases eg;have hs:isSlice i=false:=by simpa using hs
         refine uN (Sx (S.e O _) (Aay (S.e O _) (S.e O _) ?_) (K6 h.1) (Iu h.2 (λ_ _ z=>by cases z)) rfl) (Abj O.units (S.e O _) (S.e O _) (S.e O _) (K6 (tg:=.Subscript o i p') (line:=p.line) (env:=X.env) h.1));intro v';cases i <;> first | rfl | cases hs
       | _=>exact gen eg
      ·exact Cq
    cases tg with
    | Name y py =>
     cases v with
     | ListComp elt gens scope vp =>
      delta iSb
      dsimp only
      delta Abq
      dsimp only;split
      ·rename_i ws g eg;exact Yh O n eg
      ·exact Cq
     | _=>exact gen
    | Tuple tl kt pt =>
     cases tl with
     | nil=>exact gen
     | cons t1 tl =>
      cases t1 with
      | Name x px =>
       cases tl with
       | nil=>exact gen
       | cons t2 tl =>
        cases t2 with
        | Name y py =>
         cases tl with
         | cons _ _=>exact gen
         | nil =>
          cases v with
          | Tuple vl k2 pt2 =>
           cases vl with
           | nil=>exact gen
           | cons a vl =>
            cases vl with
            | nil=>exact gen
            | cons b vl =>
             cases vl with
             | cons _ _=>exact gen
             | nil =>
              delta iSb
              dsimp only
              delta Abq
              dsimp only;split
              ·rename_i h;unfold Aei at h;simp only [aq,ql] at h;obtain ⟨⟨⟨⟨⟨⟨⟨⟨h1,h2⟩,h3⟩,h4⟩,h5⟩,h6⟩,h7⟩,h8⟩,h9⟩:=h;split
               ·rename_i i j ei ej;have hi:=Ea ei;have hj:=Ea ej;refine Abx O.calm (by rw [O.N];exact O.nd) (by rw [O.N];exact hi) (by rw [O.N];exact hj) (λz=>?_) (by rw [O.sco];exact bw h2) (by rw [O.sco];exact bw h3) (S.a O _) (Abw ?_ ?_ ?_ h4 h5 h6 h7 h8 h9)
                ·subst z;rw [hi] at hj;cases hj;simp at h5
                ·unfold Env.blockKind;rw [O.sco];exact h1
                ·unfold Env.kindOf;rw [O.sco];exact h2
                ·unfold Env.kindOf;rw [O.sco];exact h3
               ·exact Cq
              ·exact Cq
          | _=>exact gen
        | _=>exact gen
      | _=>exact gen
    | _=>exact gen
 | If c a b _=>exact Ad9 (S.t O _) (ihss O _) (ihss O _)
 | While c body els _ =>
  cases els with
  | cons _ _=>exact Cq
  | nil =>
   refine jD ?_ (S.t O _) (ihss O _);rw [O.xe];exact PassesOwn.never
 | For tg it body els _ =>
  cases els with
  | cons _ _=>exact Cq
  | nil =>
   delta iSb
   dsimp only;split
   ·exact Cq
   ·rename_i h;split
    ·rename_i ws g eg;refine Aaz ?_ O.calm (S.i O _ _) (O.target eg) (ihss O _) (Yb (by simpa using h));rw [O.xe];exact PassesOwn.never
    ·exact Cq
 | _=>exact Cq
theorem mV (G:Gb) (n:Nat):(∀ {X:Cx}{k:Nat}{sc:SC},XOk X k G sc->∀ s,DS X s (iS G n sc s))/\(∀ {X:Cx}{k:Nat}{sc:SC},XOk X k G sc->∀ ss,DSs X ss (iSs G n sc ss)):=by
 induction n with
 | zero=>exact ⟨λ_ _=>Cq,λ_ _ _ _ _ _ _ _ h=>by obtain ⟨_,_,_,_,_,_,e,_⟩:=h;cases e⟩
 | succ n ih =>
  refine ⟨λ{X k sc} O s=>Aeo G n (λO ss=>ih.2 O ss) O s,λ{X k sc} O ss=>?_⟩;cases ss with
  | nil=>exact Zq
  | cons s r=>exact U7 (ih.1 O s) (ih.2 O r)
theorem mW {P:Program}{w:World}{K:aj}{mg:Str->Option Value}{base:Heap}{k:Nat}{G:Gb}{x qual:Str}{st:Stmt}{f:Addr}{fd:FuncData}{I:FnI}(g:GOk P w K mg base k G) (F:Fun K x qual st f fd) (S:FnScope I.N I.ps (Ac st))
  (hs:I.scope=Ac st) (hb:I.body=Aj st) (n:Nat):FnOk P w K mg base CX0 (k+3) f fd I.ps (spD K I.ps.length (Ai G n I)):=by
 refine F.ok S (λvs H Q E h=>h.1) λcdv A outer s H vs Q E hr h=>?_
 obtain ⟨hl,ρ,mh,ds,d,mh',q,rs,r,co⟩:=h;refine ⟨_,(mV G n).2 (sc:={ N:=I.N,scope:=I.scope,own:=λ_=>true }) ⟨rfl,S.nd,hs.symm,λ_ _ _=>.inl rfl,rfl,rfl,hr,g⟩ (Aj st),?_⟩;unfold Ai at q;split at q
 ·split at q
  ·rename_i d' loc' m' e;cases q;exact ⟨_,mh,ρ,.rt d,loc',mh',by rw [← hb];exact e,Gm r,rs,co⟩
  ·rename_i loc' m' e;cases q;exact ⟨_,mh,ρ,.nx,loc',mh',by rw [← hb];exact e,Gm r,rs,λH' ρ' σ' e' rs' _=>co H' ρ' _ e' rs' .non⟩
  ·cases q
 ·cases q
theorem V6 {G:Gb}{n:Nat}{I:FnI}{ds:List D}{mh:MH}{r:D×MH}(h:Ai G n I ds mh=some r):ds.length=I.ps.length:=by
 unfold Ai at h;split at h
 ·assumption
 ·cases h
noncomputable def V7 (P:Program) (w:World) (K:aj) (mg:Str->Option Value) (base:Heap) (I:CloI) (qual:Str) (f:Addr) (cd:Value) (cl:List (Str×Addr)) (A:Around) (outer:List Env) (s:Shared) (H:Hp):Cx where
 prog:=P
 w:=w
 K:=K
 mg:=mg
 base:=base
 A:=A.deeper (UJ qual I.scope s.heap.objs.size f cd cl)
 N:=I.N++I.fr
 s₀:=s
 H₀:=H
 env:=UJ qual I.scope s.heap.objs.size f cd cl
 outer:=outer
 stack:=UJ qual I.scope s.heap.objs.size f cd cl::outer
 ex:=[]
 calm:=true
 fn:=λy=>!(I.fr.contains y)
 pn:=[]
 xe:=λ_ _=>False
theorem Bt.get {H:Hp}:∀ {cs:List Addr}{vs:List V}{i:Nat}{c:Addr},Bt H cs vs->cs[i]?=some c->∃ v oc u w,vs[i]?=some v/\H c=some (.frz oc u)/\oc.data=.cell (some w)/\RelV v w
 | [],[],i,c,_,e=>by simp at e
 | _::_,_::_,0,c,⟨⟨oc,u,w,h1,h2,h3⟩,_⟩,e=>by simp at e;subst e;exact ⟨_,oc,u,w,rfl,h1,h2,h3⟩
 | _::_,_::_,i+1,c,⟨_,t⟩,e=>by
  obtain ⟨v,oc,u,w,h0,h1,h2,h3⟩:=Bt.get (i:=i) t (by simpa using e);exact ⟨v,oc,u,w,by simpa using h0,h1,h2,h3⟩
theorem Bt.len {H:Hp}:∀ {cs:List Addr}{vs:List V},Bt H cs vs->cs.length=vs.length
 | [],[],_=>rfl
 | _::_,_::_,⟨_,t⟩=>by rw [fj,fj,Bt.len t]
theorem dX {α:Type}:∀ {cl:List (Str×α)}{i:Nat}{x:Str}{c:α},(cl.map (·.1)).Nodup->cl[i]?=some (x,c)->cl.lookup x=some c:=λ{cl i x c} nd e=>Bm nd (iy e)
theorem Yi {α:Type}{cl:List (Str×α)}{x:Str}{c:α}(e:cl.lookup x=some c):∃ i:Nat,cl[i]?=some (x,c):=by
 obtain ⟨i,hi,e2⟩:=RG (gm e);exact ⟨i,by rw [gq hi,e2]⟩
theorem Yj {us:List Value}:∀ {ps:List Str}{i:Nat}{x:Str}{u:Value},ps.Nodup->ps[i]?=some x->us[i]?=some u->(ps.zip us).reverse.lookup x=some u:=λ{ps i x u} nd h1 h2=>by
 refine Bm ?_ (List.mem_reverse.mpr (iy (i:=i) ?_))
 ·rw [List.map_reverse];have h:((ps.zip us).map (·.1)).Nodup:=by
   refine List.Nodup.sublist ?_ nd
   clear h1 h2 nd
   induction ps generalizing us with
   | nil=>simp
   | cons p ps ih =>
    cases us with
    | nil=>simp
    | cons u us=>exact (ih (us:=us)).cons_cons p
  exact List.pairwise_reverse.mpr (h.imp λz=>Ne.symm z)
 ·rw [JL];exact ⟨h1,h2⟩
section
variable {P:Program}{w:World}{K:aj}{mg:Str->Option Value}{base:Heap}{k:Nat}{G:Gb}
theorem Ro {I:CloI}{qual:Str}{f:Addr}{cd:Value}{cl:List (Str×Addr)}{A:Around}{outer:List Env}{s:Shared}{H:Hp}{us:List Value}{vs xs:List V}{h₁:Heap}{tk:Nat}
  (S:CloSc I) (hn:cl.map (·.1)=I.fr) (hnd:(cl.map (·.2)).Nodup) (hc:Bt H (cl.map (·.2)) xs) (hd:A.handled=none) (e0:Env0 P w K mg base A outer s H) (hl:vs.length=I.ps.length) (r:Vals vs us)
  (hns:h₁.Ns s.heap.objs.size (λx=>(I.ps.zip us).reverse.lookup x)) (hk:∀ b o,s.heap.get? b=some o->h₁.get? b=some o) :
  Inv (V7 P w K mg base I qual f cd cl A outer s H) [] (vs.map some++au (I.N.length - vs.length) none++xs.map some) H { s with heap:=h₁,toks:=tk }:=by
 have noA:∀ b:Addr,b ∉ ([]:List Addr):=λb z=>absurd z (by simp)
 have ndF:(cl.map (·.1)).Nodup:=by rw [hn];exact (vh.mp S.nd).2.1
 have ndN:=(vh.mp S.nd).1;have hpl:I.ps.length<=I.N.length:=by have:=congrArg List.length S.pre;rw [yp] at this;omega
 have at_:∀ x c,cl.lookup x=some c->∃ i v oc u wv,cl[i]?=some (x,c)/\xs[i]?=some v/\H c=some (.frz oc u)/\oc.data=.cell (some wv)/\RelV v wv:=λx c e=>by
  obtain ⟨i,ei⟩:=Yi e;obtain ⟨v,oc,u,wv,h0,h1,h2,h3⟩:=hc.get (i:=i) (c:=c) (by rw [gb,ei];rfl);exact ⟨i,v,oc,u,wv,ei,h0,h1,h2,h3⟩
 have cellAt:∀ {c:Addr} {oc:Obj} {u:HO} {wv:Value},H c=some (.frz oc u)->oc.data=.cell (some wv)->h₁.IsCell c (some wv):=λh1 h2=>⟨_,hk _ _ (e0.hok _ _ h1).1,h2⟩
 have frN:∀ x c,cl.lookup x=some c->x∈I.fr:=λx c e=>by
  rw [← hn];exact jc.mpr ⟨(x,c),gm e,rfl⟩
 have fnF:∀ x,x∈I.fr->(V7 P w K mg base I qual f cd cl A outer s H).fn x=false:=λx hx=>by
  show (!(I.fr.contains x))=false;rw [DX.mpr hx];rfl
 refine ⟨⟨e0.mod,S.kind,rfl,rfl,bx _,λy z c h1 h2=>?_,λy hy=>?_,λy c h1 h2=>?_,λ_=>hd,QF e0.frames,.inr ⟨rfl,rfl⟩,λb z=>absurd z (noA b),e0.bs,e0.bsz,λb _ _=>noA b,λb z=>absurd z (noA b),e0.funs,e0.frf⟩,
  rfl,e0.bare,Un.kept hk,⟨_,hns,λi y v h1 h2 h3=>?_⟩,λy c h=>?_,e0.hok.fresh (bx _),λy c h=>?_,λp hp=>absurd (show p∈([]:List (Addr×Obj)) from hp) (by simp),e0.hok.kept hk,?_⟩
 ·have h1:cl.lookup y=some c:=h1;have h2:cl.lookup z=some c:=h2;obtain ⟨i,ei⟩:=Yi h1;obtain ⟨j,ej⟩:=Yi h2;have e1:(cl.map (·.2))[i]?=some c:=by rw [gb,ei];rfl
  have e2:(cl.map (·.2))[j]?=some c:=by rw [gb,ej];rfl
  have:i=j:=(vm (dh.mp e1).1 hnd).mp (e1.trans e2.symm);subst this;rw [ei] at ej;cases ej;rfl
 ·have hy:I.scope.names.lookup y=some .cell\/I.scope.names.lookup y=some .free:=hy;rcases hy with hy|hy
  ·exact absurd rfl (S.nocell _ (gm hy))
  ·have:=S.free y hy;rw [← hn] at this;obtain ⟨⟨a,c⟩,hm,rfl⟩:=jc.mp this;exact ⟨c,Bm ndF hm⟩
 ·rw [fnF y (frN y c h2)] at h1;cases h1
 ·have h1:(I.N++I.fr)[i]?=some y:=h1;have lm:(vs.map some++au (I.N.length - vs.length) none:List (Option V)).length=I.N.length:=by
   rw [dj,fu,DN];omega
  by_cases hi:i < I.N.length
  ·rw [gh hi] at h1;rw [gh (by rw [lm];exact hi)] at h2
   by_cases hv:i < vs.length
   ·rw [gh (by simpa using hv),gb] at h2;have ha:vs[i]?=some v:=by
     cases e:vs[i]? with
     | none=>rw [e] at h2;cases h2
     | some a=>rw [e] at h2;cases h2;rfl
    obtain ⟨u,hu,rv⟩:=r.get ha;have hp:I.ps[i]?=some y:=by
     rw [← S.pre,JQ (by omega)];exact h1
    have ndP:I.ps.Nodup:=by rw [← S.pre];exact ndN.sublist (VB _ _)
    exact ⟨u,rv,.inl ⟨S.par y (iy hp),Yj ndP hp hu⟩⟩
   ·rw [ig (by simpa using hv),xq] at h2;split at h2 <;> cases h2
  ·rw [ig (by omega)] at h1;rw [ig (by rw [lm];omega),lm,gb] at h2;rw [← hn,gb] at h1;cases ec:cl[i - I.N.length]? with
   | none=>rw [ec] at h1;cases h1
   | some q =>
    obtain ⟨x,c⟩:=q;rw [ec] at h1;cases h1;obtain ⟨v',oc,u,wv,g0,g1,g2,g3⟩:=hc.get (i:=i - I.N.length) (c:=c) (by rw [gb,ec];rfl);rw [g0] at h2;cases h2;refine ⟨wv,g3,.inr ⟨?_,c,dX ndF ec,cellAt g1 g2⟩⟩;rcases h3 with z|z|z
    ·exact .inr (by
      have hf:x∈I.fr:=by rw [← hn];exact jc.mpr ⟨(x,c),iy ec,rfl⟩
      exact absurd z (λz=>by
       have:=S.frs x hf;rw [show I.scope.names.lookup x=some .local from z] at this
       cases this))
    ·exact .inl z
    ·exact .inr z
 ·obtain ⟨i,v,oc,u,wv,_,_,h1,h2,_⟩:=at_ y c h;exact ⟨_,cellAt h1 h2⟩
 ·obtain ⟨i,v,oc,u,wv,_,_,h1,h2,_⟩:=at_ y c h;exact .inr ⟨fnF y (frN y c h),oc,u,h1⟩
 ·show _=(I.N++I.fr).length;have h5:=hc.len;have h6:=congrArg List.length hn;rw [fu] at h5 h6;rw [dj,dj,dj,fu,DN,fu];omega
theorem mX {H:Hp}{ρ:List Addr}{ds fs:List D}{vs xs:List V}(n:Nat) (rd:RDs K H ρ ds vs) (rf:RDs K H ρ fs xs):RL K H ρ (ds.map some++au (n - ds.length) none++fs.map some) (vs.map some++au (n - vs.length) none++xs.map some):=by
 have lv:ds.length=vs.length:=rd.length;have lf:=rf.length;refine ⟨by simp [lv,lf],λi d' e=>?_⟩
 by_cases hi:i < (ds.map some++au (n - ds.length) none:List (Option D)).length
 ·rw [gh hi] at e;have hi':i < (vs.map some++au (n - vs.length) none:List (Option V)).length:=by simp at hi ⊢;omega
  rw [gh hi']
  by_cases hv:i < ds.length
  ·rw [gh (by simpa using hv),gb] at e;cases q':ds[i]? with
   | none=>rw [q'] at e;cases e
   | some d2 =>
    rw [q'] at e;cases e;obtain ⟨v,e1,r1⟩:=rd.get q';exact ⟨v,by rw [gh (by simp;omega),gb,e1];rfl,r1⟩
  ·rw [ig (by simpa using hv),xq] at e;split at e <;> cases e
 ·have eL:(ds.map some++au (n - ds.length) none:List (Option D)).length=(vs.map some++au (n - vs.length) none:List (Option V)).length:=by simp [lv]
  rw [ig (by omega),gb] at e;rw [ig (by omega),← eL];cases q':fs[i - (ds.map some++au (n - ds.length) none:List (Option D)).length]? with
  | none=>rw [q'] at e;cases e
  | some d2 =>
   rw [q'] at e;cases e;obtain ⟨v,e1,r1⟩:=rf.get q';exact ⟨v,by rw [gb,e1];rfl,r1⟩
theorem Aby {I:CloI}{a:Addr}{fd:FuncData}{cl:List (Str×Addr)}(g:GOk P w K mg base k G) (S:CloSc I) (F:Ze I fd cl) (n:Nat):FnOk P w K mg base CX0 (k+3) a fd I.ps (spC K a I fd cl (Ir G n I)):=by
 obtain ⟨F,bind⟩:=F;refine ⟨λvs H Q E h=>h.1,λA outer s H args us vs Q E hr e0 hb r hsp=>?_⟩;obtain ⟨hl,⟨o,u,ho,hd⟩,⟨c,oc,u2,fs',tq,e1,e2,e3,e4⟩,hn,hnd,xs,hc,ρ,mh,fs,ds,d,mh',q,rs,rf,rd,co⟩:=hsp;have lim:s.heap.NoLimit:=e0.mod.nolimit.keeps λb o e=>(e0.bs b o e).1
 have ul:us.length=I.ps.length:=by rw [← r.length];exact hl
 rcases F with ⟨name,qual,params,doc,pm,cdv,ctv,rfl⟩|⟨name,qual,params,body,rp,pm,cdv,ctv,eb,rfl⟩
 ·refine codeAny_call_def (binds:=I.ps.zip us) hr.depth (e0.hok a _ ho).1 hd lim ⟨c,oc,fs',tq,e1,(e0.hok c _ e2).1,e3,e4⟩ rfl hb S.nocell (λy hy=>S.par _ (qz hy).1) (λh₁ hns hk=>?_) S.co S.gen S.kind;have J:=Ro (cd:=cdv) (f:=a) (qual:=qual) (tk:=s.toks+(I.ps.zip us).length) S hn hnd hc hr.hd e0 hl r hns hk;have O:XOk (V7 P w K mg base I qual a cdv cl A outer s H) k G { N:=I.N++I.fr,scope:=I.scope,own:=λy=>!(I.fr.contains y) }:=⟨rfl,S.nd,rfl,λx hx _=>.inl hx,rfl,rfl,hr.deeper _,g⟩;unfold Ir at q;split at q
  ·rename_i hds;have rl:=mX (K:=K) I.N.length rd rf;have T:=(mV G n).2 O I.body;have fin:∀ {σ':L2.St} {H':Hp} {v:V} {u:Value} {s':Shared},Inv (V7 P w K mg base I qual a cdv cl A outer s H) [] σ' H' s'->RelV v u->Q v H'->CE outer P w H s Q u s':=λ{σ' H' v u s'} J rv q=>⟨v,H',J.os,J.bare,J.base,J.hok,rv,q⟩
   have run:tS K (iSs G n { N:=I.N++I.fr,scope:=I.scope,own:=λy=>!(I.fr.contains y) } I.body) { nx:=λ_ H'=>Q .non H',rt:=Q } (vs.map some++au (I.N.length - vs.length) none++xs.map some) H:=by
    split at q
    ·rename_i d' loc' m' e;cases q;exact ⟨_,mh,ρ,.rt d,loc',mh',e,rl,rs,co⟩
    ·rename_i loc' m' e;cases q;exact ⟨_,mh,ρ,.nx,loc',mh',e,rl,rs,λH' ρ' σ' e' rs' _=>co H' ρ' _ e' rs' .non⟩
    ·cases q
   refine nq (T [] _ _ H _ J run) (λfl s' hs=>?_) λe s' hs=>False.elim hs
   cases fl with
   | ret u =>
    obtain ⟨v,σ',H',J',rv,q'⟩:=hs;exact fin J' rv q'
   | next =>
    obtain ⟨σ',H',J',q'⟩:=hs;exact fin (v:=V.non) (u:=Value.none) J' rfl q'
   | brk =>
    obtain ⟨_,_,_,q'⟩:=hs;exact False.elim q'
   | cont =>
    obtain ⟨_,_,_,q'⟩:=hs;exact False.elim q'
  ·cases q
 ·refine QL hr.depth (e0.hok a _ ho).1 hd S.co S.gen rfl ⟨c,oc,fs',tq,e1,(e0.hok c _ e2).1,e3,e4⟩ (hb _ _ _ _ ?_);refine wpAny_newFunctionEnv S.nocell (λy hy=>S.par _ (qz hy).1) (λh₁ hns hsb=>⟨lim.fresh _ hsb,QM ?_⟩) S.kind;have hk:∀ b o,s.heap.get? b=some o->h₁.get? b=some o:=λb o e=>hsb.extBut b o (cj (Heap.lt_size e)) (ao _ e)
  have J:=Ro (cd:=cdv) (f:=a) (qual:=qual) (tk:=s.toks+(I.ps.zip us).length) S hn hnd hc hr.hd e0 hl r hns hk;have O:XOk (V7 P w K mg base I qual a cdv cl A outer s H) k G { N:=I.N++I.fr,scope:=I.scope,own:=λy=>!(I.fr.contains y) }:=⟨rfl,S.nd,rfl,λx hx _=>.inl hx,rfl,rfl,hr.deeper _,g⟩;have rl:=mX (K:=K) I.N.length rd rf;unfold Ir at q;split at q
  ·rw [eb] at q
   match n,q with
   | 0,q=>cases q
   | 1,q=>cases q
   | n+2,q =>
    have q:(match Af (retS (iE G n { N:=I.N++I.fr,scope:=I.scope,own:=λy=>!(I.fr.contains y) } body)) (iSs G (n+1) { N:=I.N++I.fr,scope:=I.scope,own:=λy=>!(I.fr.contains y) } []) (ds.map some++au (I.N.length - ds.length) none++fs.map some) mh with
     | some (.rt d,_,mh')=>some (d,mh')
     | some (.nx,_,mh')=>some (.non,mh')
     | _=>none)=some (d,mh'):=q
    unfold Af retS at q;cases ev:iE G n { N:=I.N++I.fr,scope:=I.scope,own:=λy=>!(I.fr.contains y) } body (ds.map some++au (I.N.length - ds.length) none++fs.map some) mh with
    | none=>rw [ev] at q;cases q
    | some z =>
     obtain ⟨dz,mz⟩:=z;rw [ev] at q;cases q;refine nq ((snd G n).e O body _ mh [] _ _ H Q J ⟨ρ,d,mh',ev,rl,rs,co⟩) (λv s' h=>?_) λe s' h=>False.elim h
     obtain ⟨v',H',J',rv,q'⟩:=h;exact ⟨v',H',J'.os,J'.bare,J'.base,J'.hok,rv,q'⟩
  ·cases q
theorem dY {n:Nat}{I:CloI}{fs ds:List D}{mh:MH}{r:D×MH}(h:Ir G n I fs ds mh=some r):ds.length=I.ps.length:=by
 unfold Ir at h;split at h
 ·assumption
 ·cases h
end
noncomputable abbrev cap (X:Cx) (fr:List Str):Cx:={ X with fn:=λy=>X.fn y&&!(fr.contains y) }
section
variable {X:Cx}{pins:List (Addr×Obj)}{σ:L2.St}{H:Hp}{s:Shared}{fr:List Str}
theorem Abz (ok:X.Ok):(DL.cap X fr).Ok :=
 ⟨ok.mod,ok.kind,ok.glob,ok.blt,ok.above,ok.inj,ok.has,λx c h=>ok.cab x c (by
  have h:(X.fn x&&!(fr.contains x))=true:=h;rw [aq] at h
  exact h.1),ok.hd,ok.frames,ok.stk,ok.exf,ok.bs,ok.bsz,ok.noex,ok.exfs,ok.funs,ok.frf⟩
theorem Z6 (I:Inv X pins σ H s):Inv (DL.cap X fr) pins σ H s :=
 ⟨Abz I.ok,I.os,I.bare,I.base,I.loc,I.cell,I.free,λx c h=>(I.freeC x c h).imp id λ⟨a,b⟩=>⟨by show (X.fn x&&!(fr.contains x))=false;rw [a];rfl,b⟩,I.pin,I.hok,I.len⟩
theorem Yk (I:Inv X pins σ H s) {x:Str}{c:Addr}(hc:X.env.cells.lookup x=some c) (hf:X.fn x=false) (ha:X.s₀.heap.objs.size<=c) :
  ∃ H' oc u,Inv X pins σ H' s/\H' c=some (.frz oc u)/\s.heap.get? c=some oc/\((H'=H)\/(H c=none/\H'=upd H c (.frz oc u))):=by
 rcases I.freeC x c hc with fc|⟨_,oc,u,fz⟩
 rotate_left
 ·exact ⟨H,oc,u,I,fz,(I.hok c _ fz).1,.inl rfl⟩
 ·obtain ⟨v,oc,ho,hd⟩:=I.cell x c hc;refine ⟨upd H c (.frz oc uT),oc,uT,?_,Ag,ho,.inr ⟨fc,rfl⟩⟩;have ne:∀ {b:Addr} {o:HO},H b=some o->upd H c (.frz oc uT) b=some o:=λ{b o} e=>by rw [Ad (Ae e fc)];exact e
  have ne0:∀ b o,X.s₀.heap.get? b=some o->b≠c:=λb o e=>cj (di (Heap.lt_size e) ha)
  refine ⟨I.ok,I.os,I.bare,⟨I.base.keep,I.base.slot,λb o e n hx=>?_,I.base.there,λb xs e=>ne (I.base.tups b xs e),λb o u e=>ne (I.base.frzs b o u e),λb ps e=>?_⟩,I.loc,I.cell,?_,λy c' e=>?_,λp hp=>?_,λb ob e=>?_,I.len⟩
  ·rw [Ad (ne0 b o e)];exact I.base.free b o e n hx
  ·obtain ⟨more,q⟩:=I.base.tbls b ps e;exact ⟨more,ne q⟩
  ·rw [Ad (Ne.symm (I.cne x c hc))];exact I.free
  ·by_cases z:c'=c
   ·subst z;have:=I.ok.inj y x c' e hc;subst this;exact .inr ⟨hf,oc,uT,Ag⟩
   ·rw [Ad z];exact I.freeC y c' e
  ·obtain ⟨e,n,e3,e4,e5⟩:=I.pin p hp;have:p.1≠c:=λz=>by
    rw [z,ho] at e;cases e;exact e5 _ hd
   exact ⟨e,by rw [Ad this];exact n,e3,e4,e5⟩
  ·by_cases z:b=c
   ·subst z;rw [Ag] at e;cases e;exact ⟨ho,trivial,⟨_,ho⟩,λ_ _ _ _=>trivial⟩
   ·rw [Ad z] at e;exact (I.hok b ob e).stay (λ_ _ _ q=>q) (λ_ q=>ne q) λ_ _ q=>ne q
theorem Iv {K:aj}{ρ:List Addr}{mh:MH}:∀ (L:List (Str×Addr)) {vs:List V}{H:Hp},Inv X pins σ H s->RS K H ρ mh->(∀ q∈L,X.env.cells.lookup q.1=some q.2/\X.fn q.1=false/\X.s₀.heap.objs.size<=q.2)->L.length=vs.length->(∀ (i:Nat) (q:Str×Addr) (v:V),L[i]?=some q->vs[i]?=some v->∃ u,RelV v u/\s.heap.IsCell q.2 (some u)) ->
  ∃ H',Inv X pins σ H' s/\Ev K H ρ H' ρ/\RS K H' ρ mh/\Bt H' (L.map (·.2)) vs
 | [],[],H,I,rs,_,_,_=>⟨H,I,Ev.refl,rs,trivial⟩
 | [],_::_,_,_,_,_,hl,_=>by simp at hl
 | _::_,[],_,_,_,_,hl,_=>by simp at hl
 | q::L,v::vs,H,I,rs,hq,hl,hv=>by
  obtain ⟨h1,h2,h3⟩:=hq q dw;obtain ⟨H1,oc,u,I1,f1,g1,hor⟩:=Yk I h1 h2 h3;have ev1:Ev K H ρ H1 ρ/\RS K H1 ρ mh:=by
   rcases hor with rfl|⟨n,rfl⟩
   ·exact ⟨Ev.refl,rs⟩
   ·exact ⟨Ev.new n,rs.new n⟩
  obtain ⟨H2,I2,ev2,rs2,cs⟩:=Iv L I1 ev1.2 (λq hq'=>hq q (cu _ hq')) (by simpa using hl) λi q v e1 e2=>hv (i+1) q v (by simpa using e1) (by simpa using e2)
  obtain ⟨w,rw_,o,ho,hd⟩:=hv 0 q v rfl rfl;rw [g1] at ho;cases ho;exact ⟨H2,I2,ev1.1.trans ev2,rs2,⟨oc,u,w,ev2.frz _ _ _ f1,hd,rw_⟩,cs⟩
end
noncomputable def mY (names:List (Str×NameKind)):List Str:=names.foldl (λc x=>if x.2==.free then x.1::c else c) []
theorem Gu (env:Env) (names:List (Str×NameKind)):(Bg env names).map (·.1)=mY names:=by
 have go:∀ (names:List (Str×NameKind)) (acc:List (Str×Addr)) (acc':List Str),acc.map (·.1)=acc'->(names.foldl (λc x=>Ig env x c) acc).map (·.1)=names.foldl (λc x=>if x.2==.free then x.1::c else c) acc':=by
  intro names
  induction names with
  | nil=>exact λ_ _ h=>h
  | cons x r ih =>
   intro acc acc' h;refine ih _ _ ?_;show List.map (·.1) (Ig env x acc)=(if (x.2==.free)=true then x.1::acc' else acc');unfold Ig;split
   ·rw [dm,h]
   ·exact h
 exact go names [] [] rfl
structure MakDef (I:FnI) (m:MakI) (st:Stmt):Prop where
 ex:∃ params pos,Aj st=m.pre++.FunctionDef "_law_pick" params m.ci.body [] none [] m.ci.scope none "_law_pick" pos::m.post/\params.defaults=[]/\params.kw_defaults=[]/\(∀ env,annTrees params none env=[]) /\
  ∀ name qual cl doc pm cdv ctv (us:List Value),us.length=m.ci.ps.length->bindArgs (NP name qual params m.ci.body m.ci.scope cl .none .none doc pm none cdv ctv) ⟨us,[]⟩=pure (m.ci.ps.zip us)
 sc:CloSc m.ci
 fr:m.ci.fr=mY m.ci.scope.names
 cel:∀ x∈m.ci.fr,(Ac st).names.lookup x=some .cell
 nm:I.N[m.i]?=some ("_law_pick":Str)
 lc:(Ac st).names.lookup ("_law_pick":Str)=some .local
 js:m.js.length=m.ci.fr.length
 at_:∀ (t j:Nat) (x:Str),m.js[t]?=some j->m.ci.fr[t]?=some x->I.N[j]?=some x
theorem J7 {loc:DL.Loc}:∀ {js:List Nat}{ds:List D},Ip loc js=some ds->ds.length=js.length/\∀ (t j:Nat) (d:D),js[t]?=some j->ds[t]?=some d->loc[j]?=some (some d)
 | [],ds,h=>by cases h;exact ⟨rfl,λt j d e=>by simp at e⟩
 | j::r,ds,h=>by
  unfold Ip at h;split at h
  ·rename_i d ed;split at h
   ·rename_i ds' er;cases h;obtain ⟨h1,h2⟩:=J7 er;refine ⟨by rw [fj,fj,h1],λt j' d' e1 e2=>?_⟩;cases t with
    | zero=>cases e1;cases e2;exact ed
    | succ t=>exact h2 t j' d' (by simpa using e1) (by simpa using e2)
   ·cases h
  ·cases h
theorem Yl {K:aj}{H:Hp}{ρ:List Addr}{loc:DL.Loc}{σ:L2.St}(rl:RL K H ρ loc σ):∀ {js:List Nat}{ds:List D},Ip loc js=some ds->∃ vs,RDs K H ρ ds vs/\∀ (t j:Nat) (v:V),js[t]?=some j->vs[t]?=some v->σ[j]?=some (some v)
 | [],ds,h=>by cases h;exact ⟨[],.nil,λt j v e=>by simp at e⟩
 | j::r,ds,h=>by
  unfold Ip at h;split at h
  ·rename_i d ed;split at h
   ·rename_i ds' er;cases h;obtain ⟨vs,r1,r2⟩:=Yl rl er;obtain ⟨v,e1,rd⟩:=rl.2 j d ed;refine ⟨v::vs,.cons rd r1,λt j' v' q1 q2=>?_⟩;cases t with
    | zero=>cases q1;cases q2;exact e1
    | succ t=>exact r2 t j' v' (by simpa using q1) (by simpa using q2)
   ·cases h
  ·cases h
section
variable {X:Cx}
theorem Ab0 {x:Str}{I:FnI}{m:MakI}{st:Stmt}{params:Arguments}{pos:Pos}(M:MakDef I m st)
  (hd0:params.defaults=[]) (hk0:params.kw_defaults=[]) (ha:∀ env,annTrees params none env=[])
  (hb:∀ name qual cl doc pm cdv ctv (us:List Value),us.length=m.ci.ps.length->bindArgs (NP name qual params m.ci.body m.ci.scope cl .none .none doc pm none cdv ctv) ⟨us,[]⟩=pure (m.ci.ps.zip us))
  (hin:Om x = "_law_pick") (hN:X.N=I.N) (hnd:X.N.Nodup) (hsc:X.env.scope=Ac st) (hq:X.env.qual=x ++ ".<locals>.") (hcab:∀ y c,y∈m.ci.fr->X.env.cells.lookup y=some c->X.s₀.heap.objs.size<=c)
  (hX:∃ (f:Addr) (o:Obj) (fd:FuncData),dg X.K mainGlobals x=some (some (.ref f))/\X.K.lookup f=some o/\o.data=.func fd/\X.env.code=fd.code) :
  DS (cap X m.ci.fr) (.FunctionDef "_law_pick" params m.ci.body [] none [] m.ci.scope none "_law_pick" pos) (Abr x m):=by
 rintro pins s σ H D I0 ⟨loc,mh,ρ,fl,loc',mh',q,rl,rs,co⟩;unfold Abr at q;split at q
 rotate_left
 ·cases q
 rename_i y h0;split at q
 rotate_left
 ·cases q
 rename_i hy;have hy:=bw hy;subst hy;split at q
 rotate_left
 ·cases q
 rename_i ds el;cases q;obtain ⟨vs,rvs,hvs⟩:=Yl rl el;obtain ⟨ld,_⟩:=J7 el;have lv:vs.length=m.ci.fr.length:=by rw [← rvs.length,ld,M.js]
 have hfr:∀ z∈m.ci.scope.names,z.2=.free->∃ c,X.env.cells.lookup z.1=some c:=λz hz e=>by
  have hz':(z.1,NameKind.free)∈m.ci.scope.names:=by rw [← e];exact hz
  have:z.1∈m.ci.fr:=by
   rw [M.fr,← Gu X.env];exact jc.mpr ⟨_,gm (Je hz'),rfl⟩
  exact I0.ok.has z.1 (.inl (by show X.env.scope.names.lookup z.1=some .cell;rw [hsc];exact M.cel z.1 this))
 have hcl:closureFor m.ci.scope X.env=pure (Bg X.env m.ci.scope.names):=Ei hfr;have hcn:(Bg X.env m.ci.scope.names).map (·.1)=m.ci.fr:=by rw [Gu,M.fr]
 have hce:∀ z∈Bg X.env m.ci.scope.names,X.env.cells.lookup z.1=some z.2:=λz hz=>by
  rcases Gd m.ci.scope.names [] z.1 z.2 hz with h|⟨h1,h2⟩
  ·simp at h
  ·obtain ⟨c,e⟩:=hfr _ h1 rfl;rw [h2,e];rfl
 have hcd:((Bg X.env m.ci.scope.names).map (·.2)).Nodup:=by
  have nd1:((Bg X.env m.ci.scope.names).map (·.1)).Nodup:=by rw [hcn];exact (vh.mp M.sc.nd).2.1
  generalize Bg X.env m.ci.scope.names=L at nd1 hce
  induction L with
  | nil=>simp
  | cons z L ih =>
   rw [dm,jn] at nd1 ⊢;refine ⟨λhm=>?_,ih nd1.2 λz hz=>hce z (cu _ hz)⟩;obtain ⟨z',hz',e⟩:=jc.mp hm;have e1:=hce z dw;have e2:=hce z' (cu _ hz');rw [e] at e2;exact nd1.1 (jc.mpr ⟨z',hz',I0.ok.inj _ _ _ e2 e1⟩)
 obtain ⟨Hz,Iz,ev0,rs0,cells⟩:=Iv (Bg X.env m.ci.scope.names) (vs:=vs) I0 rs (λz hz=>⟨hce z hz,by
   have:z.1∈m.ci.fr:=by rw [← hcn];exact jc.mpr ⟨z,hz,rfl⟩
   show (X.fn z.1&&!(m.ci.fr.contains z.1))=false
   rw [DX.mpr this];simp,hcab z.1 z.2 (by rw [← hcn];exact jc.mpr ⟨z,hz,rfl⟩) (hce z hz)⟩)
  (by rw [lv,← hcn,fu]) λi z v e1 e2=>by
   have e3:m.ci.fr[i]?=some z.1:=by rw [← hcn,gb,e1];rfl
   have hi:i < m.js.length:=by rw [M.js];exact (dh.mp e3).1
   have e4:=gq hi;have e5:=hvs i _ v e4 e2;have e6:=M.at_ i _ z.1 e4 e3;obtain ⟨mm,hns,hlk⟩:=I0.loc;have hm:z.1∈m.ci.fr:=iy e3;obtain ⟨u,ru,lk⟩:=hlk _ z.1 v (by show X.N[_]?=_;rw [hN];exact e6) e5 (.inr (.inl (by show X.env.scope.names.lookup z.1=some .cell;rw [hsc];exact M.cel z.1 hm)));refine ⟨u,ru,?_⟩;rcases lk with ⟨k,_⟩|⟨_,c,ec,hc⟩
   ·have k:X.env.scope.names.lookup z.1=some .local:=k;rw [hsc,M.cel z.1 hm] at k;cases k
   ·have:=hce z (iy e1);rw [show X.env.cells.lookup z.1=some c from ec] at this;cases this;exact hc
 have rl0:=rl.mono ev0;have rvs0:=rvs.mono ev0;have kX:(cap X m.ci.fr).env=X.env:=rfl;obtain ⟨pl,hpl,ro⟩:=rs0.at h0;obtain ⟨tb,ht,tri,cod,pk⟩:=(show Zg X.K Hz y pl from ro);obtain ⟨f,o,fd,c,bm,ob,n1,n2,n3,n4,n5,b1,b2,b3,b4,b5,b6,b7⟩:=id pk;obtain ⟨f',o',fd',m1,m2,m3,m4⟩:=hX;rw [n1] at m1;cases m1;rw [n2] at m2;cases m2;rw [n3] at m3;cases m3;rw [n4] at m4;have hP:s.heap.get? pl=some (jb tb):=Iz.hok pl _ ht;have C:=yx Iz.kIn n5;have hg:s.heap.Ns mainGlobals X.mg:=Iz.mod.glob.keeps Iz.bk;have hgP:mainGlobals≠pl:=λz=>by
  obtain ⟨o,es,ep,e,hd,_⟩:=hg;rw [z,hP] at e;cases e;cases hd
 have hbt:s.heap.BuiltinsAt X.mg pl:=⟨bm,ob,yc Iz.kIn hg b1,b6,b7,(λz=>by
  have e:=Iz.kIn _ _ b2
  rw [z,hP] at e;cases e;cases b3),Iz.kIn _ _ b2,b3,b4,b5⟩
 have hqn:qualnameIn X.env "_law_pick" "_law_pick"=Sq y:=by
  unfold qualnameIn;rw [if_neg,hq]
  ·show _=y ++ ".<locals>."++Om y
   rw [hin]
  intro z;have z:=bw z
  have z:X.env.scope.names.lookup ("_law_pick":Str)=some .globalExplicit:=z;rw [hsc,M.lc] at z;cases z
 have ndC:(cap X m.ci.fr).N.Nodup:=hnd
 have nmC:(cap X m.ci.fr).N[m.i]?=some ("_law_pick":Str):=by show X.N[m.i]?=_;rw [hN];exact M.nm
 have lcC:(cap X m.ci.fr).env.scope.names.lookup ("_law_pick":Str)=some .local:=by show X.env.scope.names.lookup _=_;rw [hsc];exact M.lc
 have last:∀ {H2:Hp} {s2:Shared} {a:Addr} {ob:Obj} {doc pm ctv:Value} {c':Addr},Inv (cap X m.ci.fr) pins σ H2 s2->Ev X.K Hz ρ H2 ρ->RS X.K H2 ρ mh->H2 a=some (.frz ob uT)->ob.data=.func (NP "_law_pick" (Sq y) params m.ci.body m.ci.scope (Bg X.env m.ci.scope.names) .none .none doc pm none (.ref c') ctv)->Kq H2 (.ref c') (Sq y) ->
   wpAny (model X.prog X.w) X.A (storeName X.env "_law_pick" (.ref a)) (λ_ s''=>SP (cap X m.ci.fr) pins D .next s'') X.xe s2:=λ{H2 s2 a ob doc pm ctv c'} J ev r2 ha hd hcod=>by
  refine Kf (X:=cap X m.ci.fr) (v:=.ref a) J ndC nmC (.inl lcC) rfl (λs3 J3=>⟨_,H2,J3,?_⟩) (.inr lcC);have rc:RD X.K H2 ρ (.clo m.ci ds) (.ref a):=.clo ⟨ob,uT,_,Bg X.env m.ci.scope.names,ha,hd,M.sc,⟨.inl ⟨_,_,params,doc,pm,_,ctv,rfl⟩,λus hu=>hb _ _ _ _ _ _ _ us hu⟩,hcod,hcn,hcd,cells.mono ev.frz⟩ (rvs0.mono ev);exact co H2 ρ _ (ev0.trans ev) r2 ((rl0.mono ev).set rc)
 refine PySem.W.nestDef_K hd0 hk0 (ha _) ?_
 show wpAny (model X.prog X.w) X.A (makeFunction "_law_pick" (qualnameIn X.env "_law_pick" "_law_pick") params (.stmts m.ci.body) m.ci.scope X.env [] [] [] pos pos.line) _ X.xe s;rw [hqn];cases hm:codeAmong pos tb.toList with
 | none =>
  refine PySem.W.makeFunction_K hcl I0.ok.glob hg m4 C hP tri hm hgP hbt λc' ctv doc h' tk hx hge hlt hrec htb=>?_
  obtain ⟨c2,oc,ws,tq,e1,e2,e3,e4⟩:=hrec;cases e1;have fc:Hz c'=none:=Iz.hok.fresh hge;have sa:s.heap.objs.size<=h'.objs.size:=zq (HF hge hlt);have fa:Hz h'.objs.size=none:=Iz.hok.fresh sa;have nca:c'≠h'.objs.size:=cj hlt;have npa:h'.objs.size≠pl:=jo (Heap.lt_size htb);have kk:∀ (ob:Obj) b o,b≠pl->s.heap.get? b=some o->(h'.push ob).get? b=some o:=λob b o n e=>ao _ (hx b o n e)
  have rs1:=(rs0.new (o:=.frz oc uT) fc);have t1:upd Hz c' (.frz oc uT) pl=some (.tbl tb):=by rw [Ad (Ae ht fc)];exact ht
  have frz1:∀ a o u,Hz a=some (.frz o u)->upd (upd Hz c' (.frz oc uT)) pl (.tbl (tb++#[rawInt pos.line,rawInt pos.col,.ref c'])) a=some (.frz o u):=λa o u e=>by
   rw [Ad (Fw e ht (by intro z;cases z)),Ad (Ae e fc)];exact e
  have ncp:c'≠pl:=λz=>by subst z;rw [ht] at fc;cases fc
  have cd1:Kq (upd (upd Hz c' (.frz oc uT)) pl (.tbl (tb++#[rawInt pos.line,rawInt pos.col,.ref c']))) (.ref c') (Sq y):=⟨c',oc,uT,ws,tq,rfl,by rw [Ad ncp,Ag],e3,e4⟩
  have rs2:=rs1.tabQ (zs:=tb++#[rawInt pos.line,rawInt pos.col,.ref c']) hpl h0 t1 ⟨_,Ag,by
    simpa using QD pos.line pos.col (.ref c') _ tri,λpos v z=>by
    rcases Ly _ tri (by simpa using z) with z|z
    ·exact (cod pos v z).mono frz1
    ·subst z;exact cd1,pk⟩
  have f2:upd (upd Hz c' (.frz oc uT)) pl (.tbl (tb++#[rawInt pos.line,rawInt pos.col,.ref c'])) h'.objs.size=none:=by rw [Ad npa,Ad (Ne.symm nca)];exact fa
  refine last (c':=c') (Iz.un (Yg ht fc fa hge sa (kk _) (ao _ htb)) (T8 Iz.hok ht fc fa nca (kk _) (ao _ htb) (ao _ e2) (bh _ rfl)))
   (((Ev.new (o:=.frz oc uT) fc).trans (Ev.tab (zs:=tb++#[rawInt pos.line,rawInt pos.col,.ref c']) t1)).trans (Ev.new f2)) (rs2.new f2) Ag rfl (cd1.mono λa o u e=>by unfold H3;rw [Ad (Ae e f2)];exact e)
 | some cv =>
  obtain ⟨c',oc,u,ws,tq,rfl,e2,e3,e4⟩:=cod pos cv hm;refine PySem.W.makeFunction_hit hcl I0.ok.glob hg m4 C hP tri hm hbt λctv doc h' tk hk hsz=>?_
  have fa:Hz h'.objs.size=none:=Iz.hok.fresh hsz;refine last (c':=c') (Iz.laid (o:=.frz _ uT) (t':=tk) (λb u e=>ao _ (hk b u e)) hsz ⟨bh _ rfl,trivial,⟨_,bh _ rfl⟩,λ_ _ _ _=>trivial⟩) (Ev.new fa) (rs0.new fa) Ag rfl ⟨c',oc,u,ws,tq,rfl,by rw [Ad (Ae e2 fa)];exact e2,e3,e4⟩
end
section
variable {P:Program}{w:World}{K:aj}{mg:Str->Option Value}{base:Heap}{k:Nat}{G:Gb}
theorem mZ {n:Nat}{x:Str}{I:FnI}{m:MakI}{ds:List D}{mh:MH}{r:D×MH}(h:dR G n x I m ds mh=some r):ds.length=I.ps.length:=by
 unfold dR at h;split at h
 ·assumption
 ·cases h
theorem Px {m1 m2:SM}{D:Ends}{σ:L2.St}{H:Hp}(h:tS K (Af m1 m2) D σ H):tS K m1 { D with nx:=tS K m2 D } σ H:=by
 obtain ⟨loc,mh,ρ,f,loc',mh',q,rl,rs,co⟩:=h;unfold Af at q;split at q
 ·rename_i l h e1;exact ⟨loc,mh,ρ,.nx,l,h,e1,rl,rs,λH1 ρ1 σ1 ev1 rs1 rl1=>⟨l,h,ρ1,f,loc',mh',q,rl1,rs1,co.ev ev1⟩⟩
 ·rename_i r hne;refine ⟨loc,mh,ρ,f,loc',mh',q,rl,rs,?_⟩;cases f with
  | nx=>exact absurd q (hne _ _)
  | bk=>exact co
  | ct=>exact co
  | rt d=>exact co
theorem T9 {X:Cx}{sc:SC}(O:XOk X k G sc) {Z:Flow->Shared->Prop}{rest:List Stmt}(pins:List (Addr×Obj)):∀ (n:Nat) (pre:List Stmt) {s:Shared}{σ:L2.St}{H:Hp}{D:Ends},Inv X pins σ H s->tS X.K (iSs G n sc pre) D σ H->(∀ f s',f≠.next->SP X pins D f s'->Z f s') ->
  (∀ s' σ' H',Inv X pins σ' H' s'->D.nx σ' H'->wpAny (model X.prog X.w) X.A (execs rest X.env) Z X.xe s')->wpAny (model X.prog X.w) X.A (execs (pre++rest) X.env) Z X.xe s
 | 0,pre,s,σ,H,D,I,h,_,_=>by
  obtain ⟨_,_,_,_,_,_,q,_⟩:=h;cases q
 | n+1,[],s,σ,H,D,I,h,h1,h2=>by
  obtain ⟨loc,mh,ρ,f,loc',mh',q,rl,rs,co⟩:=h;cases q;exact h2 s σ H I (co H ρ σ Ev.refl rs rl)
 | n+1,st::r,s,σ,H,D,I,h,h1,h2=>by
  refine CV (thn ((mV G n).1 O st pins s σ H _ I (Px h)) λf s1 q=>?_);cases f with
  | next =>
   obtain ⟨σ',H',I',q⟩:=q;exact T9 O pins n r I' q h1 h2
  | ret v=>exact h1 _ _ (by intro z;cases z) q
  | brk=>exact h1 _ _ (by intro z;cases z) q
  | cont=>exact h1 _ _ (by intro z;cases z) q
theorem Ab1 {x:Str}{st:Stmt}{f:Addr}{fd:FuncData}{I:FnI}{m:MakI}(g:GOk P w K mg base k G) (F:Fun K x x st f fd) (hn:dg K mainGlobals x=some (some (.ref f))) (S:FnScope I.N I.ps (Ac st)) (hs:I.scope=Ac st) (hin:Om x = "_law_pick") (M:MakDef I m st) (n:Nat) :
  FnOk P w K mg base CX0 (k+3) f fd I.ps (spD K I.ps.length (dR G n x I m)):=by
 obtain ⟨⟨oc,od,kV,doc,pm,an,cdv,ct,osl,rfl,lk,hcd⟩,kp⟩:=F;obtain ⟨params,pos,hbd,hd0,hk0,ha,hb⟩:=M.ex;refine ⟨λvs H Q E h=>h.1,λA outer s H args us vs Q E hr e0 hbn r hsp=>?_⟩;have hl:=hsp.1;have KX:K.In s.heap:=e0.mod.kin.keeps λb o e=>(e0.bs b o e).1
 have lim:s.heap.NoLimit:=e0.mod.nolimit.keeps λb o e=>(e0.bs b o e).1
 have hkind:∀ y∈I.ps.zip us,(Ac st).names.lookup y.1=some .local\/((Ac st).names.lookup y.1=some .cell/\((cellsFrom (s.heap.objs.size+1) (Ac st).names []).lookup y.1).isSome=true):=by
  rintro ⟨n,v⟩ hy;rcases S.par n (qz hy).1 with q|q
  ·exact .inl q
  ·exact .inr ⟨q,mj _ _ _ (.inl q)⟩
 refine DP hr.depth (KX _ _ lk) rfl S.co S.gen rfl (GX KX hcd) (hbn _ _ _ _ ?_);refine uy S.kind hkind λenv he s1 xx=>?_
 subst he;refine ⟨lim.keeps xx.toInCall.keep,SJ ?_⟩;have J0:Inv (Gq CX0 P w K mg base I.N x (Ac st) f cdv A outer s H E) [] (start I.N vs) H s1:=Jd S hr.hd e0 hl r xx;have J:Inv (Gq CX0 P w K mg base I.N x (Ac st) f cdv A outer s H E).nox [] (start I.N vs) H s1:=J0.wish _;have O:XOk (Gq CX0 P w K mg base I.N x (Ac st) f cdv A outer s H E).nox k G { N:=I.N,scope:=I.scope,own:=λ_=>true }:=⟨rfl,S.nd,hs.symm,λ_ _ _=>.inl rfl,rfl,rfl,hr.deeper _,g⟩
 have O2:XOk (cap (Gq CX0 P w K mg base I.N x (Ac st) f cdv A outer s H E).nox m.ci.fr) k G { N:=I.N,scope:=I.scope,own:=λy=>!(m.ci.fr.contains y) }:=⟨rfl,S.nd,hs.symm,λy hy _=>.inl (by
  have hy:(!(m.ci.fr.contains y))=true:=hy;show (true&&!(m.ci.fr.contains y))=true
  rw [hy];rfl),rfl,rfl,hr.deeper _,g⟩
 obtain ⟨_,ρ,mh,ds,d,mh',q,rs,rd,co⟩:=hsp;have run:tS K (yE G n x I m) { nx:=λ_ H'=>Q .non H',rt:=Q } (start I.N vs) H:=by
  unfold dR at q;split at q
  ·split at q
   ·rename_i d' loc' m' e;cases q;exact ⟨_,mh,ρ,.rt d,loc',mh',e,Gm rd,rs,co⟩
   ·rename_i loc' m' e;cases q;exact ⟨_,mh,ρ,.nx,loc',mh',e,Gm rd,rs,λH' ρ' σ' e' rs' _=>co H' ρ' _ e' rs' .non⟩
   ·cases q
  ·cases q
 let Z:Flow->Shared->Prop:=λfl s'=>match fl with
  | .ret u=>CE outer P w H s Q u s'
  | .next=>CE outer P w H s Q .none s'
  | _=>False
 have fin:∀ {σ':L2.St} {H':Hp} {v:V} {u:Value} {s':Shared} {Y:Cx},Y.outer=outer->Y.prog=P->Y.w=w->Y.H₀=H->Y.s₀=s->Y.ex=[]->Inv Y [] σ' H' s'->RelV v u->Q v H'->CE outer P w H s Q u s':=λ{σ' H' v u s' Y} e1 e2 e3 e4 e5 e6 J rv q=>by
  refine ⟨v,H',by rw [← e5];exact J.os,J.bare,?_,by rw [← e2,← e3];exact J.hok,rv,q⟩;have:=J.base;rw [e6,e4,e5] at this;rw [← e1];exact this
 have flow:∀ {Y:Cx} {D:Ends},Y.outer=outer->Y.prog=P->Y.w=w->Y.H₀=H->Y.s₀=s->Y.ex=[]->D.rt=Q->(D.bk=λ_ _=>False)->(D.ct=λ_ _=>False)->∀ fl s',(fl≠.next\/∀ σ' H',D.nx σ' H'->Q .non H')->SP Y [] D fl s'->Z fl s':=λ{Y D} e1 e2 e3 e4 e5 e6 q1 q3 q4 fl s' q2 h=>by
  cases fl with
  | ret u =>
   obtain ⟨v,σ',H',J',rv,q'⟩:=h;exact fin e1 e2 e3 e4 e5 e6 J' rv (by rw [← q1];exact q')
  | next =>
   obtain ⟨σ',H',J',q'⟩:=h;exact fin (v:=V.non) (u:=Value.none) e1 e2 e3 e4 e5 e6 J' rfl ((q2.resolve_left λz=>z rfl) _ _ q')
  | brk =>
   obtain ⟨_,_,_,q'⟩:=h;rw [q3] at q';exact q'
  | cont =>
   obtain ⟨_,_,_,q'⟩:=h;rw [q4] at q';exact q'
 have R:wpAny (model P w) (A.deeper (envOfC x (Ac st) s.heap.objs.size f cdv)) (execs (Aj st) (envOfC x (Ac st) s.heap.objs.size f cdv)) Z (λ_ _=>False) s1:=by
  rw [hbd];refine T9 O [] n m.pre J (Px run) (λfl s' hne h=>flow rfl rfl rfl rfl rfl rfl rfl rfl rfl fl s' (.inl hne) h) λs2 σ2 H2 J2 h=>?_
  have Jc:=Z6 (fr:=m.ci.fr) J2;refine CV (thn (Ab0 (X:=(Gq CX0 P w K mg base I.N x (Ac st) f cdv A outer s H E).nox) M hd0 hk0 ha hb hin rfl S.nd rfl rfl (λy c _ e=>J0.ok.cab y c rfl e) ⟨f,_,_,hn,lk,rfl,rfl⟩ [] s2 σ2 H2 _ Jc (Px h)) λfl s3 q=>?_);cases fl with
  | next =>
   obtain ⟨σ3,H3',J3,q3⟩:=q;exact thn ((mV G n).2 O2 m.post [] s3 σ3 H3' _ J3 q3) λfl s' h=>flow rfl rfl rfl rfl rfl rfl rfl rfl rfl fl s' (.inr λ_ _ z=>z) h
  | ret v=>exact flow rfl rfl rfl rfl rfl rfl rfl rfl rfl (.ret v) s3 (.inl (by intro z;cases z)) q
  | brk=>exact flow rfl rfl rfl rfl rfl rfl rfl rfl rfl .brk s3 (.inl (by intro z;cases z)) q
  | cont=>exact flow rfl rfl rfl rfl rfl rfl rfl rfl rfl .cont s3 (.inl (by intro z;cases z)) q
 refine nq R (λfl s' hz=>?_) λe s' h=>False.elim h
 cases fl with
 | ret u=>exact hz
 | next=>exact hz
 | brk=>exact False.elim hz
 | cont=>exact False.elim hz
end
structure LamDef2 (I:FnI) (m:MakL) (st:Stmt):Prop where
 ex:∃ params body pos py p1 cpos spos rp,Aj st=m.pre++.Assign [.Name m.y py] (.Call (.Name m.g p1) (m.a::(m.args++[.Lambda params body m.ci.scope pos])) [] cpos) spos::m.post/\m.ci.body=[.Return (some body) rp]/\(∀ env,defaultsOf params env=([],[])) /\
  ∀ name qual cl pm cdv ctv (us:List Value),us.length=m.ci.ps.length->bindArgs (yh name qual params body m.ci.scope cl pm cdv ctv) ⟨us,[]⟩=pure (m.ci.ps.zip us)
 sc:CloSc m.ci
 fr:m.ci.fr=mY m.ci.scope.names
 cel:∀ x∈m.ci.fr,(Ac st).names.lookup x=some .cell
 gl:glB (Ac st) m.g=true
 gd:(m.g==("__debug__":Str))=false
 st:isStar m.a=false/\(m.args.all λe=>!isStar e)=true
 js:m.js.length=m.ci.fr.length
 at_:∀ (t j:Nat) (x:Str),m.js[t]?=some j->m.ci.fr[t]?=some x->I.N[j]?=some x
section
variable {X:Cx}
theorem uZ {x:Str}{I:FnI}{m:MakL}{st:Stmt}{params:Arguments}{body:Expr}{pos rp:Pos}(M:LamDef2 I m st) (hbd:m.ci.body=[.Return (some body) rp]) (hdf:∀ env,defaultsOf params env=([],[]))
  (hb:∀ name qual cl pm cdv ctv (us:List Value),us.length=m.ci.ps.length->bindArgs (yh name qual params body m.ci.scope cl pm cdv ctv) ⟨us,[]⟩=pure (m.ci.ps.zip us))
  (hin:Om x = "<lambda>") (hN:X.N=I.N) (hsc:X.env.scope=Ac st) (hq:X.env.qual=x ++ ".<locals>.") (hcab:∀ y c,y∈m.ci.fr->X.env.cells.lookup y=some c->X.s₀.heap.objs.size<=c)
  (hX:∃ (f:Addr) (o:Obj) (fd:FuncData),dg X.K mainGlobals x=some (some (.ref f))/\X.K.lookup f=some o/\o.data=.func fd/\X.env.code=fd.code) :
  DE (cap X m.ci.fr) (.Lambda params body m.ci.scope pos) (X8 x m.pl m.js m.ci):=by
 rintro loc mh pins s σ H Q I0 ⟨ρ,d,mh',q,rl,rs,co⟩;unfold X8 at q;split at q
 rotate_left
 ·cases q
 rename_i y h0;split at q
 rotate_left
 ·cases q
 rename_i hy;have hy:=bw hy;subst hy;split at q
 rotate_left
 ·cases q
 rename_i ds el;cases q;obtain ⟨vs,rvs,hvs⟩:=Yl rl el;obtain ⟨ld,_⟩:=J7 el;have lv:vs.length=m.ci.fr.length:=by rw [← rvs.length,ld,M.js]
 have hfr:∀ z∈m.ci.scope.names,z.2=.free->∃ c,X.env.cells.lookup z.1=some c:=λz hz e=>by
  have hz':(z.1,NameKind.free)∈m.ci.scope.names:=by rw [← e];exact hz
  have:z.1∈m.ci.fr:=by
   rw [M.fr,← Gu X.env];exact jc.mpr ⟨_,gm (Je hz'),rfl⟩
  exact I0.ok.has z.1 (.inl (by show X.env.scope.names.lookup z.1=some .cell;rw [hsc];exact M.cel z.1 this))
 have hcl:closureFor m.ci.scope X.env=pure (Bg X.env m.ci.scope.names):=Ei hfr;have hcn:(Bg X.env m.ci.scope.names).map (·.1)=m.ci.fr:=by rw [Gu,M.fr]
 have hce:∀ z∈Bg X.env m.ci.scope.names,X.env.cells.lookup z.1=some z.2:=λz hz=>by
  rcases Gd m.ci.scope.names [] z.1 z.2 hz with h|⟨h1,h2⟩
  ·simp at h
  ·obtain ⟨c,e⟩:=hfr _ h1 rfl;rw [h2,e];rfl
 have hcd:((Bg X.env m.ci.scope.names).map (·.2)).Nodup:=by
  have nd1:((Bg X.env m.ci.scope.names).map (·.1)).Nodup:=by rw [hcn];exact (vh.mp M.sc.nd).2.1
  generalize Bg X.env m.ci.scope.names=L at nd1 hce
  induction L with
  | nil=>simp
  | cons z L ih =>
   rw [dm,jn] at nd1 ⊢;refine ⟨λhm=>?_,ih nd1.2 λz hz=>hce z (cu _ hz)⟩;obtain ⟨z',hz',e⟩:=jc.mp hm;have e1:=hce z dw;have e2:=hce z' (cu _ hz');rw [e] at e2;exact nd1.1 (jc.mpr ⟨z',hz',I0.ok.inj _ _ _ e2 e1⟩)
 obtain ⟨Hz,Iz,ev0,rs0,cells⟩:=Iv (Bg X.env m.ci.scope.names) (vs:=vs) I0 rs (λz hz=>⟨hce z hz,by
   have:z.1∈m.ci.fr:=by rw [← hcn];exact jc.mpr ⟨z,hz,rfl⟩
   show (X.fn z.1&&!(m.ci.fr.contains z.1))=false
   rw [DX.mpr this];simp,hcab z.1 z.2 (by rw [← hcn];exact jc.mpr ⟨z,hz,rfl⟩) (hce z hz)⟩)
  (by rw [lv,← hcn,fu]) λi z v e1 e2=>by
   have e3:m.ci.fr[i]?=some z.1:=by rw [← hcn,gb,e1];rfl
   have hi:i < m.js.length:=by rw [M.js];exact (dh.mp e3).1
   have e4:=gq hi;have e5:=hvs i _ v e4 e2;have e6:=M.at_ i _ z.1 e4 e3;obtain ⟨mm,hns,hlk⟩:=I0.loc;have hm:z.1∈m.ci.fr:=iy e3;obtain ⟨u,ru,lk⟩:=hlk _ z.1 v (by show X.N[_]?=_;rw [hN];exact e6) e5 (.inr (.inl (by show X.env.scope.names.lookup z.1=some .cell;rw [hsc];exact M.cel z.1 hm)));refine ⟨u,ru,?_⟩;rcases lk with ⟨k,_⟩|⟨_,c,ec,hc⟩
   ·have k:X.env.scope.names.lookup z.1=some .local:=k;rw [hsc,M.cel z.1 hm] at k;cases k
   ·have:=hce z (iy e1);rw [show X.env.cells.lookup z.1=some c from ec] at this;cases this;exact hc
 have rvs0:=rvs.mono ev0;obtain ⟨pl,hpl,ro⟩:=rs0.at h0;obtain ⟨tb,ht,tri,cod,pk⟩:=(show Zg X.K Hz y pl from ro);obtain ⟨f,o,fd,c,bm,ob,n1,n2,n3,n4,n5,b1,b2,b3,b4,b5,b6,b7⟩:=id pk;obtain ⟨f',o',fd',m1,m2,m3,m4⟩:=hX;rw [n1] at m1;cases m1;rw [n2] at m2;cases m2;rw [n3] at m3;cases m3;rw [n4] at m4;have hP:s.heap.get? pl=some (jb tb):=Iz.hok pl _ ht;have C:=yx Iz.kIn n5;have hg:s.heap.Ns mainGlobals X.mg:=Iz.mod.glob.keeps Iz.bk;have hgP:mainGlobals≠pl:=λz=>by
  obtain ⟨o,es,ep,e,hd,_⟩:=hg;rw [z,hP] at e;cases e;cases hd
 have hbt:s.heap.BuiltinsAt X.mg pl:=⟨bm,ob,yc Iz.kIn hg b1,b6,b7,(λz=>by
  have e:=Iz.kIn _ _ b2
  rw [z,hP] at e;cases e;cases b3),Iz.kIn _ _ b2,b3,b4,b5⟩
 have hqn:X.env.qual ++ "<lambda>"=Sq y:=by
  rw [hq]
  show _=y ++ ".<locals>."++Om y
  rw [hin]
 have last:∀ {H2:Hp} {s2:Shared} {a:Addr} {ob:Obj} {pm ctv:Value} {c':Addr},Inv (cap X m.ci.fr) pins σ H2 s2->Ev X.K Hz ρ H2 ρ->RS X.K H2 ρ mh->H2 a=some (.frz ob uT)->ob.data=.func (yh "<lambda>" (Sq y) params body m.ci.scope (Bg X.env m.ci.scope.names) pm (.ref c') ctv)->Kq H2 (.ref c') (Sq y) ->
   EP (cap X m.ci.fr) pins σ Q (.ref a) s2:=λ{H2 s2 a ob pm ctv c'} J ev r2 ha hd hcod=>by
  have rc:RD X.K H2 ρ (.clo m.ci ds) (.ref a):=.clo ⟨ob,uT,_,Bg X.env m.ci.scope.names,ha,hd,M.sc,⟨.inr ⟨_,_,params,body,rp,pm,_,ctv,hbd,rfl⟩,λus hu=>hb _ _ _ _ _ _ us hu⟩,hcod,hcn,hcd,cells.mono ev.frz⟩ (rvs0.mono ev);exact ⟨.ref a,H2,J,rfl,co H2 ρ _ (ev0.trans ev) r2 rc⟩
 refine PySem.W.kla_eval (hdf _) ?_
 show wpAny (model X.prog X.w) X.A (makeFunction "<lambda>" (X.env.qual ++ "<lambda>") params (.expr body) m.ci.scope X.env [] [] [] pos pos.line) _ X.xe s;rw [hqn];cases hm:codeAmong pos tb.toList with
 | none =>
  refine KY hcl I0.ok.glob hg m4 C hP tri hm hgP hbt λc' ctv h' tk hx hge hlt hrec htb=>?_
  obtain ⟨c2,oc,ws,tq,e1,e2,e3,e4⟩:=hrec;cases e1;have fc:Hz c'=none:=Iz.hok.fresh hge;have sa:s.heap.objs.size<=h'.objs.size:=zq (HF hge hlt);have fa:Hz h'.objs.size=none:=Iz.hok.fresh sa;have nca:c'≠h'.objs.size:=cj hlt;have npa:h'.objs.size≠pl:=jo (Heap.lt_size htb);have kk:∀ (ob:Obj) b o,b≠pl->s.heap.get? b=some o->(h'.push ob).get? b=some o:=λob b o n e=>ao _ (hx b o n e)
  have rs1:=(rs0.new (o:=.frz oc uT) fc);have t1:upd Hz c' (.frz oc uT) pl=some (.tbl tb):=by rw [Ad (Ae ht fc)];exact ht
  have frz1:∀ a o u,Hz a=some (.frz o u)->upd (upd Hz c' (.frz oc uT)) pl (.tbl (tb++#[rawInt pos.line,rawInt pos.col,.ref c'])) a=some (.frz o u):=λa o u e=>by
   rw [Ad (Fw e ht (by intro z;cases z)),Ad (Ae e fc)];exact e
  have ncp:c'≠pl:=λz=>by subst z;rw [ht] at fc;cases fc
  have cd1:Kq (upd (upd Hz c' (.frz oc uT)) pl (.tbl (tb++#[rawInt pos.line,rawInt pos.col,.ref c']))) (.ref c') (Sq y):=⟨c',oc,uT,ws,tq,rfl,by rw [Ad ncp,Ag],e3,e4⟩
  have rs2:=rs1.tabQ (zs:=tb++#[rawInt pos.line,rawInt pos.col,.ref c']) hpl h0 t1 ⟨_,Ag,by
    simpa using QD pos.line pos.col (.ref c') _ tri,λpos v z=>by
    rcases Ly _ tri (by simpa using z) with z|z
    ·exact (cod pos v z).mono frz1
    ·subst z;exact cd1,pk⟩
  have f2:upd (upd Hz c' (.frz oc uT)) pl (.tbl (tb++#[rawInt pos.line,rawInt pos.col,.ref c'])) h'.objs.size=none:=by rw [Ad npa,Ad (Ne.symm nca)];exact fa
  refine last (c':=c') (Iz.un (Yg ht fc fa hge sa (kk _) (ao _ htb)) (T8 Iz.hok ht fc fa nca (kk _) (ao _ htb) (ao _ e2) (bh _ rfl)))
   (((Ev.new (o:=.frz oc uT) fc).trans (Ev.tab (zs:=tb++#[rawInt pos.line,rawInt pos.col,.ref c']) t1)).trans (Ev.new f2)) (rs2.new f2) Ag rfl (cd1.mono λa o u e=>by unfold H3;rw [Ad (Ae e f2)];exact e)
 | some cv =>
  obtain ⟨c',oc,u,ws,tq,rfl,e2,e3,e4⟩:=cod pos cv hm;refine HJ hcl I0.ok.glob hg m4 C hP tri hm hbt λctv h' tk hk hsz=>?_
  have fa:Hz h'.objs.size=none:=Iz.hok.fresh hsz;refine last (c':=c') (Iz.laid (o:=.frz _ uT) (t':=tk) (λb u e=>ao _ (hk b u e)) hsz ⟨bh _ rfl,trivial,⟨_,bh _ rfl⟩,λ_ _ _ _=>trivial⟩) (Ev.new fa) (rs0.new fa) Ag rfl ⟨c',oc,u,ws,tq,rfl,by rw [Ad (Ae e2 fa)];exact e2,e3,e4⟩
theorem Z7 {G:Gb}{k n:Nat}{sc:SC}(O:XOk X k G sc) {l:Expr}{ml:DM D}(hl:DE X l ml) (sl:isStar l=false):∀ (es:List Expr),(es.all λe=>!isStar e)=true->DA X (es++[l]) (mJ (iE G n sc) ml es)
 | [],_=>Hj hl Ss (Bb sl)
 | a::r,h=>by
  rw [xr,aq] at h;exact Hj ((snd G n).e O a) (Z7 O hl sl r h.2) (Bb (by simpa using h.1))
theorem Ab2 {G:Gb}{k n:Nat}{sc:SC}{x:Str}{m:MakL}(O:XOk X k G sc) {params:Arguments}{body:Expr}{pos py p1 cpos spos:Pos}(hl:DE X (.Lambda params body m.ci.scope pos) (X8 x m.pl m.js m.ci)) (hg:glB sc.scope m.g=true) (hd:(m.g==("__debug__":Str))=false)
  (hs:isStar m.a=false/\(m.args.all λe=>!isStar e)=true):DS X (.Assign [.Name m.y py] (.Call (.Name m.g p1) (m.a::(m.args++[.Lambda params body m.ci.scope pos])) [] cpos) spos) (Abs G n sc x m):=by
 unfold Abs;split
 ·rename_i i ei;split
  ·rename_i ps gf eg;obtain ⟨fa,fd,g1,g2,g3,g4,g5⟩:=O.g.fn _ _ _ eg;have hy:iG sc (.Name m.y py)=some ([i],Bf i):=by show (match iGn sc m.y with | some i=>some ([i],Bf i) | none=>none)=_;rw [ei]
   refine Sx (S5 (E:=E0) g4 O.room (O.gl hg) g1 g2 g3 Kl (Z7 (n:=n) O hl rfl (m.a::m.args) (by rw [xr,hs.1,hs.2];rfl)) g5 hd (Bb hs.1) (Aw (by rw [List.all_append,hs.2];rfl))) (O.target hy) (K6 rfl) (Iu rfl λ_ _ z=>by cases z) rfl
  ·exact Cq
 ·exact Cq
end
section
variable {P:Program}{w:World}{K:aj}{mg:Str->Option Value}{base:Heap}{k:Nat}{G:Gb}
theorem nA {n:Nat}{x:Str}{I:FnI}{m:MakL}{ds:List D}{mh:MH}{r:D×MH}(h:Pq G n x I m ds mh=some r):ds.length=I.ps.length:=by
 unfold Pq at h;split at h
 ·assumption
 ·cases h
theorem Ab3 {x:Str}{st:Stmt}{f:Addr}{fd:FuncData}{I:FnI}{m:MakL}(g:GOk P w K mg base k G) (F:Fun K x x st f fd) (hn:dg K mainGlobals x=some (some (.ref f))) (S:FnScope I.N I.ps (Ac st)) (hs:I.scope=Ac st) (hin:Om x = "<lambda>") (M:LamDef2 I m st) (n:Nat) :
  FnOk P w K mg base CX0 (k+3) f fd I.ps (spD K I.ps.length (Pq G n x I m)):=by
 obtain ⟨⟨oc,od,kV,doc,pm,an,cdv,ct,osl,rfl,lk,hcd⟩,kp⟩:=F;obtain ⟨params,body,pos,py,p1,cpos,spos,rp,hbd,hcb,hdf,hb⟩:=M.ex;refine ⟨λvs H Q E h=>h.1,λA outer s H args us vs Q E hr e0 hbn r hsp=>?_⟩;have hl:=hsp.1;have KX:K.In s.heap:=e0.mod.kin.keeps λb o e=>(e0.bs b o e).1
 have lim:s.heap.NoLimit:=e0.mod.nolimit.keeps λb o e=>(e0.bs b o e).1
 have hkind:∀ y∈I.ps.zip us,(Ac st).names.lookup y.1=some .local\/((Ac st).names.lookup y.1=some .cell/\((cellsFrom (s.heap.objs.size+1) (Ac st).names []).lookup y.1).isSome=true):=by
  rintro ⟨n,v⟩ hy;rcases S.par n (qz hy).1 with q|q
  ·exact .inl q
  ·exact .inr ⟨q,mj _ _ _ (.inl q)⟩
 refine DP hr.depth (KX _ _ lk) rfl S.co S.gen rfl (GX KX hcd) (hbn _ _ _ _ ?_);refine uy S.kind hkind λenv he s1 xx=>?_
 subst he;refine ⟨lim.keeps xx.toInCall.keep,SJ ?_⟩;have J0:Inv (Gq CX0 P w K mg base I.N x (Ac st) f cdv A outer s H E) [] (start I.N vs) H s1:=Jd S hr.hd e0 hl r xx;have J:Inv (Gq CX0 P w K mg base I.N x (Ac st) f cdv A outer s H E).nox [] (start I.N vs) H s1:=J0.wish _;have O:XOk (Gq CX0 P w K mg base I.N x (Ac st) f cdv A outer s H E).nox k G { N:=I.N,scope:=I.scope,own:=λ_=>true }:=⟨rfl,S.nd,hs.symm,λ_ _ _=>.inl rfl,rfl,rfl,hr.deeper _,g⟩
 have O2:XOk (cap (Gq CX0 P w K mg base I.N x (Ac st) f cdv A outer s H E).nox m.ci.fr) k G { N:=I.N,scope:=I.scope,own:=λy=>!(m.ci.fr.contains y) }:=⟨rfl,S.nd,hs.symm,λy hy _=>.inl (by
  have hy:(!(m.ci.fr.contains y))=true:=hy;show (true&&!(m.ci.fr.contains y))=true
  rw [hy];rfl),rfl,rfl,hr.deeper _,g⟩
 obtain ⟨_,ρ,mh,ds,d,mh',q,rs,rd,co⟩:=hsp;have run:tS K (Vy G n x I m) { nx:=λ_ H'=>Q .non H',rt:=Q } (start I.N vs) H:=by
  unfold Pq at q;split at q
  ·split at q
   ·rename_i d' loc' m' e;cases q;exact ⟨_,mh,ρ,.rt d,loc',mh',e,Gm rd,rs,co⟩
   ·rename_i loc' m' e;cases q;exact ⟨_,mh,ρ,.nx,loc',mh',e,Gm rd,rs,λH' ρ' σ' e' rs' _=>co H' ρ' _ e' rs' .non⟩
   ·cases q
  ·cases q
 let Z:Flow->Shared->Prop:=λfl s'=>match fl with
  | .ret u=>CE outer P w H s Q u s'
  | .next=>CE outer P w H s Q .none s'
  | _=>False
 have fin:∀ {σ':L2.St} {H':Hp} {v:V} {u:Value} {s':Shared} {Y:Cx},Y.outer=outer->Y.prog=P->Y.w=w->Y.H₀=H->Y.s₀=s->Y.ex=[]->Inv Y [] σ' H' s'->RelV v u->Q v H'->CE outer P w H s Q u s':=λ{σ' H' v u s' Y} e1 e2 e3 e4 e5 e6 J rv q=>by
  refine ⟨v,H',by rw [← e5];exact J.os,J.bare,?_,by rw [← e2,← e3];exact J.hok,rv,q⟩;have:=J.base;rw [e6,e4,e5] at this;rw [← e1];exact this
 have flow:∀ {Y:Cx} {D:Ends},Y.outer=outer->Y.prog=P->Y.w=w->Y.H₀=H->Y.s₀=s->Y.ex=[]->D.rt=Q->(D.bk=λ_ _=>False)->(D.ct=λ_ _=>False)->∀ fl s',(fl≠.next\/∀ σ' H',D.nx σ' H'->Q .non H')->SP Y [] D fl s'->Z fl s':=λ{Y D} e1 e2 e3 e4 e5 e6 q1 q3 q4 fl s' q2 h=>by
  cases fl with
  | ret u =>
   obtain ⟨v,σ',H',J',rv,q'⟩:=h;exact fin e1 e2 e3 e4 e5 e6 J' rv (by rw [← q1];exact q')
  | next =>
   obtain ⟨σ',H',J',q'⟩:=h;exact fin (v:=V.non) (u:=Value.none) e1 e2 e3 e4 e5 e6 J' rfl ((q2.resolve_left λz=>z rfl) _ _ q')
  | brk =>
   obtain ⟨_,_,_,q'⟩:=h;rw [q3] at q';exact q'
  | cont =>
   obtain ⟨_,_,_,q'⟩:=h;rw [q4] at q';exact q'
 have R:wpAny (model P w) (A.deeper (envOfC x (Ac st) s.heap.objs.size f cdv)) (execs (Aj st) (envOfC x (Ac st) s.heap.objs.size f cdv)) Z (λ_ _=>False) s1:=by
  rw [hbd];refine T9 O [] n m.pre J (Px run) (λfl s' hne h=>flow rfl rfl rfl rfl rfl rfl rfl rfl rfl fl s' (.inl hne) h) λs2 σ2 H2 J2 h=>?_
  have Jc:=Z6 (fr:=m.ci.fr) J2;refine CV (thn (Ab2 O2 (uZ (X:=(Gq CX0 P w K mg base I.N x (Ac st) f cdv A outer s H E).nox) M hcb hdf hb hin rfl rfl rfl (λy c _ e=>J0.ok.cab y c rfl e) ⟨f,_,_,hn,lk,rfl,rfl⟩) (by rw [hs];exact M.gl) M.gd M.st [] s2 σ2 H2 _ Jc (Px h)) λfl s3 q=>?_);cases fl with
  | next =>
   obtain ⟨σ3,H3',J3,q3⟩:=q;exact thn ((mV G n).2 O2 m.post [] s3 σ3 H3' _ J3 q3) λfl s' h=>flow rfl rfl rfl rfl rfl rfl rfl rfl rfl fl s' (.inr λ_ _ z=>z) h
  | ret v=>exact flow rfl rfl rfl rfl rfl rfl rfl rfl rfl (.ret v) s3 (.inl (by intro z;cases z)) q
  | brk=>exact flow rfl rfl rfl rfl rfl rfl rfl rfl rfl .brk s3 (.inl (by intro z;cases z)) q
  | cont=>exact flow rfl rfl rfl rfl rfl rfl rfl rfl rfl .cont s3 (.inl (by intro z;cases z)) q
 refine nq R (λfl s' hz=>?_) λe s' h=>False.elim h
 cases fl with
 | ret u=>exact hz
 | next=>exact hz
 | brk=>exact False.elim hz
 | cont=>exact False.elim hz
end
noncomputable def Aep (K:aj) (mg:Str->Option Value) (x:Str) (I:FnI):Prop:=∃ (qual:Str) (st:Stmt) (f:Addr) (fd:FuncData),mg x=some (.ref f)/\Fun K qual qual st f fd/\FnScope I.N I.ps (Ac st)/\I.scope=Ac st/\I.body=Aj st/\∀ us:List Value,us.length=I.ps.length->bindArgs fd ⟨us,[]⟩=pure (I.ps.zip us)
noncomputable def nC (K:aj) (mg:Str->Option Value) (x:Str) (d:D):Prop:=∃ u v,mg x=some u/\RelV v u/\∀ H ρ,RD K H ρ d v
structure TbOk (w:World) (K:aj) (mg:Str->Option Value) (T:Tb):Prop where
 fn:∀ x I,T.tb x=some I->∃ (qual:Str) (st:Stmt) (f:Addr) (fd:FuncData),mg x=some (.ref f)/\Fun K qual qual st f fd/\FnScope I.N I.ps (Ac st)/\I.scope=Ac st/\I.body=Aj st/\∀ us:List Value,us.length=I.ps.length->bindArgs fd ⟨us,[]⟩=pure (I.ps.zip us)
 con:∀ x d,T.con x=some d->∃ u v,mg x=some u/\RelV v u/\∀ H ρ,RD K H ρ d v
 blt:∀ b∈G8,mg b=none
 dic:∀ x kvs,T.dic x=some kvs->∃ a,mg x=some (.ref a)/\DicOk w K a kvs
 fld:∀ c f,T.fld c f=true->∃ C,dg K mainGlobals c=some (some (.ref C))/\Cls K C/\Ck K C f
 met:∀ c m I,T.tbm c m=some I->∃ (qual:Str) (st:Stmt) (C f:Addr) (fd:FuncData),dg K mainGlobals c=some (some (.ref C))/\Cls K C/\Meth K C m f/\Fun K m qual st f fd/\FnScope I.N I.ps (Ac st)/\I.scope=Ac st/\I.body=Aj st/\∀ us:List Value,us.length=I.ps.length->bindArgs fd ⟨us,[]⟩=pure (I.ps.zip us)
 mkr:∀ c f,T.mkr c=some f->∃ C fa fd ps,dg K mainGlobals c=some (some (.ref C))/\Mk K C fa/\mg c=some (.ref C)/\Binds K fd ps []/\∀ (P:Program) (w:World) (base:Heap),FnOk P w K mg base CX0 1 fa fd ps (spN C f)
 lam:∀ x y,T.lam x=some y->x = "pattern_of"/\∀ I,T.tb x=some I->∃ (st:Stmt) (f:Addr) (fd:FuncData) (a:Str),mg x=some (.ref f)/\Fun K x x st f fd/\dg K mainGlobals x=some (some (.ref f))/\I.ps=[a]/\FnScope I.N [a] (Ac st)/\mU st a y/\∀ us:List Value,us.length=I.ps.length->bindArgs fd ⟨us,[]⟩=pure (I.ps.zip us)
 mak:∀ x m,T.mak x=some m->∀ I,T.tb x=some I->∃ (st:Stmt) (f:Addr) (fd:FuncData),mg x=some (.ref f)/\Fun K x x st f fd/\dg K mainGlobals x=some (some (.ref f))/\FnScope I.N I.ps (Ac st)/\I.scope=Ac st/\Om x = "_law_pick"/\MakDef I m st/\∀ us:List Value,us.length=I.ps.length->bindArgs fd ⟨us,[]⟩=pure (I.ps.zip us)
 mal:∀ x m,T.mal x=some m->∀ I,T.tb x=some I->∃ (st:Stmt) (f:Addr) (fd:FuncData),mg x=some (.ref f)/\Fun K x x st f fd/\dg K mainGlobals x=some (some (.ref f))/\FnScope I.N I.ps (Ac st)/\I.scope=Ac st/\Om x = "<lambda>"/\LamDef2 I m st/\∀ us:List Value,us.length=I.ps.length->bindArgs fd ⟨us,[]⟩=pure (I.ps.zip us)
 mk0:∀ c f,T.mk0 c=some f->∃ C fa fd ps,dg K mainGlobals c=some (some (.ref C))/\Mk K C fa/\mg c=some (.ref C)/\Binds K fd ps []/\∀ (P:Program) (w:World) (base:Heap),FnOk P w K mg base CX0 1 fa fd ps (uP C f)
theorem gok {P:Program}{w:World}{K:aj}{mg:Str->Option Value}{base:Heap}{T:Tb}(O:TbOk w K mg T) (k:Nat):GOk P w K mg base k (GkN T k):=by
 induction k with
 | zero=>exact ⟨λx ps f h=>(by cases h),O.con,O.blt,O.dic,O.fld,λc m ps g h=>(by cases h),λc f h=>by
   obtain ⟨C,fa,fd,ps,h1,h2,h3,h4,h5⟩:=O.mkr c f h;exact ⟨C,fa,fd,ps,h1,h2,h3,h4,h5 _ _ _⟩,lO,λc f h=>by
   obtain ⟨C,fa,fd,ps,h1,h2,h3,h4,h5⟩:=O.mk0 c f h
   exact ⟨C,fa,fd,ps,h1,h2,h3,h4,h5 _ _ _⟩⟩
 | succ k ih =>
  refine ⟨λx ps f h=>?_,O.con,O.blt,O.dic,O.fld,λc m ps g h=>?_,λc f h=>by
   obtain ⟨C,fa,fd,ps,h1,h2,h3,h4,h5⟩:=O.mkr c f h;exact ⟨C,fa,fd,ps,h1,h2,h3,h4,h5 _ _ _⟩,⟨λI a fd cl h1 h2=>Aby ih h1 h2 fuel,λI fs ds mh r h=>dY h⟩,λc f h=>by
   obtain ⟨C,fa,fd,ps,h1,h2,h3,h4,h5⟩:=O.mk0 c f h
   exact ⟨C,fa,fd,ps,h1,h2,h3,h4,h5 _ _ _⟩⟩
  ·simp only [GkN] at h;split at h
   ·rename_i I eI;cases h;obtain ⟨qual,st,fa,fd,h1,h2,h3,h4,h5,h6⟩:=O.fn x I eI;cases el:T.mal x with
    | some m =>
     have e:∀ g,V1 T (GkN T k) x I g=Pq (GkN T k) fuel x I m:=λg=>by unfold V1;rw [el]
     rw [e];obtain ⟨st,f',fd',l1,l2,l3,l4,l5,l6,l7,l8⟩:=O.mal x m el I eI;exact ⟨f',fd',l1,l2.kp,.all l8,Ab3 ih l2 l3 l4 l5 l6 l7 fuel,λds mh r hr=>nA hr⟩
    | none =>
    have e1:∀ g,V1 T (GkN T k) x I g=g:=λg=>by unfold V1;rw [el]
    rw [e1];cases em:T.mak x with
    | some m =>
     have e:∀ g,V0 T (GkN T k) x I g=dR (GkN T k) fuel x I m:=λg=>by unfold V0;rw [em]
     rw [e];obtain ⟨st,f',fd',l1,l2,l3,l4,l5,l6,l7,l8⟩:=O.mak x m em I eI;exact ⟨f',fd',l1,l2.kp,.all l8,Ab1 ih l2 l3 l4 l5 l6 l7 fuel,λds mh r hr=>mZ hr⟩
    | none =>
    have e0:∀ g,V0 T (GkN T k) x I g=g:=λg=>by unfold V0;rw [em]
    rw [e0];cases ey:T.lam x with
    | some y =>
     have e:Vz T (GkN T k) x (Ai (GkN T k) fuel I)=lamF (GkN T k) y:=by unfold Vz;rw [ey]
     rw [e];obtain ⟨rfl,z⟩:=O.lam x y ey;obtain ⟨st,f',fd',a,l1,l2,l3,l4,l5,l6,l7⟩:=z I eI;refine ⟨f',fd',l1,l2.kp,.all l7,?_,λds mh r hr=>?_⟩
     ·rw [l4];exact Abv ih l2 l3 l5 l6
     ·rw [l4];unfold lamF at hr;split at hr
      ·rfl
      ·cases hr
    | none =>
     have e:Vz T (GkN T k) x (Ai (GkN T k) fuel I)=Ai (GkN T k) fuel I:=by unfold Vz;rw [ey]
     rw [e];exact ⟨fa,fd,h1,h2.kp,.all h6,mW ih h2 h3 h4 h5 fuel,λds mh r hr=>V6 hr⟩
   ·cases h
  ·simp only [GkN] at h;split at h
   ·rename_i I eI;cases h;obtain ⟨qual,st,C,fa,fd,g1,g2,g3,h2,h3,h4,h5,h6⟩:=O.met c m I eI;exact ⟨C,fa,fd,g1,g2,g3,.all h6,mW ih h2 h3 h4 h5 fuel,λds mh r hr=>V6 hr⟩
   ·cases h
noncomputable def Bc (st:Stmt):FnI :=
  { ps:=(Av st).args.map (·.arg),
    N:=(Av st).args.map (·.arg)++(((Ac st).names.filter λp=>(match p.2 with | .local=>true | .cell=>true | _=>false)).map (·.1)).filter (λx=>!((Av st).args.map (·.arg)).contains x),
    scope:=Ac st,body:=Aj st }
end DL
namespace DL
open PySem L2
noncomputable def vr (i:Nat):DM D:=λloc mh=>match loc[i]? with | some (some d)=>some (d,mh) | _=>none
noncomputable abbrev dZ:=iop (λ_ _=>true) λi j=>i - j
noncomputable abbrev nD:=Zz (Rn (iop Vv λi j=>i * j))
noncomputable abbrev V8:=iop (λ_ j=>decide (j≠0)&&decide (j.natAbs < 10889035741470030830827987437816582766592)) λi j=>i.fdiv j
noncomputable abbrev V9:=iop (λ_ j=>decide (j≠0)) λi j=>i.fmod j
noncomputable abbrev Ab4:=iop (λi j=>decide (0<=j)&&(decide (j<=1000000)&&decide (i.natAbs < 2 ^ 64))) λi j=>i ^ j.toNat
noncomputable abbrev ltD:=Qh λi j=>decide (i < j)
noncomputable abbrev leD:=Qh λi j=>decide (i<=j)
noncomputable abbrev gtD:=Qh λi j=>decide (j < i)
noncomputable abbrev geD:=Qh λi j=>decide (j<=i)
noncomputable def Aeq (m:DM D):DM D:=m.bnd λx=>Zl (Aa2 x)
noncomputable def Aer (m:DM D):DM D:=(Am m).bnd λc=>Zr (.bl (!c))
noncomputable def Dk (mr:DM (List D)):DM D:=mr.bnd λds=>Zl (Qx ds)
noncomputable def lstM (mr:DM (List D)):DM D:=mr.bnd λds=>Zl (Qy ds)
noncomputable def Ao (f:Fn) (mr:DM (List D)):DM D:=mr.bnd λds=>Zl (f ds)
noncomputable def eE (T:String) (m:DM D):DM D:=m.bnd λx=>Zl (jF T x)
theorem ln0 {f:List Value->Prop}(h:f []) (us:List Value) (e:us.length=0):f us:=by
 cases us with
 | nil=>exact h
 | cons _ _=>cases e
theorem ln1 {f:List Value->Prop}(h:∀ a,f [a]) (us:List Value) (e:us.length=1):f us:=by
 cases us with
 | nil=>cases e
 | cons a r=>exact ln0 (f:=λr=>f (a::r)) (h a) r (Nat.succ.inj e)
theorem ln2 {f:List Value->Prop}(h:∀ a b,f [a,b]) (us:List Value) (e:us.length=2):f us:=by
 cases us with
 | nil=>cases e
 | cons a r=>exact ln1 (f:=λr=>f (a::r)) (h a) r (Nat.succ.inj e)
theorem ln3 {f:List Value->Prop}(h:∀ a b c,f [a,b,c]) (us:List Value) (e:us.length=3):f us:=by
 cases us with
 | nil=>cases e
 | cons a r=>exact ln2 (f:=λr=>f (a::r)) (h a) r (Nat.succ.inj e)
theorem ln4 {f:List Value->Prop}(h:∀ a b c d,f [a,b,c,d]) (us:List Value) (e:us.length=4):f us:=by
 cases us with
 | nil=>cases e
 | cons a r=>exact ln3 (f:=λr=>f (a::r)) (h a) r (Nat.succ.inj e)
theorem ln5 {f:List Value->Prop}(h:∀ a b c d e,f [a,b,c,d,e]) (us:List Value) (e:us.length=5):f us:=by
 cases us with
 | nil=>cases e
 | cons a r=>exact ln4 (f:=λr=>f (a::r)) (h a) r (Nat.succ.inj e)
theorem ln6 {f:List Value->Prop}(h:∀ a b c d e g,f [a,b,c,d,e,g]) (us:List Value) (e:us.length=6):f us:=by
 cases us with
 | nil=>cases e
 | cons a r=>exact ln5 (f:=λr=>f (a::r)) (h a) r (Nat.succ.inj e)
theorem nF {q:Program}{loose:List Str}{XP:(Str->Option Value)->Heap->Prop}{K:Params->aj}{as:List Addr}{n t:Nat}{r:PySem.W.RowW}{d:DefRec}{kwd:List (Str×Expr)}{run:Value->List Value->Sem Value}
  (e:∀ P,as=(K P).map (·.1)) (h:PySem.W.WalkO q loose XP (λw h=>(K w.params).In h) r d kwd run):PySem.W.WalkX q loose XP (PySem.W.X.obsZ as) (PySem.W.X.valZ K n t) r d kwd run :=
 λw s₀ s₁ mg mb G y a o pm cd doc dV kV h1 h2 h3 h4 h5 h6 args vals as' L hpre hlay hrd hwl hlo =>
  h w s₀ s₁ mg mb G (PySem.W.InK.keeps w s₀.heap s₁.heap (PySem.W.X.z_facts e y).2.1 L.keeps) a o pm cd doc dV kV h1 h2 h3 h4 h5 h6 args vals as' hpre hlay hrd hwl hlo
noncomputable def dnm:Stmt->Str
 | .FunctionDef n _ _ _ _ _ _ _ _ _=>n
 | _=>Str.empty
noncomputable def Ju (K:aj):List (Str×Stmt)->Prop
 | []=>True
 | r::L=>(∃ (f:Addr) (fd:FuncData),dg K mainGlobals r.1=some (some (.ref f))/\Fun K (dnm r.2) (dnm r.2) r.2 f fd)/\Ju K L
theorem nG {K:aj}{x n:Str}{st:Stmt}{L:List (Str×Stmt)}{f:Addr}{oc:Value}{od an:Option Addr}{osl:Array (Option Value)}{kV doc pm cdv ct:Value}(a:dg K mainGlobals x=some (some (.ref f)))
  (l:K.lookup f=some ⟨oc,od,.func (wj n n (Av st) (Aj st) (Ac st) .none kV doc pm an cdv ct),osl⟩)
  (c:vy K cdv n=true) (k:iw K (.ref f)=true) (hn:dnm st=n) (q:Ju K L):Ju K ((x,st)::L):=by
 subst hn;exact ⟨⟨f,_,a,Jz l c k⟩,q⟩
noncomputable def Aes (x:Str) (st:Stmt):Prop:=FnScope (Bc st).N (Bc st).ps (Ac st)/\∀ (kV doc pm:Value) (an:Option Addr) (cdv ct:Value) (us:List Value),us.length=(Bc st).ps.length->bindArgs (wj x x (Av st) (Aj st) (Ac st) .none kV doc pm an cdv ct) ⟨us,[]⟩=pure ((Bc st).ps.zip us)
theorem Al {x:Str}{st:Stmt}(s:FnScope (Bc st).N (Bc st).ps (Ac st)) (b:∀ (kV doc pm:Value) (an:Option Addr) (cdv ct:Value) (us:List Value),us.length=(Bc st).ps.length->bindArgs (wj x x (Av st) (Aj st) (Ac st) .none kV doc pm an cdv ct) ⟨us,[]⟩=pure ((Bc st).ps.zip us)):Aes x st:=⟨s,b⟩
noncomputable def Z8:List (Str×Stmt)->Prop
 | []=>True
 | r::L=>Aes (dnm r.2) r.2/\Z8 L
theorem Z9 {K:aj}{h:Heap}{mg:Str->Option Value}(X:K.In h) (G:h.Ns mainGlobals mg) {x:Str}{I:FnI}:∀ {L:List (Str×Stmt)},Ju K L->Z8 L->(L.lookup x).map Bc=some I->Aep K mg x I
 | [],_,_,e=>by cases e
 | (y,st)::L,⟨⟨f,fd,a,F⟩,q⟩,⟨s,t⟩,e=>by
  simp only [qe] at e;split at e
  ·rename_i hy;rw [bw hy];cases e;refine ⟨dnm st,st,f,fd,yc X G a,F,s.1,rfl,rfl,λus hu=>?_⟩;obtain ⟨oc,od,kV,doc,pm,an,cdv,ct,osl,rfl,_⟩:=F.ex;exact s.2 kV doc pm an cdv ct us hu
  ·exact Z9 X G q t e
noncomputable def K7 (K:aj):List (Str×D)->Prop
 | []=>True
 | r::L=>(∃ u,dg K mainGlobals r.1=some (some u)/\rdV K 60 u=some r.2)/\K7 K L
theorem nH {K:aj}{x:Str}{d:D}{L:List (Str×D)}{u:Value}(a:dg K mainGlobals x=some (some u)) (b:rdV K 60 u=some d) (q:K7 K L):K7 K ((x,d)::L):=⟨⟨u,a,b⟩,q⟩
theorem Wa {K:aj}{h:Heap}{mg:Str->Option Value}(X:K.In h) (G:h.Ns mainGlobals mg) {x:Str}{d:D}:∀ {L:List (Str×D)},K7 K L->L.lookup x=some d->nC K mg x d
 | [],_,e=>by cases e
 | (y,d')::L,⟨⟨u,a,b⟩,q⟩,e=>by
  simp only [qe] at e;split at e
  ·rename_i hy;rw [bw hy];cases e;obtain ⟨v,r1,r2⟩:=Xl 60 b;exact ⟨u,v,yc X G a,r1,r2⟩
  ·exact Wa X G q e
noncomputable def K8 (K:aj):List Str->Prop
 | []=>True
 | b::L=>dg K mainGlobals b=some none/\K8 K L
theorem nJ {K:aj}{b:Str}{L:List Str}(a:dg K mainGlobals b=some none) (q:K8 K L):K8 K (b::L):=⟨a,q⟩
theorem Wb {K:aj}{h:Heap}{mg:Str->Option Value}(X:K.In h) (G:h.Ns mainGlobals mg):∀ {L:List Str},K8 K L->∀ b∈L,mg b=none
 | _::_,⟨a,_⟩,_,.head _=>PySem.W.mg_none_of X G a
 | _::_,⟨_,q⟩,b,.tail _ m=>Wb X G q b m
end DL
namespace L2
open PySem PySem.Spec PyProof.Rows
end L2
namespace DL
open PySem L2
noncomputable def cut (pl:Addr) (K:aj):aj:=K.filter λq=>q.1 != pl
theorem Eb {pl a:Addr}:∀ {K:aj},(cut pl K).lookup a=if a=pl then none else K.lookup a
 | []=>by unfold cut;simp
 | (b,o)::K=>by
  have ih:=Eb (pl:=pl) (a:=a) (K:=K);unfold cut at ih ⊢;rw [List.filter_cons]
  by_cases hb:b=pl
  ·subst hb;rw [if_neg (by simp),ih]
   by_cases ha:a=b
   ·rw [if_pos ha,if_pos ha]
   ·rw [if_neg ha,if_neg ha,iz];have:(a==b)=false:=by simpa using ha
    rw [this]
  ·rw [if_pos (by simpa using hb),iz,iz]
   by_cases ha:a=b
   ·subst ha;simp [hb]
   ·have:(a==b)=false:=by simpa using ha
    rw [this];exact ih
section
variable {pl:Addr}{K:aj}(hp:K.lookup pl=some (jb #[]))
theorem Ua {h:Heap}(X:K.In h):(cut pl K).In h:=λa o e=>by
 rw [Eb] at e;split at e
 ·cases e
 ·exact X a o e
include hp
theorem Bo {a:Addr}{o:Obj}(e:K.lookup a=some o) (n:o.data≠.fields #[]):(cut pl K).lookup a=some o:=by
 rw [Eb,if_neg,e];intro z;subst z;rw [hp] at e;cases e;exact n rfl
theorem Dl {x:Str}{r:Option Value}(e:dg K mainGlobals x=some r):dg (cut pl K) mainGlobals x=some r:=by
 unfold dg at e ⊢;split at e
 ·rename_i hk;rw [Bo hp hk (by intro z;cases z)];exact e
 ·cases e
theorem Gn {v:Value}{q:Str}(e:vy K v q=true):vy (cut pl K) v q=true:=by
 unfold vy at e ⊢;split at e
 ·split at e
  ·rename_i vs _ hk;rw [Bo hp hk (by intro z;injection z with z;subst z;simp at e)];exact e
  ·cases e
 ·cases e
theorem Py {c a:Addr}(e:wu K c a=true):wu (cut pl K) c a=true:=by
 unfold wu at e ⊢;split at e
 ·rename_i vs _ hk;rw [Bo hp hk (by intro z;injection z with z;subst z;simp at e)];exact e
 ·cases e
theorem vA {x q:Str}{st:Stmt}{f:Addr}{fd:FuncData}(F:Fun K x q st f fd):Fun (cut pl K) x q st f fd:=by
 obtain ⟨⟨oc,od,kV,doc,pm,an,cdv,ct,osl,e,lk,hcd⟩,kp⟩:=F;have l2:=Bo hp lk (by intro z;cases z);refine ⟨⟨oc,od,kV,doc,pm,an,cdv,ct,osl,e,l2,Gn hp hcd⟩,?_⟩;unfold iw;simp only [l2]
theorem aA:∀ {L:List (Str×Stmt)},Ju K L->Ju (cut pl K) L
 | [],_=>trivial
 | _::_,⟨⟨f,fd,a,F⟩,q⟩=>⟨⟨f,fd,Dl hp a,vA hp F⟩,aA q⟩
theorem aB:∀ {L:List Str},K8 K L->K8 (cut pl K) L
 | [],_=>trivial
 | _::_,⟨a,q⟩=>⟨Dl hp a,aB q⟩
mutual
theorem Ub:∀ (n:Nat) {u:Value}{d:D},rdV K n u=some d->rdV (cut pl K) n u=some d
 | n,.none,d,h=>by cases n <;> (simp only [rdV] at h ⊢;exact h)
 | n,.bool b,d,h=>by cases n <;> (simp only [rdV] at h ⊢;exact h)
 | n,.int i t,d,h=>by cases n <;> (simp only [rdV] at h ⊢;exact h)
 | n,.str x t,d,h=>by cases n <;> (simp only [rdV] at h ⊢;exact h)
 | 0,.ref a,d,h=>by simp only [rdV] at h;cases h
 | n+1,.ref a,d,h=>by
  simp only [rdV] at h ⊢;split at h
  ·rename_i c its ep sl hk;rw [Bo hp hk (by intro z;cases z)];dsimp only;split at h
   ·rename_i hc;rw [if_pos hc];split at h
    ·rename_i ds hd;rw [Wc n hd];exact h
    ·cases h
   ·cases h
  ·cases h
 | n,.float _ _,d,h=>by cases n <;> (simp only [rdV] at h;cases h)
 | n,.bytes _ _,d,h=>by cases n <;> (simp only [rdV] at h;cases h)
 | n,.ellipsis,d,h=>by cases n <;> (simp only [rdV] at h;cases h)
 | n,.notImplemented,d,h=>by cases n <;> (simp only [rdV] at h;cases h)
 | n,.type _,d,h=>by cases n <;> (simp only [rdV] at h;cases h)
 | n,.builtin _,d,h=>by cases n <;> (simp only [rdV] at h;cases h)
theorem Wc:∀ (n:Nat) {us:List Value}{ds:List D},O1 K n us=some ds->O1 (cut pl K) n us=some ds
 | n,[],ds,h=>by cases n <;> (simp only [O1] at h ⊢;exact h)
 | 0,_::_,ds,h=>by simp only [O1] at h;cases h
 | n+1,u::r,ds,h=>by
  simp only [O1] at h ⊢;split at h
  ·rename_i d hd;rw [Ub n hd];dsimp only;split at h
   ·rename_i ds2 hd2;rw [Wc n hd2];exact h
   ·cases h
  ·cases h
end
theorem aC:∀ {L:List (Str×D)},K7 K L->K7 (cut pl K) L
 | [],_=>trivial
 | _::_,⟨⟨u,a,b⟩,q⟩=>⟨⟨u,Dl hp a,Ub hp 60 b⟩,aC q⟩
end
theorem nM {names:List (Str×NameKind)}{x:Str}(h:(x,NameKind.free)∈names):x∈mY names:=by
 have go:∀ (names:List (Str×NameKind)) (acc:List Str),(x∈acc\/(x,NameKind.free)∈names)->x∈names.foldl (λc x=>if x.2==.free then x.1::c else c) acc:=by
  intro names
  induction names with
  | nil=>exact λacc h=>h.elim id λz=>by simp at z
  | cons y r ih =>
   intro acc h;refine ih _ ?_;rcases h with h|h
   ·left;show x∈(if (y.2==.free)=true then y.1::acc else acc);split
    ·exact cu _ h
    ·exact h
   ·rcases gn.mp h with h|h
    ·left;subst h;show x∈(if (NameKind.free==.free)=true then x::acc else acc);rw [if_pos (by decide)];exact dw
    ·exact .inr h
 exact go names [] (.inr h)
theorem Ab5 {N fr:List Str}{js:List Nat}(h:((js.zip fr).all λp=>N[p.1]?==some p.2)=true):∀ (t j:Nat) (x:Str),js[t]?=some j->fr[t]?=some x->N[j]?=some x:=λt j x h1 h2=>by
 have:=DK.mp h (j,x) (iy (i:=t) (by rw [JL];exact ⟨h1,h2⟩));exact bw this
noncomputable def lamOf:Expr->CloI
 | .Lambda ps body sc p=>{ ps:=ps.args.map (·.arg),N:=ps.args.map (·.arg),fr:=mY sc.names,scope:=sc,body:=[.Return (some body) p] }
 | _=>{ ps:=[],N:=[],fr:=[],scope:=Ac (.Pass ⟨0,0,0,0⟩),body:=[] }
noncomputable def callArgs:Stmt->List Expr
 | .Assign _ (.Call _ es _ _) _=>es
 | _=>[]
noncomputable def Ab6 (st:Stmt) (j pl:Nat) (y g:Str):MakL :=
  { pre:=(Aj st).take j,y:=y,pl:=pl,js:=(lamOf ((callArgs ((Aj st).getD j (.Pass ⟨0,0,0,0⟩))).getLastD (.Constant .none 0 ⟨0,0,0,0⟩))).fr.map λx=>(Bc st).N.idxOf x,
    ci:=lamOf ((callArgs ((Aj st).getD j (.Pass ⟨0,0,0,0⟩))).getLastD (.Constant .none 0 ⟨0,0,0,0⟩)),g:=g,a:=(callArgs ((Aj st).getD j (.Pass ⟨0,0,0,0⟩))).headD (.Constant .none 0 ⟨0,0,0,0⟩),
    args:=(callArgs ((Aj st).getD j (.Pass ⟨0,0,0,0⟩))).tail.dropLast,post:=(Aj st).drop (j+1) }
theorem aD {K:aj}{h:Heap}{mg:Str->Option Value}(X:K.In h) (G:h.Ns mainGlobals mg) {x:Str}{st:Stmt}{I:FnI}{m:MakL}(D:LamDef2 (Bc st) m st) (hin:Om x = "<lambda>") (hdn:dnm st=x):∀ {L:List (Str×Stmt)},Ju K L->Z8 L->L.lookup x=some st->(L.lookup x).map Bc=some I ->
  ∃ (st:Stmt) (f:Addr) (fd:FuncData),mg x=some (.ref f)/\Fun K x x st f fd/\dg K mainGlobals x=some (some (.ref f))/\FnScope I.N I.ps (Ac st)/\I.scope=Ac st/\Om x = "<lambda>"/\LamDef2 I m st/\∀ us:List Value,us.length=I.ps.length->bindArgs fd ⟨us,[]⟩=pure (I.ps.zip us)
 | [],_,_,e,_=>by cases e
 | (z,st')::L,⟨⟨f,fd,n,F⟩,q⟩,⟨s,t⟩,e,e2=>by
  simp only [qe] at e e2;split at e
  ·rename_i hy;have hz:=bw hy;subst hz;cases e;simp only [hy] at e2;cases e2;rw [hdn] at F;refine ⟨st,f,fd,yc X G n,F,n,s.1,rfl,hin,D,λus hu=>?_⟩;obtain ⟨oc,od,kV,doc,pm,an,cdv,ct,osl,rfl,_⟩:=F.ex;have:=s.2;rw [hdn] at this;exact this kV doc pm an cdv ct us hu
  ·rename_i hy;simp only [hy] at e2;exact aD X G D hin hdn q t e e2
theorem Uc {K:aj}{a:Addr}:PySem.W.typeIn K (.ref a)=(K.lookup a).map (·.cls):=rfl
section
variable {pl:Addr}{K:aj}(hp:K.lookup pl=some (jb #[]))
include hp
theorem Iw (a:Addr):(cut pl K).lookup a=K.lookup a\/((cut pl K).lookup a=none/\K.lookup a=some (jb #[])):=by
 rw [Eb];split
 ·rename_i e;exact .inr ⟨rfl,by rw [e];exact hp⟩
 ·exact .inl rfl
theorem vB (a:Addr) (x:Str):dg (cut pl K) a x=dg K a x:=by
 unfold dg;rcases Iw hp a with e|⟨e1,e2⟩
 ·rw [e]
 ·rw [e1,e2]
theorem vC (x:Str) (v:Value):QW (cut pl K) x v=QW K x v:=by
 unfold QW;cases v with
 | ref a =>
  dsimp only;rcases Iw hp a with e|⟨e1,e2⟩
  ·rw [e];split
   ·exact vB hp _ _
   ·rfl
  ·rw [e1,e2]
 | _=>rfl
theorem Rp (x:Str):∀ l:List Value,MP (cut pl K) x l=MP K x l
 | []=>rfl
 | c::r=>by
  unfold MP;rw [vC hp,Rp x r]
theorem Bj (t:Value) (x:Str):kh (cut pl K) t x=kh K t x:=by
 unfold kh;cases t with
 | ref a =>
  dsimp only;rcases Iw hp a with e|⟨e1,e2⟩
  ·rw [e];split
   ·exact Rp hp _ _
   ·rfl
  ·rw [e1,e2]
 | _=>rfl
theorem Ud (C:Addr):QX (cut pl K) C=QX K C:=by
 unfold QX;rcases Iw hp C with e|⟨e1,e2⟩
 ·rw [e]
 ·rw [e1,e2]
theorem nO (C:Addr) (x:Str):uc (cut pl K) C x=uc K C x:=by
 unfold uc;rw [Bj hp,Bj hp]
theorem nP (C:Addr):vg (cut pl K) C=vg K C:=by
 unfold vg;rw [Ud hp]
theorem nQ (C:Addr):yg (cut pl K) C=yg K C:=by
 unfold yg;rw [Ud hp]
theorem Lz {a:Addr}(h:zu K (.ref a)=true):zu (cut pl K) (.ref a)=true:=by
 unfold zu at h ⊢;rw [Uc] at h ⊢;rcases Iw hp a with e|⟨e1,e2⟩
 ·rw [e];exact h
 ·rw [e2] at h;simp [jb] at h
theorem Nb {a:Addr}{x:Str}{r:Option Value}(n:∃ oc od cd sl,K.lookup a=some ⟨oc,od,.cls cd,sl⟩) (h:JD K (.ref a) x=some r):JD (cut pl K) (.ref a) x=some r:=by
 obtain ⟨oc,od,cd,sl,n⟩:=n;unfold JD at h ⊢;rw [Uc] at h ⊢;rcases Iw hp a with e|⟨e1,e2⟩
 ·rw [e];rw [n,ou,Option.bind_some] at h ⊢;rw [Bj hp];exact h
 ·rw [n] at e2;cases e2
theorem En {a:Addr}(h:iw K (.ref a)=true):iw (cut pl K) (.ref a)=true:=by
 unfold iw at h ⊢;dsimp only at h ⊢;rcases Iw hp a with e|⟨e1,e2⟩
 ·rw [e];split at h
  ·rename_i hk
   first | rfl | (rw [hk])
  ·rename_i hk
   try rw [hk]
   try dsimp only
   rw [beq_iff_eq] at h ⊢;exact Nb hp ⟨_,_,_,_,hk⟩ h
  ·cases h
 ·rw [e2] at h;cases h
theorem Rq {C:Addr}(h:zc K C=true):zc (cut pl K) C=true:=by
 unfold zc at h ⊢;rcases Iw hp C with e|⟨e1,e2⟩
 ·rw [e];split at h
  ·rename_i cd sl hk
   try rw [hk]
   try dsimp only
   simp only [aq,beq_iff_eq] at h ⊢;refine ⟨⟨h.1.1,Nb hp ⟨_,_,_,_,hk⟩ h.1.2⟩,?_⟩;have h2:=h.2;unfold PySem.W.instIn at h2 ⊢;rw [Uc] at h2 ⊢;rw [e];rw [hk,ou,Option.bind_some] at h2 ⊢;unfold PySem.W.subIn at h2 ⊢;split at h2
   ·exact h2
   ·unfold PySem.W.mroIn at h2 ⊢;rw [Ud hp];exact h2
   ·exact h2
  ·cases h
 ·rw [e2] at h;cases h
end
end DL
namespace L2
open PySem PySem.Spec PyProof.Rows
theorem eF {P:Program}{w:World}{K:aj}{mg mb:Str->Option Value}{CX:CXT}{k:Nat}{fa a:Addr}{pls:List Addr}{fd:FuncData}{x:Str}{sp:Sp}{s₁:Shared}{vs:List Value}{ns:List Int}
  (KX:K.In s₁.heap) (kp:∀ pl∈pls,K.lookup pl=none) (hpl:∀ pl∈pls,s₁.heap.get? pl=some (jb #[])) (ct:∀ pl∈pls,isCodeTable s₁.heap pl)
  (hns:s₁.heap.Ns mainGlobals mg) (hb:s₁.heap.Ns builtinsNs mb) (hbb:∀ x:Str,x ≠ "__name__"->mb x=bootBuiltins x) (hlim:s₁.heap.NoLimit) (hg:s₁.gens=#[])
  (ha:s₁.heap.get? a=some { cls:=.type "list",data:=.seq vs.toArray }) (hi:IntsAre vs ns) (hl:ns.length<=sizeLine) (hr:Room k callerA)
  (F:∀ base:Heap,K.In base->base.Ns mainGlobals mg->FnOk P w K mg base CX k fa fd [x] sp) (hbind:∀ (s:Shared) (u:Value),BindsTo s fd ⟨[u],[]⟩ [(x,u)])
  (hsp:∀ H:Hp,(∀ pl∈pls,H pl=some (.tbl #[]))->((∃ o,H a=some (.frz o (.lst (ns.map V.int))))\/∃ (o:Obj) (its:Array Value) (n:Nat),K.lookup a=some o/\o.cls=.type "list"/\o.dict=none/\o.data=.seq its n/\its.size<=sizeLine/\Vals (ns.map V.int) its.toList)->sp [.ref a] H (λv _=>v=.bl true) λ_ _ _=>False)
  (hCX:∀ H e s',CX [] H s₁ (λ_ _ _=>False) e s'->False) :
  codeAny (model P w) callerA (.call (.ref fa) ⟨[.ref a],[]⟩) (λr s'=>r=.ok (.ret (.bool true))/\OldK s₁.heap s'.heap/\s'.os=s₁.os/\AllBare s'.gens) s₁:=by
 have rv:=Fz hi;have lenV:=hi.length;have hap:a ∉ pls:=λz=>by rw [hpl a z] at ha;cases ha
 have core:∀ H:Hp,(∀ pl∈pls,H pl=some (.tbl #[]))->(H a=none\/H a=some (.frz { cls:=.type "list",data:=.seq vs.toArray } (.lst (ns.map V.int))))->(∀ b,b≠a->b ∉ pls->H b=none)->(H a≠none->K.lookup a=none) ->
   ((∃ o,H a=some (.frz o (.lst (ns.map V.int))))\/∃ (o:Obj) (its:Array Value) (n:Nat),K.lookup a=some o/\o.cls=.type "list"/\o.dict=none/\o.data=.seq its n/\its.size<=sizeLine/\Vals (ns.map V.int) its.toList) ->
   codeAny (model P w) callerA (.call (.ref fa) ⟨[.ref a],[]⟩) (λr s'=>r=.ok (.ret (.bool true))/\OldK s₁.heap s'.heap/\s'.os=s₁.os/\AllBare s'.gens) s₁:=by
  intro H hP hA hO hK hS;have hok:HOk P w H s₁.heap:=λb u z=>by
   by_cases b1:b=a
   ·subst b1;rcases hA with q|q
    ·rw [q] at z;cases z
    ·rw [q] at z;cases z;exact ⟨ha,by rw [fu];exact hl,vs,_,rv,ha⟩
   ·by_cases b2:b∈pls
    ·rw [hP b b2] at z;cases z;exact hpl b b2
    ·rw [hO b b1 b2] at z;cases z
  have base_of:∀ {b:Addr} {o:Obj},s₁.heap.get? b=some o->H b=none->(Rw s₁.heap H).get? b=some o:=λe n=>fO e n
  have noA:∀ {b:Addr} {o:Obj} {es:Array DictEntry} {ep:Nat},s₁.heap.get? b=some o->o.data=.dict es ep->H b=none:=λ{b o es ep} e d=>by
   refine hO b (λz=>?_) λz=>?_
   ·subst z;rw [ha] at e;cases e;have d':Data.seq vs.toArray _=Data.dict es ep:=d;cases d'
   ·rw [hpl b z] at e;cases e;have d':Data.fields #[]=Data.dict es ep:=d;cases d'
  have nsK:∀ {b:Addr} {m:Str->Option Value},s₁.heap.Ns b m->(Rw s₁.heap H).Ns b m:=λ{b m} ⟨o,es,ep,e,d,r⟩=>⟨o,es,ep,base_of e (noA e d),d,r⟩
  have hKb:K.In (Rw s₁.heap H):=λb o e=>base_of (KX b o e) (by
   by_cases b1:b=a
   ·subst b1;cases q:H b with
    | none=>rfl
    | some u=>rw [hK (by rw [q];simp)] at e;cases e
   ·exact hO b b1 λz=>by rw [kp b z] at e;cases e)
  have hM:Mod K mg (Rw s₁.heap H):=⟨hKb,nsK hns,⟨mb,nsK hb,hbb⟩,let ⟨mc,h1,h2⟩:=hlim;⟨mc,nsK h1,h2⟩⟩;have e0:Env0 P w K mg (Rw s₁.heap H) callerA [] s₁ H:=⟨rfl,hM,λb o e=>qP e,Nat.le_of_eq (bB _ _),trivial,λb hb=>absurd (show b∈([]:List Addr) from hb) (by simp),hok,.of_eq hg⟩;refine JP ((F _ hKb (nsK hns)).run callerA [] s₁ H ⟨[.ref a],[]⟩ [.ref a] [.ref a] _ _ hr e0 (hbind s₁ (.ref a)) (.cons rfl .nil) (hsp H hP hS)) λr s' h=>?_
  cases r with
  | error e=>exact (hCX H e s' h).elim
  | ok fl =>
   cases fl with
   | next=>exact False.elim h
   | brk=>exact False.elim h
   | cont=>exact False.elim h
   | ret u =>
    obtain ⟨v,H',os,bare,un,hok',r',q⟩:=h;have q':v=.bl true:=q;subst q';obtain rfl:u=Value.bool true:=r';have pl':∀ pl∈pls,∃ more,s'.heap.get? pl=some (jb (#[]++more)):=λpl hq=>by
     obtain ⟨more,hm⟩:=un.tbls pl _ (hP pl hq);exact ⟨more,hok' pl _ hm⟩
    have keep:∀ b o,b ∉ pls->s₁.heap.get? b=some o->s'.heap.get? b=some o:=λb o n e=>by
     by_cases b1:b=a
     ·subst b1;rcases hA with z|z
      ·exact un.keep b o e z (by intro z;exact absurd (show b∈([]:List Addr) from z) (by simp)) (by simp)
      ·have z2:=un.frzs b _ _ z;obtain ⟨e1,_⟩:=hok b _ z;obtain ⟨e2,_⟩:=hok' b _ z2;rw [e] at e1;cases e1;exact e2
     ·exact un.keep b o e (hO b b1 n) (by intro z;exact absurd (show b∈([]:List Addr) from z) (by simp)) (by simp)
    refine ⟨rfl,⟨λb o e=>?_,λb o e=>?_⟩,os,bare⟩
    ·by_cases z:b∈pls
     ·rw [hpl b z] at e;cases e;obtain ⟨more,q⟩:=pl' b z;exact .inr (.inl ⟨ct b z,rfl,#[],more,rfl,q⟩)
     ·exact .inl (keep b o z e)
    ·by_cases z:b∈pls
     ·obtain ⟨more,q⟩:=pl' b z;exact ⟨_,q⟩
     ·exact ⟨o,keep b o z e⟩
 cases hk:K.lookup a with
 | some o =>
  have e:=KX a o hk;rw [ha] at e;cases e;exact core (λb=>if b∈pls then some (.tbl #[]) else none) (λb hb=>if_pos hb) (.inl (if_neg hap)) (λb _ z=>if_neg z) (λz=>absurd (if_neg hap) z) (.inr ⟨_,vs.toArray,_,hk,rfl,rfl,rfl,by rw [cg,lenV];exact hl,by simpa using rv⟩)
 | none =>
  exact core (λb=>if b∈pls then some (.tbl #[]) else if b=a then some (.frz { cls:=.type "list",data:=.seq vs.toArray } (.lst (ns.map V.int))) else none) (λb hb=>if_pos hb) (.inr (by simp only [if_neg hap,if_pos])) (λb y z=>by simp only [if_neg z,if_neg y]) (λ_=>hk) (.inl ⟨_,by simp only [if_neg hap,if_pos];rfl⟩)
end L2
namespace DL
open PySem L2
noncomputable def J8:List Addr->aj->aj
 | [],K=>K
 | p::r,K=>J8 r (cut p K)
noncomputable def Ym (K:aj) (pls:List Addr):Prop:=pls.Nodup/\∀ p∈pls,K.lookup p=some (jb #[])
theorem Ym.next {K:aj}{p:Addr}{r:List Addr}(h:Ym K (p::r)):K.lookup p=some (jb #[])/\Ym (cut p K) r:=by
 obtain ⟨nd,h⟩:=h;rw [jn] at nd;refine ⟨h p dw,nd.2,λq hq=>?_⟩;rw [Eb,if_neg λz=>nd.1 (by rw [← z];exact hq)];exact h q (cu _ hq)
theorem Ab {Q:aj->Prop}(hQ:∀ {K p},K.lookup p=some (jb #[])->Q K->Q (cut p K)):∀ {pls:List Addr}{K:aj},Ym K pls->Q K->Q (J8 pls K)
 | [],_,_,q=>q
 | p::r,K,t,q=>Ab (pls:=r) (K:=cut p K) hQ t.next.2 (hQ t.next.1 q)
theorem Nf:∀ {pls:List Addr}{K:aj}{a:Addr},a∈pls\/K.lookup a=none->(J8 pls K).lookup a=none
 | [],_,_,h=>h.elim (λz=>by cases z) id
 | p::r,K,a,h=>Nf (pls:=r) (K:=cut p K) (by
  rw [Eb];rcases h with h|h
  ·rcases gn.mp h with h|h
   ·exact .inr (if_pos h)
   ·exact .inl h
  ·exact .inr (by split <;> first | rfl | exact h))
theorem vD {pl q:Addr}{K:aj}(hp:K.lookup pl=some (jb #[])) (h:rY K q):rY (cut pl K) q:=by
 obtain ⟨f,o,fd,c,bm,ob,n1,n2,n3,n4,n5,b1,b2,b3,b4,b5,b6⟩:=h;exact ⟨f,o,fd,c,bm,ob,Dl hp n1,Bo hp n2 (by rw [n3];intro z;cases z),n3,n4,Py hp n5,Dl hp b1,Bo hp b2 (by rw [b5];intro z;cases z),b3,b4,b5,b6⟩
theorem nR {pl q:Addr}{x:Str}{K:aj}(hp:K.lookup pl=some (jb #[])) (h:sE K x q):sE (cut pl K) x q:=by
 obtain ⟨f,o,fd,c,bm,ob,n1,n2,n3,n4,n5,b1,b2,b3,b4,b5,b6⟩:=h;exact ⟨f,o,fd,c,bm,ob,Dl hp n1,Bo hp n2 (by rw [n3];intro z;cases z),n3,n4,Py hp n5,Dl hp b1,Bo hp b2 (by rw [b5];intro z;cases z),b3,b4,b5,b6⟩
theorem Hr {pl:Addr}{K:aj}(hp:K.lookup pl=some (jb #[])) (n:Nat):∀ {es:List DictEntry}{kvs:List (Str×D)},rdE K n es=some kvs->rdE (cut pl K) n es=some kvs
 | [],_,h=>h
 | e::r,kvs,h=>by
  unfold rdE at h ⊢;split at h
  ·rename_i k t ek;split at h
   ·rename_i d hd;rw [Ub hp n hd];dsimp only;split at h
    ·rename_i l hl;rw [Hr hp n hl];exact h
    ·cases h
   ·cases h
  ·cases h
noncomputable def Slot (K:aj) (o:MO) (a:Addr):Prop:=match o with
 | .plc=>rY K a
 | .plq x=>sE K x a
 | _=>False
theorem Slot.cut {K:aj}{o:MO}{p a:Addr}(hp:K.lookup p=some (jb #[])) (h:Slot K o a):Slot (DL.cut p K) o a:=by
 cases o with
 | plc=>exact vD hp h
 | plq x=>exact nR hp h
 | _=>exact h
theorem Slot.table {K:aj}{o:MO}{a:Addr}{h:Heap}(KX:K.In h) (s:Slot K o a):isCodeTable h a:=by
 have go:∀ {c:Addr},wu K c a=true->isCodeTable h a:=λ{c} n5=>by
  obtain ⟨o,vs,_,_,_,_,_,_,_,e1,e2,e3,e4,_⟩:=yx KX n5;exact ⟨c,o,vs,e1,e2,e3,e4⟩
 cases o with
 | plc =>
  obtain ⟨f,o,fd,c,bm,ob,n1,n2,n3,n4,n5,_⟩:=s;exact go n5
 | plq x =>
  obtain ⟨f,o,fd,c,bm,ob,n1,n2,n3,n4,n5,_⟩:=s;exact go n5
 | _=>exact s.elim
noncomputable def Slots (K:aj):MH->List Addr->Prop
 | [],[]=>True
 | o::os,a::as=>Slot K o a/\Slots K os as
 | _,_=>False
theorem Slots.at {K:aj}:∀ {os:MH}{as:List Addr}{n:Nat}{a:Addr}{o:MO},Slots K os as->as[n]?=some a->os[n]?=some o->Slot K o a
 | [],[],_,_,_,_,e,_=>by cases e
 | _::_,_::_,0,_,_,h,e1,e2=>by cases e1;cases e2;exact h.1
 | _::_,_::_,_+1,_,_,h,e1,e2=>Slots.at h.2 e1 e2
theorem Slots.len {K:aj}:∀ {os:MH}{as:List Addr},Slots K os as->as.length=os.length
 | [],[],_=>rfl
 | _::_,_::_,h=>by rw [fj,fj,Slots.len h.2]
theorem Slots.cut {K:aj}{p:Addr}(hp:K.lookup p=some (jb #[])):∀ {os:MH}{as:List Addr},Slots K os as->Slots (DL.cut p K) os as
 | [],[],_=>trivial
 | _::_,_::_,h=>⟨h.1.cut hp,Slots.cut hp h.2⟩
theorem Slots.table {K:aj}{h:Heap}(KX:K.In h):∀ {os:MH}{as:List Addr},Slots K os as->∀ a∈as,isCodeTable h a
 | [],[],_,_,z=>by cases z
 | _::_,_::_,s,a,z=>by
  rcases gn.mp z with rfl|z
  ·exact s.1.table KX
  ·exact Slots.table KX s.2 a z
theorem Aet {l:PySem.W.OpenLaw}{q:Program}{loose:List Str}{XP:(Str->Option Value)->Heap->Prop}{YP:World->Heap->Prop}{d:DefRec}{K:Params->aj}{Tt:Tb}{I:FnI}{x:Str}(k:Nat) (sl:MH)
  (hn:l.most=some 63) (hdf:d.params.defaults=[]) (hY:∀ (w:World) (h:Heap),YP w h->(K w.params).In h) (hr:Room (k+3) callerA)
  (hI:Tt.tb d.name=some I) (hps:I.ps=[x])
  (T:∀ (w:World) (mg:Str->Option Value) (h:Heap),(K w.params).In h->h.Ns mainGlobals mg->∃ pls,Ym (K w.params) pls/\Slots (K w.params) sl pls/\TbOk w (J8 pls (K w.params)) mg Tt)
  (main:∀ ns:List Int,ns.length<=63->∃ mh',Ai (GkN Tt k) fuel I [.rol (ns.map D.int)] sl=some (.bl true,mh')) :
  PySem.W.WalkO q loose XP YP l.row.toRowW d [] (λf vs=>PySem.call f vs):=by
 refine Att.attach_call hn hdf λw s₀ s₁ mg mb fa o pm cd doc a vs ns G Y ho hd hcd hmg hobj hints hlen hg=>?_
 have KX:=hY w _ Y;obtain ⟨pls,hp,pk,tb⟩:=T w mg _ KX G.T.g;have ck:(J8 pls (K w.params)).In s₁.heap:=Ab (Q:=λK=>K.In s₁.heap) (λ_ X=>Ua X) hp KX;have pk2:=Ab (Q:=λK=>Slots K sl pls) (λe s=>s.cut e) hp pk;obtain ⟨qual,st,f,fd,h1,h2,h3,h4,h5,h6⟩:=tb.fn _ _ hI;rw [hmg] at h1;cases h1;refine L2.eF (x:=x) (k:=k+3) (CX:=CX0) (fd:=fd) (pls:=pls) (sp:=spD (J8 pls (K w.params)) 1 (Ai (GkN Tt k) fuel I)) ck (λp hq=>Nf (K:=K w.params) (.inl hq)) (λp hq=>KX _ _ (hp.2 p hq)) (pk.table KX) G.T.g G.T.b G.T.builtins G.T.nolimit hg hobj hints (jg hlen (by decide)) hr (λbase hKb hNb=>?_) (λs u=>.of_eq ?_) (λH hP hS=>?_) λ_ _ _ z=>z
 ·have:=mW (P:=l.prog) (w:=w) (base:=base) (gok tb k) h2 h3 h4 h5 fuel;rw [hps] at this;exact this
 ·have:=h6 [u] (by rw [hps];rfl);rw [hps] at this;exact this
 ·obtain ⟨mh',e⟩:=main ns hlen;refine ⟨rfl,pls,sl,[.rol (ns.map D.int)],.bl true,mh',e,⟨pk.len,hp.1,λn a o e1 e2=>?_⟩,.cons (.rol hS (RDs.ints ns)) .nil,λH' ρ' v _ _ r=>by cases r;rfl⟩;have s:=pk2.at e1 e2;have ha:=hP a (iy e1);cases o with
  | plc=>exact ⟨#[],ha,trivial,λpos v z=>(by cases z),s⟩
  | plq x=>exact ⟨#[],ha,trivial,λpos v z=>(by cases z),s⟩
  | _=>exact s.elim
section
variable {loc:DL.Loc}{mh:MH}{ma mb:DM D}{mr:DM (List D)}{t u:DM Bool}{m1 m2:SM}
theorem Aeu (i:Nat):vr i loc mh=(match loc[i]? with | some (some d)=>some (d,mh) | _=>none):=by kernel_rfl
theorem vG:Hi ma loc mh=(match ma loc mh with | none=>none | some (x,h)=>(match iQ x h with | some k=>some (k,h) | none=>none)):=by kernel_rfl
theorem nT (T:String) (f:D->List D->MH->Option (D×MH)):Du T f ma mr loc mh=(match ma loc mh with | none=>none | some (x,h)=>if S6 T x h=true then (match mr loc h with | none=>none | some (ds,h2)=>f x ds h2) else none):=by kernel_rfl
theorem vH (g:GM):Ba ma g loc mh=(match ma loc mh with | some (d,h)=>(match g d loc h with | some (l,h')=>some (.nx,l,h') | none=>none) | none=>none):=by kernel_rfl
theorem nU:ifS t m1 m2 loc mh=(match t loc mh with | some (k,h)=>if k=true then m1 loc h else m2 loc h | none=>none):=by kernel_rfl
theorem vI:retS ma loc mh=(match ma loc mh with | some (d,h)=>some (.rt d,loc,h) | none=>none):=by kernel_rfl
theorem nW:Hv ma loc mh=(match ma loc mh with | some (_,h)=>some (.nx,loc,h) | none=>none):=by kernel_rfl
theorem aF:Af m1 m2 loc mh=(match m1 loc mh with | some (.nx,l,h)=>m2 l h | r=>r):=by kernel_rfl
theorem vJ:Gr ma loc mh=(match ma loc mh with | none=>none | some (x,h)=>(match srcOf x h with | some s=>some (s,h) | none=>none)):=by kernel_rfl
end
theorem Ab7 (C:Int->Int->Bool) (g:Int->Int->Int) (i j:Int) (mh:MH):iop C g (.int i) (.int j) mh=if C i j=true then some (.int (g i j),mh) else none:=by kernel_rfl
theorem le_size {n:Nat}(h:n<=1000000):n<=sizeLine:=by rw [ji];omega
theorem lt_size {n:Nat}(h:n<=1000000):n < sizeLine:=by rw [ji];omega
theorem nY {ds:List D}{mh:MH}(h:ds.length<=1000000):Qx ds mh=some (.tup ds,mh):=by unfold Qx;rw [if_pos (le_size h)]
theorem nZ {ds:List D}{mh:MH}(h:ds.length<=1000000):Qy ds mh=some (.ref mh.length,mh++[.lst ds]):=by unfold Qy;rw [if_pos (le_size h)]
theorem Yn {n:Nat}{ds:List D}{y:D}{mh:MH}(e:mh[n]?=some (.lst ds)) (h:ds.length<=1000000):Fx (.ref n) [y] mh=some (.non,mh.set n (.lst (ds++[y]))):=by
 simp only [Fx,e,if_pos (lt_size h)]
theorem oA {n m:Nat}{xs ys:List D}{mh:MH}(e1:mh[n]?=some (.lst xs)) (e2:mh[m]?=some (.lst ys)) (h:xs.length+ys.length<=1000000):Ij (.ref n) (.ref m) mh=some (.ref mh.length,mh++[.lst (xs++ys)]):=by
 simp only [Ij,e1,e2,if_pos (le_size h)]
end DL
namespace DL
open PySem L2 PyProof.Rows
end DL
namespace DL
open PySem L2
noncomputable def wD {α:Type}(m:DM α) (loc:DL.Loc) (mh:MH) (P:α->MH->Prop):Prop:=∃ a h,m loc mh=some (a,h)/\P a h
noncomputable def wV (r:Option (D×MH)) (P:D->MH->Prop):Prop:=∃ d h,r=some (d,h)/\P d h
noncomputable def wG (r:Option (DL.Loc×MH)) (P:DL.Loc->MH->Prop):Prop:=∃ l h,r=some (l,h)/\P l h
noncomputable def wS (m:SM) (loc:DL.Loc) (mh:MH) (P:Fl->DL.Loc->MH->Prop):Prop:=∃ f l h,m loc mh=some (f,l,h)/\P f l h
section
variable {loc:DL.Loc}{mh:MH}{ma mb mc:DM D}{mr:DM (List D)}{t u:DM Bool}{P:D->MH->Prop}{B:Bool->MH->Prop}
theorem Be {α:Type}{m:DM α}{P Q:α->MH->Prop}(h:wD m loc mh P) (i:∀ a h,P a h->Q a h):wD m loc mh Q:=let ⟨a,h',e,p⟩:=h;⟨a,h',e,i a h' p⟩
theorem Hw {i:Nat}{d:D}(e:loc[i]?=some (some d)) (h:P d mh):wD (vr i) loc mh P:=⟨d,mh,by rw [Aeu,e],h⟩
theorem Bk {α:Type}{a:α}{P:α->MH->Prop}(h:P a mh):wD (Zr a) loc mh P:=⟨a,mh,rfl,h⟩
theorem Bv {α β:Type}{m:DM α}{f:α->DM β}{P:β->MH->Prop}(h:wD m loc mh λa h1=>wD (f a) loc h1 P):wD (m.bnd f) loc mh P:=by
 obtain ⟨a,h1,e1,b,h2,e2,p⟩:=h;exact ⟨b,h2,by unfold DM.bnd;rw [e1];exact e2,p⟩
theorem Hx {f:D->D->MH->Option (D×MH)}(h:wD ma loc mh λx h1=>wD mb loc h1 λy h2=>wV (f x y h2) P):wD (dop f ma mb) loc mh P:=Bv (Be h λ_ _ q=>Bv (Be q λ_ _ z=>z))
theorem Cv {P:List D->MH->Prop}(h:wD ma loc mh λx h1=>wD mr loc h1 λxs h2=>P (x::xs) h2):wD (Aa ma mr) loc mh P:=Bv (Be h λ_ _ q=>Bv (Be q λ_ _ z=>Bk z))
theorem Er {f:Fn}(h:wD mr loc mh λds h1=>wV (f ds h1) P):wD (Ao f mr) loc mh P:=Bv (Be h λ_ _ q=>q)
theorem Es (h:wD mr loc mh λds h1=>ds.length<=1000000/\P (.tup ds) h1):wD (Dk mr) loc mh P:=Bv (Be h λ_ _ q=>⟨_,_,nY q.1,q.2⟩)
theorem Et (h:wD mr loc mh λds h1=>ds.length<=1000000/\P (.ref h1.length) (h1++[.lst ds])):wD (lstM mr) loc mh P:=Bv (Be h λ_ _ q=>⟨_,_,nZ q.1,q.2⟩)
theorem Eu (h:wD ma loc mh λx h1=>∃ i,x=.int i/\P (.int (-i)) h1):wD (Aeq ma) loc mh P:=Bv (Be h λ_ _ ⟨i,e,q⟩=>by subst e;exact ⟨_,_,rfl,q⟩)
theorem Ce (h:wD ma loc mh λx h1=>∃ k,x=.bl k/\B k h1):wD (Am ma) loc mh B:=Bv (Be h λ_ _ ⟨k,e,q⟩=>by subst e;exact Bk q)
theorem Ew (h:wD ma loc mh λx h1=>∃ k,iQ x h1=some k/\B k h1):wD (Hi ma) loc mh B:=by
 obtain ⟨x,h1,e,k,ek,q⟩:=h;exact ⟨k,h1,by rw [vG,e];dsimp only;rw [ek],q⟩
theorem Cw (h:wD t loc mh λk h1=>B (!k) h1):wD (Gs t) loc mh B:=Bv (Be h λ_ _ q=>Bk q)
theorem Cy (h:wD t loc mh λk h1=>(k=true->wD u loc h1 B)/\(k=false->B false h1)):wD (Mt t u) loc mh B:=Bv (Be h λk _ q=>by
 cases k with
 | true=>exact q.1 rfl
 | false=>exact Bk (q.2 rfl))
theorem Ey (h:wD t loc mh λk h1=>(k=true->B true h1)/\(k=false->wD u loc h1 B)):wD (Ni t u) loc mh B:=Bv (Be h λk _ q=>by
 cases k with
 | true=>exact Bk (q.1 rfl)
 | false=>exact q.2 rfl)
theorem Cz (h:wD ma loc mh λx h1=>∃ k,x=.bl k/\(k=true->wD mb loc h1 P)/\(k=false->P (.bl false) h1)):wD (Jp ma mb) loc mh P:=Bv (Ce (Be h λ_ _ ⟨k,e,q⟩=>⟨k,e,by
 cases k with
 | true=>exact q.1 rfl
 | false=>exact Bk (q.2 rfl)⟩))
theorem Ez (h:wD ma loc mh λx h1=>∃ k,x=.bl k/\(k=true->P (.bl true) h1)/\(k=false->wD mb loc h1 P)):wD (Xb ma mb) loc mh P:=Bv (Ce (Be h λ_ _ ⟨k,e,q⟩=>⟨k,e,by
 cases k with
 | true=>exact Bk (q.1 rfl)
 | false=>exact q.2 rfl⟩))
theorem Hy (h:wD t loc mh λk h1=>(k=true->wD ma loc h1 P)/\(k=false->wD mb loc h1 P)):wD (dIf t ma mb) loc mh P:=Bv (Be h λk _ q=>by
 cases k with
 | true=>exact q.1 rfl
 | false=>exact q.2 rfl)
theorem Cg {T:String}{f:D->List D->MH->Option (D×MH)}(h:wD ma loc mh λx h1=>S6 T x h1=true/\wD mr loc h1 λds h2=>wV (f x ds h2) P):wD (Du T f ma mr) loc mh P:=by
 obtain ⟨x,h1,e1,ht,ds,h2,e2,d,h3,e3,p⟩:=h;exact ⟨d,h3,by rw [nT,e1];dsimp only;rw [if_pos ht,e2];exact e3,p⟩
theorem Fb {R:Src->MH->Prop}(h:wD ma loc mh λx h1=>∃ s,srcOf x h1=some s/\R s h1):wD (Gr ma) loc mh R:=by
 obtain ⟨x,h1,e,s,es,q⟩:=h;exact ⟨s,h1,by rw [vJ,e];dsimp only;rw [es],q⟩
end
noncomputable def seqK (m2:SM) (P:Fl->DL.Loc->MH->Prop) (f:Fl) (l:DL.Loc) (h:MH):Prop:=match f with
 | .nx=>wS m2 l h P
 | f=>P f l h
section
variable {loc l:DL.Loc}{mh h1:MH}{me:DM D}{m1 m2:SM}{g:GM}{t:DM Bool}{P:Fl->DL.Loc->MH->Prop}
theorem N5 {m:SM}{P Q:Fl->DL.Loc->MH->Prop}(h:wS m loc mh P) (i:∀ f l h,P f l h->Q f l h):wS m loc mh Q:=let ⟨f,l,h',e,p⟩:=h;⟨f,l,h',e,i f l h' p⟩
theorem Cm (h:wS m1 loc mh (seqK m2 P)):wS (Af m1 m2) loc mh P:=by
 obtain ⟨f,l,h1,e,q⟩:=h;cases f with
 | nx =>
  obtain ⟨f',l',h',e',p⟩:=q;exact ⟨f',l',h',by rw [aF,e];exact e',p⟩
 | _=>exact ⟨_,l,h1,by rw [aF,e],q⟩
theorem Ci (h:wS m2 l h1 P):seqK m2 P .nx l h1:=h
theorem Dc {d:D}(h:P (.rt d) l h1):seqK m2 P (.rt d) l h1:=h
theorem Fd (h:P .nx loc mh):wS Zn loc mh P:=⟨_,_,_,rfl,h⟩
theorem Fe (h:wD me loc mh λd h1=>wG (g d loc h1) λl h2=>P .nx l h2):wS (Ba me g) loc mh P:=by
 obtain ⟨d,h1,e1,l,h2,e2,p⟩:=h;exact ⟨.nx,l,h2,by rw [vH,e1];dsimp only;rw [e2],p⟩
theorem Ff (h:wD me loc mh λd h1=>P (.rt d) loc h1):wS (retS me) loc mh P:=by
 obtain ⟨d,h1,e1,p⟩:=h;exact ⟨.rt d,loc,h1,by rw [vI,e1],p⟩
theorem Dd (h:wD me loc mh λ_ h1=>P .nx loc h1):wS (Hv me) loc mh P:=by
 obtain ⟨d,h1,e1,p⟩:=h;exact ⟨.nx,loc,h1,by rw [nW,e1],p⟩
theorem H9 (h:wD t loc mh λk h1=>(k=true->wS m1 loc h1 P)/\(k=false->wS m2 loc h1 P)):wS (ifS t m1 m2) loc mh P:=by
 obtain ⟨k,h1,e1,a,b⟩:=h;cases k with
 | true =>
  obtain ⟨f,l,h',e,p⟩:=a rfl;exact ⟨f,l,h',by rw [nU,e1];exact e,p⟩
 | false =>
  obtain ⟨f,l,h',e,p⟩:=b rfl;exact ⟨f,l,h',by rw [nU,e1];exact e,p⟩
theorem Ec {i:Nat}{d:D}{R:DL.Loc->MH->Prop}(h:R (loc.set i (some d)) mh):wG (Bf i d loc mh) R:=⟨_,_,rfl,h⟩
noncomputable def vK (J:DL.Loc->MH->Prop) (P:Fl->DL.Loc->MH->Prop) (f:Fl) (l:DL.Loc) (h:MH):Prop:=match f with
 | .nx=>J l h
 | .ct=>J l h
 | .bk=>P .nx l h
 | .rt d=>P (.rt d) l h
theorem Yo {src:Src}{ds:List D}{body:SM}(J:Nat->DL.Loc->MH->Prop) (keep:∀ i l h,J i l h->src.ok h=true/\src.items h=ds)
  (step:∀ i d l h,ds[i]?=some d->J i l h->wG (g d l h) λl1 h1=>wS body l1 h1 (vK (J (i+1)) P)) (fin:∀ l h,J ds.length l h->P .nx l h) :
  ∀ (k i:Nat) (l:DL.Loc) (h:MH),i+k=ds.length->J i l h->wS (Nj src g body k i) l h P
 | 0,i,l,h,e,j=>by
  have e:i=ds.length:=by omega
  subst e;have s:src.stop h ds.length=true:=by
   unfold Src.stop;rw [(keep _ _ _ j).1,(keep _ _ _ j).2,yt];exact decide_eq_true (bx _)
  exact ⟨.nx,l,h,by simp only [Nj,s,if_true],fin _ _ j⟩
 | k+1,i,l,h,e,j=>by
  have hi:i < ds.length:=by omega
  have eg:src.get h i=some ds[i]:=by
   unfold Src.get;rw [(keep _ _ _ j).2,gq hi]
  obtain ⟨l1,h1,e1,f,l2,h2,e2,q⟩:=step i ds[i] l h (gq hi) j;cases f with
  | nx =>
   obtain ⟨f',l',h',e',p⟩:=Yo J keep step fin k (i+1) l2 h2 (by omega) q;exact ⟨f',l',h',by simp only [Nj,eg,e1,e2];exact e',p⟩
  | ct =>
   obtain ⟨f',l',h',e',p⟩:=Yo J keep step fin k (i+1) l2 h2 (by omega) q;exact ⟨f',l',h',by simp only [Nj,eg,e1,e2];exact e',p⟩
  | bk=>exact ⟨.nx,l2,h2,by simp only [Nj,eg,e1,e2],q⟩
  | rt d=>exact ⟨.rt d,l2,h2,by simp only [Nj,eg,e1,e2],q⟩
theorem oE {mi:DM Src}{body:SM}(h:wD mi loc mh λsrc h0=>∃ ds,∃ J:Nat->DL.Loc->MH->Prop,J 0 loc h0/\(∀ i l h,J i l h->src.ok h=true/\src.items h=ds) /\
  (∀ i d l h,ds[i]?=some d->J i l h->wG (g d l h) λl1 h1=>wS body l1 h1 (vK (J (i+1)) P))/\∀ l h,J ds.length l h->P .nx l h):wS (Nk mi g body) loc mh P:=by
 obtain ⟨src,h0,e,ds,J,j0,keep,step,fin⟩:=h;have el:(src.items h0).length=ds.length:=by rw [(keep _ _ _ j0).2]
 obtain ⟨f,l,h',e',p⟩:=Yo J keep step fin ds.length 0 loc h0 (by omega) j0;refine ⟨f,l,h',?_,p⟩;unfold Nk;rw [e];dsimp only;rw [el];exact e'
theorem Ue {src:Src}{ds:List D}{tc:DM Bool}{e:DM D}{R:List D->MH->Prop}(J:Nat->List D->MH->Prop) (keep:∀ i acc h,J i acc h->src.ok h=true/\src.items h=ds) (hz:ds.length<=1000000) (small:∀ i acc h,J i acc h->acc.length<=i)
  (step:∀ i d acc h,ds[i]?=some d->J i acc h->wG (g d loc h) λl1 h1=>wD tc l1 h1 λc h2=>(c=true->wD e l1 h2 λy h3=>J (i+1) (acc++[y]) h3)/\(c=false->J (i+1) acc h2)) (fin:∀ acc h,J ds.length acc h->R acc h) :
  ∀ (k i:Nat) (acc:List D) (h:MH),i+k=ds.length->J i acc h->∃ acc' h',Jr src g tc e loc k i acc h=some (acc',h')/\R acc' h'
 | 0,i,acc,h,q,j=>by
  have q:i=ds.length:=by omega
  subst q;have s:src.stop h ds.length=true:=by
   unfold Src.stop;rw [(keep _ _ _ j).1,(keep _ _ _ j).2,yt];exact decide_eq_true (bx _)
  exact ⟨acc,h,by simp only [Jr,s,if_true],fin _ _ j⟩
 | k+1,i,acc,h,q,j=>by
  have hi:i < ds.length:=by omega
  have eg:src.get h i=some ds[i]:=by
   unfold Src.get;rw [(keep _ _ _ j).2,gq hi]
  obtain ⟨l1,h1,e1,c,h2,e2,a,b⟩:=step i ds[i] acc h (gq hi) j;cases c with
  | true =>
   obtain ⟨y,h3,e3,j3⟩:=a rfl;obtain ⟨acc',h',e',p⟩:=Ue J keep hz small step fin k (i+1) _ h3 (by omega) j3;have hl:acc.length < sizeLine:=lt_size (by have:=small _ _ _ j;omega);exact ⟨acc',h',by simp only [Jr,eg,e1,e2,if_true,e3,if_pos hl];exact e',p⟩
  | false =>
   obtain ⟨acc',h',e',p⟩:=Ue J keep hz small step fin k (i+1) _ h2 (by omega) (b rfl);exact ⟨acc',h',by simp only [Jr,eg,e1,e2,uh,if_false];exact e',p⟩
theorem Ug {mi:DM Src}{cs:List (Option Nat)}{tc:DM Bool}{e:DM D}{Q:D->MH->Prop}(h:wD mi loc mh λsrc h0=>∃ ds,∃ J:Nat->List D->MH->Prop,ds.length<=1000000/\J 0 [] h0/\(∀ i acc h,J i acc h->src.ok h=true/\src.items h=ds)/\(∀ i acc h,J i acc h->acc.length<=i) /\
  (∀ i d acc h,ds[i]?=some d->J i acc h->wG (g d (Sy cs loc) h) λl1 h1=>wD tc l1 h1 λc h2=>(c=true->wD e l1 h2 λy h3=>J (i+1) (acc++[y]) h3)/\(c=false->J (i+1) acc h2)) /\
  ∀ acc h,J ds.length acc h->Q (.ref h.length) (h++[.lst acc])):wD (Dt mi cs g tc e) loc mh Q:=by
 obtain ⟨src,h0,e0,ds,J,hz,j0,keep,small,step,fin⟩:=h;have el:(src.items h0).length=ds.length:=by rw [(keep _ _ _ j0).2]
 obtain ⟨acc,h',e',p⟩:=Ue J keep hz small step fin ds.length 0 [] h0 (by omega) j0;refine ⟨.ref h'.length,h'++[.lst acc],?_,p⟩;unfold Dt;rw [e0];dsimp only;rw [el,e']
end
noncomputable def whK (J:Nat->DL.Loc->MH->Prop) (n:Nat) (P:Fl->DL.Loc->MH->Prop) (f:Fl) (l:DL.Loc) (h:MH):Prop:=match f with
 | .nx=>∃ m,m < n/\J m l h
 | .ct=>∃ m,m < n/\J m l h
 | .bk=>P .nx l h
 | .rt d=>P (.rt d) l h
theorem Pz {t:DM Bool}{body:SM}{P:Fl->DL.Loc->MH->Prop}{J:Nat->DL.Loc->MH->Prop}(step:∀ n l h,J n l h->wD t l h λb h1=>(b=true->wS body l h1 (whK J n P))/\(b=false->P .nx l h1)):∀ (K n:Nat) (loc:DL.Loc) (mh:MH),n < K->J n loc mh->wS (Ep t body K) loc mh P
 | 0,_,_,_,h,_=>absurd h (Nat.not_lt_zero _)
 | K+1,n,loc,mh,hn,j=>by
  obtain ⟨b,h1,et,q⟩:=step n loc mh j;cases b with
  | false=>exact ⟨.nx,loc,h1,by simp only [Ep,et],q.2 rfl⟩
  | true =>
   obtain ⟨f,l,h2,eb,p⟩:=q.1 rfl;cases f with
   | nx =>
    obtain ⟨m,hm,jm⟩:=p;obtain ⟨f3,l3,h3,e3,p3⟩:=Pz step K m l h2 (by omega) jm;exact ⟨f3,l3,h3,by simp only [Ep,et,eb];exact e3,p3⟩
   | ct =>
    obtain ⟨m,hm,jm⟩:=p;obtain ⟨f3,l3,h3,e3,p3⟩:=Pz step K m l h2 (by omega) jm;exact ⟨f3,l3,h3,by simp only [Ep,et,eb];exact e3,p3⟩
   | bk=>exact ⟨.nx,l,h2,by simp only [Ep,et,eb],p⟩
   | rt d=>exact ⟨.rt d,l,h2,by simp only [Ep,et,eb],p⟩
theorem Wd {t:DM Bool}{body:SM}{loc:DL.Loc}{mh:MH}{P:Fl->DL.Loc->MH->Prop}(J:Nat->DL.Loc->MH->Prop) (n:Nat) (hn:n < 1000000) (j0:J n loc mh) (step:∀ n l h,J n l h->wD t l h λb h1=>(b=true->wS body l h1 (whK J n P))/\(b=false->P .nx l h1)):wS (Ou t body) loc mh P :=
 Pz step _ n loc mh hn j0
noncomputable def oF (P:D->MH->Prop) (f:Fl) (_:DL.Loc) (h:MH):Prop:=match f with
 | .rt d=>P d h
 | .nx=>P .non h
 | _=>False
theorem Bd {G:Gb}{n:Nat}{I:FnI}{b:SM}{ds:List D}{mh:MH}{np m:Nat}{P:D->MH->Prop}(hb:iSs G n { N:=I.N,scope:=I.scope,own:=λ_=>true } I.body=b) (hp:I.ps.length=np) (hN:I.N.length=m) (hl:ds.length=np)
  (h:wS b (ds.map some++au (m - np) none) mh (oF P)):wV (Ai G n I ds mh) P:=by
 obtain ⟨f,l,h',e,p⟩:=h;cases f with
 | rt d=>exact ⟨d,h',by unfold Ai;rw [if_pos (by rw [hp];exact hl),hb,hN,hl,e],p⟩
 | nx=>exact ⟨.non,h',by unfold Ai;rw [if_pos (by rw [hp];exact hl),hb,hN,hl,e],p⟩
 | bk=>exact p.elim
 | ct=>exact p.elim
section
variable {mh:MH}{P:D->MH->Prop}
theorem P0 {C:Int->Int->Bool}{g:Int->Int->Int}{i j:Int}(hC:C i j=true) (h:P (.int (g i j)) mh):wV (iop C g (.int i) (.int j) mh) P:=⟨_,_,by rw [Ab7,if_pos hC],h⟩
theorem Fg {i j:Int}(h:P (.int (i - j)) mh):wV (dZ (.int i) (.int j) mh) P:=P0 rfl h
theorem oG {i j:Int}(hj:j≠0) (h:P (.int (i.fmod j)) mh):wV (V9 (.int i) (.int j) mh) P:=P0 (decide_eq_true hj) h
theorem vL {i j:Int}(hj:j≠0) (hb:j.natAbs < 10889035741470030830827987437816582766592) (h:P (.int (i.fdiv j)) mh):wV (V8 (.int i) (.int j) mh) P:=P0 (by rw [decide_eq_true hj,decide_eq_true hb];rfl) h
theorem oH {i j:Int}(hb:(-(2 ^ 64) < i/\i < 2 ^ 64)\/(-(2 ^ 64) < j/\j < 2 ^ 64)) (h:P (.int (i * j)) mh):wV (nD (.int i) (.int j) mh) P:=show wV (iop Vv (λi j=>i * j) (.int i) (.int j) mh) P from P0 (by unfold Vv;rw [zp,decide_eq_true_iff,decide_eq_true_iff];exact hb) h
theorem Df {g:Int->Int->Bool}{i j:Int}(h:P (.bl (g i j)) mh):wV (Qh g (.int i) (.int j) mh) P:=⟨_,_,rfl,h⟩
theorem Fi {i j:Int}(h:P (.int (i+j)) mh):wV (Ij (.int i) (.int j) mh) P:=⟨_,_,rfl,h⟩
theorem Fj {i j:Int}(h:P (.bl (i==j)) mh):wV (eqD (.int i) (.int j) mh) P:=⟨_,_,rfl,h⟩
theorem aG {x y:D}{k:Bool}(e:eqB mh x y=some k) (h:P (.bl k) mh):wV (eqD x y mh) P:=⟨_,_,by unfold eqD;rw [e],h⟩
theorem aH {x y:D}{k:Bool}(e:eqB mh x y=some k) (h:P (.bl (!k)) mh):wV (neD x y mh) P:=⟨_,_,by unfold neD;rw [e],h⟩
theorem vM {x y:D}{k:Bool}(e:inB mh x y=some k):G5 y mh=none:=by
 cases q:G5 y mh with
 | none=>rfl
 | some kvs =>
  obtain ⟨n,rfl,en⟩:=J6 q;have p:py mh 60 (.ref n)=none:=by
   show (match mh[n]? with | some (.lst o)=>(match mapO (py mh 59) o with | some xs=>some (PyData.list xs) | none=>none) | _=>none)=_;rcases en with ⟨kvs,en,_⟩ | ⟨kvs,en,_⟩ <;> rw [en]
  unfold inB at e;rw [p] at e;split at e
  ·rename_i z;cases z
  ·rename_i z;cases z
  ·cases e
theorem Aev {neg:Bool}{x y:D}{k:Bool}(e:inB mh x y=some k) (h:P (.bl (if neg then !k else k)) mh):wV (inD neg x y mh) P:=⟨_,_,by unfold inD;rw [vM e];dsimp only;unfold sV;rw [e],h⟩
theorem aJ {n m:Nat}{xs ys:List D}(e1:mh[n]?=some (.lst xs)) (e2:mh[m]?=some (.lst ys)) (hz:xs.length+ys.length<=1000000) (h:P (.ref mh.length) (mh++[.lst (xs++ys)])):wV (Ij (.ref n) (.ref m) mh) P:=⟨_,_,oA e1 e2 hz,h⟩
theorem Bp {ds:List D}{j:Nat}{d:D}(e:ds[j]?=some d) (h:P d mh):wV (ixD (.tup ds) (.int j) mh) P:=⟨d,mh,by simp only [ixD,G5,bR,Dv,R4 e],h⟩
theorem Ab8 {ds:List D}{j:Nat}{d:D}(e:ds[j]?=some d) (h:P d mh):wV (ixD (.rol ds) (.int j) mh) P:=⟨d,mh,by simp only [ixD,G5,bR,Dv,R4 e],h⟩
theorem Uh {n:Nat}{ds:List D}{j:Nat}{d:D}(e1:mh[n]?=some (.lst ds)) (e:ds[j]?=some d) (h:P d mh):wV (ixD (.ref n) (.int j) mh) P:=⟨d,mh,by simp only [ixD,Rk e1,bR,Dv,e1,R4 e],h⟩
theorem Jj {n:Nat}{ds:List D}{y:D}(e:mh[n]?=some (.lst ds)) (hz:ds.length<=1000000) (h:P .non (mh.set n (.lst (ds++[y])))):wV (Fx (.ref n) [y] mh) P:=⟨_,_,Yn e hz,h⟩
theorem Ma {x:D}{ds:List D}(hx:∀ z,x≠.str z) (e:Dv x mh=some ds) (h:P (.int ds.length) mh):wV (Gj [x] mh) P:=by
 refine ⟨_,_,?_,h⟩;cases x with
 | str z=>exact (hx z rfl).elim
 | ref n =>
  have e':(match mh[n]? with | some (.lst o)=>some o | _=>none)=some ds:=e;cases q:mh[n]? with
  | none=>rw [q] at e';cases e'
  | some o=>cases o <;> first | (rw [q] at e';cases e';done) | simp only [Gj,q,Qz,e]
 | _=>simp only [Gj,Qz,e]
theorem Wf {x:D}{ds:List D}(e:Dv x mh=some ds) (h:P (.tup ds) mh):wV (Lf [x] mh) P:=⟨_,_,by simp only [Lf,e],h⟩
theorem oJ {f:List Bool->Bool}{x:D}{bs:List Bool}(e:Dv x mh=some (bs.map D.bl)) (h:P (.bl (f bs)) mh):wV (Kv f [x] mh) P:=⟨_,_,by simp only [Kv,e,Mx],h⟩
end
structure Ext (W:List Nat) (a b:MH):Prop where
 len:a.length<=b.length
 old:∀ i o,i ∉ W->a[i]?=some o->b[i]?=some o
theorem Ext.refl {W:List Nat}{a:MH}:Ext W a a:=⟨bx _,λ_ _ _ e=>e⟩
theorem Ext.trans {W:List Nat}{a b c:MH}(x:Ext W a b) (y:Ext W b c):Ext W a c:=⟨jg x.len y.len,λi o h e=>y.old i o h (x.old i o h e)⟩
theorem Ext.weak {W:List Nat}{a b:MH}(x:Ext [] a b):Ext W a b:=⟨x.len,λi o _ e=>x.old i o (by simp) e⟩
theorem Ext.more {W:List Nat}{a g:MH}:Ext W a (a++g):=⟨by rw [dj];omega,λi o _ e=>by rw [gh (dh.mp e).1];exact e⟩
theorem Ext.setNew {W:List Nat}{n:Nat}{a b:MH}{o:MO}(x:Ext W a b) (h:a.length<=n):Ext W a (b.set n o):=⟨by rw [qu];exact x.len,λi o' hi e=>by
 have:i < a.length:=(dh.mp e).1
 rw [jk (by omega)];exact x.old i o' hi e⟩
theorem Az {a:MH}{o:MO}:(a++[o])[a.length]?=some o:=by rw [ig (bx _),Nat.sub_self];rfl
theorem Ja {a b:Str}{k:Bool}(ha:jl a=true) (hb:jl b=true) (e:(a==b)=k) (mh:MH):eqB mh (.str a) (.str b)=some k:=by
 unfold eqB;simp only [py,if_pos ha,if_pos hb,jf,e]
section
variable {loc:DL.Loc}{mh:MH}{ma:DM D}{mr:DM (List D)}{P:D->MH->Prop}
theorem Dg {ok:Str->Str->Bool}{f:Str}(h:wD ma loc mh λx h1=>∃ c ks ds d,x=.obj c ks ds/\ok c f=true/\(ks.zip ds).lookup f=some d/\P d h1):wD (Ca ok f ma) loc mh P:=Bv (Be h λ_ h1 ⟨c,ks,ds,d,e,o,l,q⟩=>by
 subst e;refine ⟨d,h1,?_,q⟩;show (if ok c f then Zl (Vo c f (.obj c ks ds)) else Zb) loc h1=_;rw [if_pos o];show Vo c f (.obj c ks ds) h1=_
 simp only [Vo,beq_self_eq_true,if_true,l])
theorem Fo {met:Str->Str->Option (List Str×Fn)}{m:Str}(h:wD ma loc mh λx h1=>∃ c ks ds ps g,x=.obj c ks ds/\met c m=some (ps,g)/\ks.contains m=false/\wD mr loc h1 λas h2=>wV (g (.obj c ks ds::as) h2) P):wD (Gi met m ma mr) loc mh P:=Bv (Be h λ_ h1 ⟨c,ks,ds,ps,g,e,em,hk,q⟩=>by
 subst e;show wD (match met c m with | some (_,g)=>if ks.contains m then Zb else mr.bnd λas=>Zl (g (.obj c ks ds::as)) | none=>Zb) _ _ _;rw [em];dsimp only;rw [if_neg (by rw [hk];simp)]
 exact Bv (Be q λ_ _ z=>z))
theorem oK {T1 T2:String}{f1 f2:D->List D->MH->Option (D×MH)}(h:wD ma loc mh λx h1=>(S6 T1 x h1=true/\wD mr loc h1 λds h2=>wV (f1 x ds h2) P)\/(S6 T1 x h1=false/\S6 T2 x h1=true/\wD mr loc h1 λds h2=>wV (f2 x ds h2) P)):wD (Jt T1 f1 T2 f2 ma mr) loc mh P:=by
 obtain ⟨x,h1,e,q⟩:=h;rcases q with ⟨t,q⟩|⟨t,t2,q⟩
 ·obtain ⟨a,h',e',p⟩:=Cg (T:=T1) (f:=f1) (ma:=ma) (mr:=mr) (loc:=loc) (mh:=mh) (P:=P) ⟨x,h1,e,t,q⟩;exact ⟨a,h',by unfold Jt;rw [e];dsimp only;rw [if_pos t];exact e',p⟩
 ·obtain ⟨a,h',e',p⟩:=Cg (T:=T2) (f:=f2) (ma:=ma) (mr:=mr) (loc:=loc) (mh:=mh) (P:=P) ⟨x,h1,e,t2,q⟩;exact ⟨a,h',by unfold Jt;rw [e];dsimp only;rw [if_neg (by rw [t];simp)];exact e',p⟩
theorem oM {i j:Int}(h1:0<=j) (h2:j<=1000000) (h3:i.natAbs < 2 ^ 64) (h:P (.int (i ^ j.toNat)) mh):wV (Ab4 (.int i) (.int j) mh) P:=P0 (by rw [decide_eq_true h1,decide_eq_true h2,decide_eq_true h3];rfl) h
theorem oN {a b:Str}(ha:jl a=true) (hb:jl b=true) (e:(a==b)=true) (h:P (.bl true) mh):wV (eqD (.str a) (.str b) mh) P:=aG (Ja ha hb e mh) h
theorem Aew {a b:Str}(ha:jl a=true) (hb:jl b=true) (e:(a==b)=false) (h:P (.bl false) mh):wV (eqD (.str a) (.str b) mh) P:=aG (Ja ha hb e mh) h
end
section
variable {loc:DL.Loc}{mh:MH}{ma:DM D}{mr:DM (List D)}{P:D->MH->Prop}
theorem Ab9 {neg:Bool}{x:D}{k:PyData}{n:Nat}{kvs:List (PyData×D)}(e:mh[n]?=some (.dtk kvs)) (ek:kD x=some k) (h:P (.bl (if neg then !(Gz kvs k).isSome else (Gz kvs k).isSome)) mh):wV (inD neg x (.ref n) mh) P :=
 ⟨_,_,by simp only [inD,cX e,ek,ou],h⟩
end
theorem Gv {k:Bool}{B:Bool->Prop}(h:B k):∃ j,D.bl k=.bl j/\B j:=⟨k,rfl,h⟩
theorem Fp {i:Int}{B:Int->Prop}(h:B i):∃ j,D.int i=.int j/\B j:=⟨i,rfl,h⟩
theorem Bw {p q:Prop}(h:p):((true=true)->p)/\((true=false)->q):=⟨λ_=>h,λz=>by cases z⟩
theorem Fq {p q:Prop}(h:q):((false=true)->p)/\((false=false)->q):=⟨λz=>(by cases z),λ_=>h⟩
theorem Cp {k:Bool}{p q:Prop}(e:k=true) (h:p):(k=true->p)/\(k=false->q):=⟨λ_=>h,λz=>by rw [e] at z;cases z⟩
theorem Dh {k:Bool}{p q:Prop}(e:k=false) (h:q):(k=true->p)/\(k=false->q):=⟨λz=>(by rw [e] at z;cases z),λ_=>h⟩
theorem N6 {k:Bool}{p q:Prop}(h1:k=true->p) (h2:k=false->q):(k=true->p)/\(k=false->q):=⟨h1,h2⟩
theorem Ft {k:Bool}{h:MH}{B:Bool->Prop}(q:B k):∃ j,iQ (.bl k) h=some j/\B j:=⟨k,rfl,q⟩
mutual
noncomputable def dat:Nat->D->Bool
 | _,.int _=>true
 | _,.bl _=>true
 | _,.non=>true
 | _,.str x=>jl x
 | n+1,.tup ds=>Wg n ds
 | _,_=>false
noncomputable def Wg:Nat->List D->Bool
 | _,[]=>true
 | n,d::r=>dat n d&&Wg n r
end
mutual
theorem oO (mh:MH):∀ (n:Nat) (d:D),dat n d=true->∃ a,py mh n d=some a/\a.canLay0=true
 | n,.int i,_=>⟨.int i,by cases n <;> rfl,rfl⟩
 | n,.bl i,_=>⟨.bool i,by cases n <;> rfl,rfl⟩
 | n,.non,_=>⟨.none,by cases n <;> rfl,rfl⟩
 | n,.str x,h=>by
  have h2:jl x=true:=by cases n <;> exact h
  exact ⟨.str x,by cases n <;> (show (if jl x=true then some (FP x) else none)=_;rw [if_pos h2]),h2⟩
 | 0,.tup ds,h=>by simp [dat] at h
 | n+1,.tup ds,h=>by
  have h:Wg n ds=true:=h;obtain ⟨as,e,l⟩:=Ui mh n ds h;exact ⟨.tuple as,by simp only [py,e],by simpa [ud] using l⟩
 | 0,.ref _,h=>by simp [dat] at h
 | _+1,.ref _,h=>by simp [dat] at h
 | 0,.rol _,h=>by simp [dat] at h
 | _+1,.rol _,h=>by simp [dat] at h
 | 0,.obj ..,h=>by simp [dat] at h
 | _+1,.obj ..,h=>by simp [dat] at h
 | 0,.fn _,h=>by simp [dat] at h
 | _+1,.fn _,h=>by simp [dat] at h
theorem Ui (mh:MH):∀ (n:Nat) (ds:List D),Wg n ds=true->∃ as,mapO (py mh n) ds=some as/\qm as=true
 | n,[],_=>⟨[],rfl,rfl⟩
 | n,d::r,h=>by
  have h:(dat n d&&Wg n r)=true:=by simpa [Wg] using h
  rw [aq] at h;obtain ⟨a,e1,l1⟩:=oO mh n d h.1;obtain ⟨as,e2,l2⟩:=Ui mh n r h.2;exact ⟨a::as,by simp only [mapO,e1,e2],by simp only [qm,l1,l2,QT]⟩
end
theorem oR {x:D}(h:dat 60 x=true) (mh:MH):eqB mh x x=some true:=by
 obtain ⟨a,e,l⟩:=oO mh 60 x h;unfold eqB;rw [e];dsimp only;rw [SeqAt.eqv_refl a l]
theorem eq_refl {x y:D}{mh:MH}{P:D->MH->Prop}(e:x=y) (hx:dat 60 x=true) (h:P (.bl true) mh):wV (eqD x y mh) P:=by
 subst e;exact aG (oR hx mh) h
theorem ty_list {a:Nat}{ds:List D}{mh:MH}(e:mh[a]?=some (.lst ds)):S6 "list" (.ref a) mh=true:=by
 show (true&&(match mh[a]? with | some (.lst _)=>true | _=>false))=true;rw [e];rfl
theorem src_list {a:Nat}{ds:List D}{mh:MH}(e:mh[a]?=some (.lst ds)):srcOf (.ref a) mh=some (.lref a):=by
 show (match mh[a]? with | some (.lst _)=>some (Src.lref a) | _=>none)=_;rw [e]
theorem Mf {a:Nat}{ds:List D}{mh:MH}(e:mh[a]?=some (.lst ds)):(Src.lref a).ok mh=true/\(Src.lref a).items mh=ds:=by
 refine ⟨?_,?_⟩
 ·show (match mh[a]? with | some (.lst _)=>true | _=>false)=true;rw [e]
 ·show (match mh[a]? with | some (.lst o)=>o | _=>[])=_;rw [e]
end DL
namespace Lw
open PySem L2 DL
noncomputable def top (i:Nat):Stmt:=PySem.Challenge.pw_letterall_k57_counting_on.main.body.getD i (.Pass ⟨0,0,0,0⟩)
noncomputable def Cj (s:Stmt) (j:Nat):Stmt:=match s with
 | .ClassDef _ _ _ b _ _ _ _ _ _ _=>b.getD j (.Pass ⟨0,0,0,0⟩)
 | _=>.Pass ⟨0,0,0,0⟩
noncomputable def f8:FnI:=Bc (top 8)
noncomputable def f9:FnI:=Bc (top 9)
noncomputable def f10:FnI:=Bc (top 10)
noncomputable def f13:FnI:=Bc (top 13)
noncomputable def f14:FnI:=Bc (top 14)
noncomputable def f15:FnI:=Bc (top 15)
noncomputable def f43:FnI:=Bc (top 43)
noncomputable def f44:FnI:=Bc (top 44)
noncomputable def f53:FnI:=Bc (top 53)
noncomputable def f54:FnI:=Bc (top 54)
noncomputable def f55:FnI:=Bc (top 55)
noncomputable def f56:FnI:=Bc (top 56)
noncomputable def f57:FnI:=Bc (top 57)
noncomputable def f58:FnI:=Bc (top 58)
noncomputable def f65:FnI:=Bc (top 65)
noncomputable def f66:FnI:=Bc (top 66)
noncomputable def f67:FnI:=Bc (top 67)
noncomputable def f72:FnI:=Bc (top 72)
noncomputable def f74:FnI:=Bc (top 74)
noncomputable def f75:FnI:=Bc (top 75)
noncomputable def f76:FnI:=Bc (top 76)
noncomputable def f88:FnI:=Bc (top 88)
noncomputable def f89:FnI:=Bc (top 89)
noncomputable def f90:FnI:=Bc (top 90)
noncomputable def f95:FnI:=Bc (top 95)
noncomputable def oU:FnI:=Bc (top 114)
noncomputable def Aex:FnI:=Bc (top 115)
noncomputable def Aey:FnI:=Bc (top 116)
noncomputable def oV:FnI:=Bc (top 117)
noncomputable def oW:FnI:=Bc (top 122)
noncomputable def oX:FnI:=Bc (top 123)
noncomputable def eG:FnI:=Bc (top 124)
noncomputable def oY:FnI:=Bc (top 125)
noncomputable def oZ:FnI:=Bc (top 127)
noncomputable def Qa:FnI:=Bc (top 129)
noncomputable def Yp:FnI:=Bc (top 130)
noncomputable def eN:FnI:=Bc (top 131)
noncomputable abbrev G9:Stmt:=Cj (top 42) 1
noncomputable def pA:FnI:=Bc G9
noncomputable abbrev Ed:Stmt:=Cj (top 121) 1
noncomputable def Ka:FnI:=Bc Ed
noncomputable abbrev Ef:Stmt:=Cj (top 121) 2
noncomputable def Kc:FnI:=Bc Ef
noncomputable abbrev Eg:Stmt:=Cj (top 121) 3
noncomputable def Kd:FnI:=Bc Eg
noncomputable def Wh:List (Str×Stmt):=("is_whole",top 7)::("is_between",top 8)::("is_tuple_of",top 9)::("are_between",top 10)::("is_bound",top 12)::("is_void",top 13)::("pair_of",top 14)::("cut",top 15)::("higher",top 16)::("lower",top 17)::("blank",top 26)::("replaced",top 28)::("with_number",top 29)::("at_place",top 33)::("moved_on",top 34)::("is_step",top 43)::("fits_steps",top 44)::("look_over",top 53)::("has_frame",top 54)::("are_roles",top 55)::("are_hands",top 56)::("hands_of",top 57)::("counts_of",top 58)::("length_of",top 59)::("step_at",top 60)::("first",top 65)::("all_hands",top 66)::("part",top 67)::("with_part",top 69)::("perhaps",top 72)::("passes",top 74)::("told_between",top 75)::("put_together",top 76)::("is_claim",top 82)::("word_of",top 83)::("has_form",top 84)::("fits_forms",top 85)::("look_over_claim",top 88)::("bit_of",top 89)::("broken",top 90)::("step_now",top 93)::("choices_of",top 95)::("after_step",top 104)::("after_quiet",top 105)::("reckoned",top 106)::("goes_there",top 109)::("moves",top 114)::("losses",top 115)::("falls",top 116)::("after_move",top 117)::("go_through",top 122)::("gone_on",top 123)::("told_of_last",top 124)::("moves_and_worlds",top 125)::("go_plainly",top 127)::("_law_cell_at",top 129)::("_law_told",top 130)::("law",top 131)::[]
noncomputable def tb (x:Str):Option FnI:=(Wh.lookup x).map Bc
theorem Wi:Z8 Wh:=⟨Al ⟨rfl,rfl,rfl,by decide +kernel,by decide +kernel,by decide +kernel,by decide +kernel⟩ λ_ _ _ _ _ _=>ln1 λ_=>rfl,Al ⟨rfl,rfl,rfl,by decide +kernel,by decide +kernel,by decide +kernel,by decide +kernel⟩ λ_ _ _ _ _ _=>ln3 λ_ _ _=>rfl,Al ⟨rfl,rfl,rfl,by decide +kernel,by decide +kernel,by decide +kernel,by decide +kernel⟩ λ_ _ _ _ _ _=>ln2 λ_ _=>rfl,Al ⟨rfl,rfl,rfl,by decide +kernel,by decide +kernel,by decide +kernel,by decide +kernel⟩ λ_ _ _ _ _ _=>ln4 λ_ _ _ _=>rfl,Al ⟨rfl,rfl,rfl,by decide +kernel,by decide +kernel,by decide +kernel,by decide +kernel⟩ λ_ _ _ _ _ _=>ln1 λ_=>rfl,Al ⟨rfl,rfl,rfl,by decide +kernel,by decide +kernel,by decide +kernel,by decide +kernel⟩ λ_ _ _ _ _ _=>ln1 λ_=>rfl,Al ⟨rfl,rfl,rfl,by decide +kernel,by decide +kernel,by decide +kernel,by decide +kernel⟩ λ_ _ _ _ _ _=>ln1 λ_=>rfl,Al ⟨rfl,rfl,rfl,by decide +kernel,by decide +kernel,by decide +kernel,by decide +kernel⟩ λ_ _ _ _ _ _=>ln2 λ_ _=>rfl,Al ⟨rfl,rfl,rfl,by decide +kernel,by decide +kernel,by decide +kernel,by decide +kernel⟩ λ_ _ _ _ _ _=>ln2 λ_ _=>rfl,Al ⟨rfl,rfl,rfl,by decide +kernel,by decide +kernel,by decide +kernel,by decide +kernel⟩ λ_ _ _ _ _ _=>ln2 λ_ _=>rfl,Al ⟨rfl,rfl,rfl,by decide +kernel,by decide +kernel,by decide +kernel,by decide +kernel⟩ λ_ _ _ _ _ _=>ln1 λ_=>rfl,Al ⟨rfl,rfl,rfl,by decide +kernel,by decide +kernel,by decide +kernel,by decide +kernel⟩ λ_ _ _ _ _ _=>ln3 λ_ _ _=>rfl,Al ⟨rfl,rfl,rfl,by decide +kernel,by decide +kernel,by decide +kernel,by decide +kernel⟩ λ_ _ _ _ _ _=>ln3 λ_ _ _=>rfl,Al ⟨rfl,rfl,rfl,by decide +kernel,by decide +kernel,by decide +kernel,by decide +kernel⟩ λ_ _ _ _ _ _=>ln2 λ_ _=>rfl,Al ⟨rfl,rfl,rfl,by decide +kernel,by decide +kernel,by decide +kernel,by decide +kernel⟩ λ_ _ _ _ _ _=>ln1 λ_=>rfl,Al ⟨rfl,rfl,rfl,by decide +kernel,by decide +kernel,by decide +kernel,by decide +kernel⟩ λ_ _ _ _ _ _=>ln3 λ_ _ _=>rfl,Al ⟨rfl,rfl,rfl,by decide +kernel,by decide +kernel,by decide +kernel,by decide +kernel⟩ λ_ _ _ _ _ _=>ln4 λ_ _ _ _=>rfl,Al ⟨rfl,rfl,rfl,by decide +kernel,by decide +kernel,by decide +kernel,by decide +kernel⟩ λ_ _ _ _ _ _=>ln1 λ_=>rfl,Al ⟨rfl,rfl,rfl,by decide +kernel,by decide +kernel,by decide +kernel,by decide +kernel⟩ λ_ _ _ _ _ _=>ln1 λ_=>rfl,Al ⟨rfl,rfl,rfl,by decide +kernel,by decide +kernel,by decide +kernel,by decide +kernel⟩ λ_ _ _ _ _ _=>ln1 λ_=>rfl,Al ⟨rfl,rfl,rfl,by decide +kernel,by decide +kernel,by decide +kernel,by decide +kernel⟩ λ_ _ _ _ _ _=>ln2 λ_ _=>rfl,Al ⟨rfl,rfl,rfl,by decide +kernel,by decide +kernel,by decide +kernel,by decide +kernel⟩ λ_ _ _ _ _ _=>ln2 λ_ _=>rfl,Al ⟨rfl,rfl,rfl,by decide +kernel,by decide +kernel,by decide +kernel,by decide +kernel⟩ λ_ _ _ _ _ _=>ln1 λ_=>rfl,Al ⟨rfl,rfl,rfl,by decide +kernel,by decide +kernel,by decide +kernel,by decide +kernel⟩ λ_ _ _ _ _ _=>ln2 λ_ _=>rfl,Al ⟨rfl,rfl,rfl,by decide +kernel,by decide +kernel,by decide +kernel,by decide +kernel⟩ λ_ _ _ _ _ _=>ln3 λ_ _ _=>rfl,Al ⟨rfl,rfl,rfl,by decide +kernel,by decide +kernel,by decide +kernel,by decide +kernel⟩ λ_ _ _ _ _ _=>ln1 λ_=>rfl,Al ⟨rfl,rfl,rfl,by decide +kernel,by decide +kernel,by decide +kernel,by decide +kernel⟩ λ_ _ _ _ _ _=>ln1 λ_=>rfl,Al ⟨rfl,rfl,rfl,by decide +kernel,by decide +kernel,by decide +kernel,by decide +kernel⟩ λ_ _ _ _ _ _=>ln2 λ_ _=>rfl,Al ⟨rfl,rfl,rfl,by decide +kernel,by decide +kernel,by decide +kernel,by decide +kernel⟩ λ_ _ _ _ _ _=>ln3 λ_ _ _=>rfl,Al ⟨rfl,rfl,rfl,by decide +kernel,by decide +kernel,by decide +kernel,by decide +kernel⟩ λ_ _ _ _ _ _=>ln3 λ_ _ _=>rfl,Al ⟨rfl,rfl,rfl,by decide +kernel,by decide +kernel,by decide +kernel,by decide +kernel⟩ λ_ _ _ _ _ _=>ln2 λ_ _=>rfl,Al ⟨rfl,rfl,rfl,by decide +kernel,by decide +kernel,by decide +kernel,by decide +kernel⟩ λ_ _ _ _ _ _=>ln3 λ_ _ _=>rfl,Al ⟨rfl,rfl,rfl,by decide +kernel,by decide +kernel,by decide +kernel,by decide +kernel⟩ λ_ _ _ _ _ _=>ln2 λ_ _=>rfl,Al ⟨rfl,rfl,rfl,by decide +kernel,by decide +kernel,by decide +kernel,by decide +kernel⟩ λ_ _ _ _ _ _=>ln2 λ_ _=>rfl,Al ⟨rfl,rfl,rfl,by decide +kernel,by decide +kernel,by decide +kernel,by decide +kernel⟩ λ_ _ _ _ _ _=>ln1 λ_=>rfl,Al ⟨rfl,rfl,rfl,by decide +kernel,by decide +kernel,by decide +kernel,by decide +kernel⟩ λ_ _ _ _ _ _=>ln3 λ_ _ _=>rfl,Al ⟨rfl,rfl,rfl,by decide +kernel,by decide +kernel,by decide +kernel,by decide +kernel⟩ λ_ _ _ _ _ _=>ln3 λ_ _ _=>rfl,Al ⟨rfl,rfl,rfl,by decide +kernel,by decide +kernel,by decide +kernel,by decide +kernel⟩ λ_ _ _ _ _ _=>ln2 λ_ _=>rfl,Al ⟨rfl,rfl,rfl,by decide +kernel,by decide +kernel,by decide +kernel,by decide +kernel⟩ λ_ _ _ _ _ _=>ln4 λ_ _ _ _=>rfl,Al ⟨rfl,rfl,rfl,by decide +kernel,by decide +kernel,by decide +kernel,by decide +kernel⟩ λ_ _ _ _ _ _=>ln4 λ_ _ _ _=>rfl,Al ⟨rfl,rfl,rfl,by decide +kernel,by decide +kernel,by decide +kernel,by decide +kernel⟩ λ_ _ _ _ _ _=>ln3 λ_ _ _=>rfl,Al ⟨rfl,rfl,rfl,by decide +kernel,by decide +kernel,by decide +kernel,by decide +kernel⟩ λ_ _ _ _ _ _=>ln3 λ_ _ _=>rfl,Al ⟨rfl,rfl,rfl,by decide +kernel,by decide +kernel,by decide +kernel,by decide +kernel⟩ λ_ _ _ _ _ _=>ln5 λ_ _ _ _ _=>rfl,Al ⟨rfl,rfl,rfl,by decide +kernel,by decide +kernel,by decide +kernel,by decide +kernel⟩ λ_ _ _ _ _ _=>ln5 λ_ _ _ _ _=>rfl,Al ⟨rfl,rfl,rfl,by decide +kernel,by decide +kernel,by decide +kernel,by decide +kernel⟩ λ_ _ _ _ _ _=>ln3 λ_ _ _=>rfl,Al ⟨rfl,rfl,rfl,by decide +kernel,by decide +kernel,by decide +kernel,by decide +kernel⟩ λ_ _ _ _ _ _=>ln2 λ_ _=>rfl,Al ⟨rfl,rfl,rfl,by decide +kernel,by decide +kernel,by decide +kernel,by decide +kernel⟩ λ_ _ _ _ _ _=>ln2 λ_ _=>rfl,Al ⟨rfl,rfl,rfl,by decide +kernel,by decide +kernel,by decide +kernel,by decide +kernel⟩ λ_ _ _ _ _ _=>ln1 λ_=>rfl,Al ⟨rfl,rfl,rfl,by decide +kernel,by decide +kernel,by decide +kernel,by decide +kernel⟩ λ_ _ _ _ _ _=>ln1 λ_=>rfl,Al ⟨rfl,rfl,rfl,by decide +kernel,by decide +kernel,by decide +kernel,by decide +kernel⟩ λ_ _ _ _ _ _=>ln3 λ_ _ _=>rfl,Al ⟨rfl,rfl,rfl,by decide +kernel,by decide +kernel,by decide +kernel,by decide +kernel⟩ λ_ _ _ _ _ _=>ln4 λ_ _ _ _=>rfl,Al ⟨rfl,rfl,rfl,by decide +kernel,by decide +kernel,by decide +kernel,by decide +kernel⟩ λ_ _ _ _ _ _=>ln6 λ_ _ _ _ _ _=>rfl,Al ⟨rfl,rfl,rfl,by decide +kernel,by decide +kernel,by decide +kernel,by decide +kernel⟩ λ_ _ _ _ _ _=>ln4 λ_ _ _ _=>rfl,Al ⟨rfl,rfl,rfl,by decide +kernel,by decide +kernel,by decide +kernel,by decide +kernel⟩ λ_ _ _ _ _ _=>ln2 λ_ _=>rfl,Al ⟨rfl,rfl,rfl,by decide +kernel,by decide +kernel,by decide +kernel,by decide +kernel⟩ λ_ _ _ _ _ _=>ln3 λ_ _ _=>rfl,Al ⟨rfl,rfl,rfl,by decide +kernel,by decide +kernel,by decide +kernel,by decide +kernel⟩ λ_ _ _ _ _ _=>ln2 λ_ _=>rfl,Al ⟨rfl,rfl,rfl,by decide +kernel,by decide +kernel,by decide +kernel,by decide +kernel⟩ λ_ _ _ _ _ _=>ln4 λ_ _ _ _=>rfl,Al ⟨rfl,rfl,rfl,by decide +kernel,by decide +kernel,by decide +kernel,by decide +kernel⟩ λ_ _ _ _ _ _=>ln1 λ_=>rfl,trivial⟩
noncomputable def aK:List (Str×D):=[("BELL_CHOICE",(.tup [(.int (-1)),(.int (0))])),("NUMBER_WORDS",(.tup [(.str "put"),(.str "copy"),(.str "raise"),(.str "sum"),(.str "choose")])),("NAME_WORDS",(.tup [(.str "me"),(.str "only"),(.str "pick")])),("SET_WORDS",(.tup [(.str "all"),(.str "empty"),(.str "join")])),("PLACE",(.int (0))),("NUMBERS",(.int (1))),("NAMES",(.int (2))),("SETS",(.int (3))),("BELL",(.int (4))),("NOBODY",(.int (-1))),("FALLEN",(.int (-1))),("ROOM",(.int (0))),("LEFT",(.int (1))),("ROLES",(.int (2))),("HANDS",(.int (3))),("PARTS",(.int (0))),("ROWS",(.int (1))),("LEFT_STILL",(.int (2)))]
noncomputable def con (x:Str):Option D:=aK.lookup x
noncomputable def Mg:List (Str×D):=[("put",(.tup [(.str "number box"),(.str "number")])),("copy",(.tup [(.str "number box"),(.str "number box")])),("raise",(.tup [(.str "number box"),(.str "number")])),("sum",(.tup [(.str "number box"),(.str "number box")])),("choose",(.tup [(.str "number box"),(.str "choices")])),("less",(.tup [(.str "number box"),(.str "number"),(.str "place")])),("before",(.tup [(.str "number box"),(.str "number box"),(.str "place")])),("go",(.tup [(.str "place")])),("me",(.tup [(.str "name box")])),("only",(.tup [(.str "name box"),(.str "lone role")])),("pick",(.tup [(.str "name box"),(.str "role")])),("alike",(.tup [(.str "name box"),(.str "name box"),(.str "place")])),("all",(.tup [(.str "set box"),(.str "role")])),("empty",(.tup [(.str "set box")])),("join",(.tup [(.str "set box"),(.str "name box")])),("out",(.tup [(.str "name box"),(.str "set box"),(.str "place")])),("many",(.tup [(.str "set box"),(.str "amount"),(.str "place")])),("send",(.tup [(.str "name box"),(.str "kind"),(.str "number box"),(.str "name box")])),("take",(.tup [(.str "name box or -1"),(.str "lines")])),("bell",(.tup []))]
noncomputable def N7:List (Str×D):=[("number box",(.tup [(.int (0)),(.int (2))])),("name box",(.tup [(.int (0)),(.int (2))])),("name box or -1",(.tup [(.int (-1)),(.int (2))])),("set box",(.tup [(.int (0)),(.int (1))])),("kind",(.tup [(.int (1)),(.int (12))])),("choices",(.tup [(.int (1)),(.int (20))])),("amount",(.tup [(.int (0)),(.int (6))]))]
noncomputable def Fy:List (Str×D):=[("never",(.tup [(.str "test")])),("behind",(.tup [(.str "test"),(.str "test")])),("comes",(.tup [(.str "test"),(.str "test")]))]
noncomputable def Gw:List (Str×D):=[("count",(.tup [(.str "role"),(.str "test of a hand"),(.str "share"),(.str "share")])),("letters",(.tup [(.str "kind"),(.str "amount"),(.str "amount")])),("not",(.tup [(.str "test")])),("both",(.tup [(.str "test"),(.str "test")])),("either",(.tup [(.str "test"),(.str "test")]))]
noncomputable def Gx:List (Str×D):=[("at",(.tup [(.str "place")])),("number",(.tup [(.str "box"),(.str "bound"),(.str "bound")])),("has",(.tup [(.str "box")])),("many",(.tup [(.str "set box"),(.str "members")])),("bell",(.tup [])),("fallen",(.tup [])),("not",(.tup [(.str "test of a hand")])),("both",(.tup [(.str "test of a hand"),(.str "test of a hand")])),("either",(.tup [(.str "test of a hand"),(.str "test of a hand")]))]
noncomputable def N8:List (Str×D):=[("kind",(.tup [(.int (1)),(.int (12))])),("place",(.tup [(.int (0)),(.int (60))])),("box",(.tup [(.int (0)),(.int (2))])),("set box",(.tup [(.int (0)),(.int (1))])),("members",(.tup [(.int (0)),(.int (6))]))]
noncomputable def dic (x:Str):Option (List (Str×D)):=if x=="FORMS" then some Mg else if x=="BOUNDS" then some N7 else if x=="CLAIM_FORMS" then some Fy else if x=="TEST_FORMS" then some Gw else if x=="HAND_FORMS" then some Gx else if x=="RANGES" then some N8 else none
noncomputable def fld (c f:Str):Bool:=(c == "Step"&&f == "form") || ((c == "Trail"&&f == "pairs") || ((c == "Trail"&&f == "origins") || ((c == "Trail"&&f == "places"))))
noncomputable def tbm (c m:Str):Option FnI:=if c == "Step"&&m == "told" then some pA else if c == "Trail"&&m == "come_to" then some Ka else if c == "Trail"&&m == "way_to" then some Kc else if c == "Trail"&&m == "way" then some Kd else none
noncomputable def mkr (c:Str):Option (List (Str×InF)):=if c == "Step" then some [("form",.par)] else none
noncomputable def ml0:MakL:=Ab6 (top 127) 2 0 "gone" "go_through"
noncomputable def Aca (x:Str):Option (List (Str×InF)):=if x=="Trail" then some [("pairs",.nl),("origins",.nl),("places",.nd)] else none
noncomputable def sl0:MH:=[.plq "go_plainly"]
noncomputable def Tt:Tb:={ tb:=tb,con:=con,dic:=dic,fld:=fld,tbm:=tbm,mkr:=mkr,mal:=λx=>if x=="go_plainly" then some ml0 else none,mk0:=Aca }
theorem scq {N P:List Str}{sc:Scope}(a:sc.kind=.function)(b:sc.isCoroutine=false)(c:sc.isGenerator=false)(h:N.Nodup/\N.take P.length=P/\(∀ x∈P,sc.names.lookup x=some .local\/sc.names.lookup x=some .cell)/\∀ y∈sc.names,y.2≠.free):FnScope N P sc:=⟨a,b,c,h.1,h.2.1,h.2.2.1,h.2.2.2⟩
theorem Acb:FnScope pA.N pA.ps (Ac G9):=scq rfl rfl rfl (by decide +kernel)
theorem vN:FnScope Ka.N Ka.ps (Ac Ed):=scq rfl rfl rfl (by decide +kernel)
theorem vO:FnScope Kc.N Kc.ps (Ac Ef):=scq rfl rfl rfl (by decide +kernel)
theorem vP:FnScope Kd.N Kd.ps (Ac Eg):=scq rfl rfl rfl (by decide +kernel)
theorem pB:f10.ps.length=4/\f10.N.length=4:=by decide +kernel
theorem Mh:f43.ps.length=3/\f43.N.length=4:=by decide +kernel
theorem pC:f53.ps.length=1/\f53.N.length=6:=by decide +kernel
theorem pD:f54.ps.length=1/\f54.N.length=1:=by decide +kernel
theorem pF:f55.ps.length=1/\f55.N.length=1:=by decide +kernel
theorem pG:f56.ps.length=2/\f56.N.length=2:=by decide +kernel
theorem pH:f57.ps.length=2/\f57.N.length=2:=by decide +kernel
theorem pI:f58.ps.length=1/\f58.N.length=1:=by decide +kernel
theorem pJ:f72.ps.length=3/\f72.N.length=5:=by decide +kernel
theorem Uj:f74.ps.length=2/\f74.N.length=5:=by decide +kernel
theorem pK:f75.ps.length=3/\f75.N.length=4:=by decide +kernel
theorem pL:f76.ps.length=2/\f76.N.length=3:=by decide +kernel
theorem pM:f90.ps.length=4/\f90.N.length=4:=by decide +kernel
theorem aL:oU.ps.length=2/\oU.N.length=5:=by decide +kernel
theorem aM:oW.ps.length=4/\oW.N.length=8:=by decide +kernel
theorem aN:oX.ps.length=6/\oX.N.length=11:=by decide +kernel
theorem aO:eG.ps.length=4/\eG.N.length=5:=by decide +kernel
theorem aP:oY.ps.length=2/\oY.N.length=2:=by decide +kernel
theorem aQ:oZ.ps.length=3/\oZ.N.length=4:=by decide +kernel
theorem aR:Qa.ps.length=2/\Qa.N.length=2:=by decide +kernel
theorem aU:Yp.ps.length=4/\Yp.N.length=8:=by decide +kernel
theorem aV:eN.ps.length=1/\eN.N.length=7:=by decide +kernel
theorem Rr:Ka.ps.length=3/\Ka.N.length=3:=by decide +kernel
theorem Rt:Kc.ps.length=2/\Kc.N.length=4:=by decide +kernel
theorem Ru:Kd.ps.length=1/\Kd.N.length=1:=by decide +kernel
theorem Aez:LamDef2 (Bc (top 127)) ml0 (top 127):=⟨⟨_,_,_,_,_,_,_,_,rfl,rfl,λ_=>rfl,λ_ _ _ _ _ _=>ln1 λ_=>rfl⟩,⟨rfl,rfl,rfl,by decide +kernel,by decide +kernel,by decide +kernel,by decide +kernel,λx h=>nM (gm h),by decide +kernel⟩,rfl,by decide +kernel,by decide +kernel,by decide +kernel,⟨by decide +kernel,by decide +kernel⟩,by decide +kernel,Ab5 (by decide +kernel)⟩
theorem Af7 {w:World}{K:W.Frag}{h:Heap}{mg:Str->Option Value}(X:K.In h) (G:h.Ns mainGlobals mg){da0:Addr} {es0:Array DictEntry} {ep0:Nat}{da1:Addr} {es1:Array DictEntry} {ep1:Nat}{da2:Addr} {es2:Array DictEntry} {ep2:Nat}{da3:Addr} {es3:Array DictEntry} {ep3:Nat}{da4:Addr} {es4:Array DictEntry} {ep4:Nat}{da5:Addr} {es5:Array DictEntry} {ep5:Nat}{C42:Addr}{C121:Addr}{f42_1':Addr} {od42_1 an42_1:Option Addr} {sl42_1:Array (Option Value)} {oc42_1 kV42_1 dc42_1 pm42_1 cd42_1 ct42_1:Value}{f121_1':Addr} {od121_1 an121_1:Option Addr} {sl121_1:Array (Option Value)} {oc121_1 kV121_1 dc121_1 pm121_1 cd121_1 ct121_1:Value}{f121_2':Addr} {od121_2 an121_2:Option Addr} {sl121_2:Array (Option Value)} {oc121_2 kV121_2 dc121_2 pm121_2 cd121_2 ct121_2:Value}{f121_3':Addr} {od121_3 an121_3:Option Addr} {sl121_3:Array (Option Value)} {oc121_3 kV121_3 dc121_3 pm121_3 cd121_3 ct121_3:Value}{f42_0':Addr} {od42_0 an42_0:Option Addr} {sl42_0:Array (Option Value)} {oc42_0 kV42_0 dc42_0 pm42_0 cd42_0 ct42_0:Value}{f121_0':Addr} {od121_0 an121_0:Option Addr} {sl121_0:Array (Option Value)} {oc121_0 kV121_0 dc121_0 pm121_0 cd121_0 ct121_0:Value}(rf:Ju K Wh)(rb:K8 K G8)(rc:K7 K aK)(d0:W.nsIn K mainGlobals "FORMS"=some (some (.ref da0)))(e0:K.lookup da0=some ⟨.type "dict",none,.dict es0 ep0,#[]⟩)(g0:(da0==sysModules)=false)(h0:es0.toList.map (Ds w)=es0.toList)(r0:rdE K 60 es0.toList=some Mg)(d1:W.nsIn K mainGlobals "BOUNDS"=some (some (.ref da1)))(e1:K.lookup da1=some ⟨.type "dict",none,.dict es1 ep1,#[]⟩)(g1:(da1==sysModules)=false)(h1:es1.toList.map (Ds w)=es1.toList)(r1:rdE K 60 es1.toList=some N7)(d2:W.nsIn K mainGlobals "CLAIM_FORMS"=some (some (.ref da2)))(e2:K.lookup da2=some ⟨.type "dict",none,.dict es2 ep2,#[]⟩)(g2:(da2==sysModules)=false)(h2:es2.toList.map (Ds w)=es2.toList)(r2:rdE K 60 es2.toList=some Fy)(d3:W.nsIn K mainGlobals "TEST_FORMS"=some (some (.ref da3)))(e3:K.lookup da3=some ⟨.type "dict",none,.dict es3 ep3,#[]⟩)(g3:(da3==sysModules)=false)(h3:es3.toList.map (Ds w)=es3.toList)(r3:rdE K 60 es3.toList=some Gw)(d4:W.nsIn K mainGlobals "HAND_FORMS"=some (some (.ref da4)))(e4:K.lookup da4=some ⟨.type "dict",none,.dict es4 ep4,#[]⟩)(g4:(da4==sysModules)=false)(h4:es4.toList.map (Ds w)=es4.toList)(r4:rdE K 60 es4.toList=some Gx)(d5:W.nsIn K mainGlobals "RANGES"=some (some (.ref da5)))(e5:K.lookup da5=some ⟨.type "dict",none,.dict es5 ep5,#[]⟩)(g5:(da5==sysModules)=false)(h5:es5.toList.map (Ds w)=es5.toList)(r5:rdE K 60 es5.toList=some N8)(C42a:W.nsIn K mainGlobals "Step"=some (some (.ref C42)))(C42b:W.plainGet K C42 Str.empty=true)(C42c:W.hasDictIn K C42=true)(C42d:W.plainOver K C42=true)(C42e:W.findIn K (.ref C42) "__setattr__"=some (some (.builtin "object.__setattr__")))(C121a:W.nsIn K mainGlobals "Trail"=some (some (.ref C121)))(C121b:W.plainGet K C121 Str.empty=true)(C121c:W.hasDictIn K C121=true)(C121d:W.plainOver K C121=true)(C121e:W.findIn K (.ref C121) "__setattr__"=some (some (.builtin "object.__setattr__")))(C42f0:W.findIn K (.ref C42) "form"=some none)(C121f0:W.findIn K (.ref C121) "pairs"=some none)(C121f1:W.findIn K (.ref C121) "origins"=some none)(C121f2:W.findIn K (.ref C121) "places"=some none)(a42_1:W.findIn K (.ref C42) "told"=some (some (.ref f42_1')))(b42_1:W.isFn K (.ref f42_1')=true)(l42_1:K.lookup f42_1'=some ⟨oc42_1,od42_1,.func (W.fnOf "told" "Step.told" (Av G9) (Aj G9) (Ac G9) .none kV42_1 dc42_1 pm42_1 an42_1 cd42_1 ct42_1),sl42_1⟩)(c42_1:W.codeIn K cd42_1 "Step.told"=true)(k42_1:W.keepIn K (.ref f42_1')=true)(a121_1:W.findIn K (.ref C121) "come_to"=some (some (.ref f121_1')))(Hs:W.isFn K (.ref f121_1')=true)(l121_1:K.lookup f121_1'=some ⟨oc121_1,od121_1,.func (W.fnOf "come_to" "Trail.come_to" (Av Ed) (Aj Ed) (Ac Ed) .none kV121_1 dc121_1 pm121_1 an121_1 cd121_1 ct121_1),sl121_1⟩)(c121_1:W.codeIn K cd121_1 "Trail.come_to"=true)(k121_1:W.keepIn K (.ref f121_1')=true)(a121_2:W.findIn K (.ref C121) "way_to"=some (some (.ref f121_2')))(Ht:W.isFn K (.ref f121_2')=true)(l121_2:K.lookup f121_2'=some ⟨oc121_2,od121_2,.func (W.fnOf "way_to" "Trail.way_to" (Av Ef) (Aj Ef) (Ac Ef) .none kV121_2 dc121_2 pm121_2 an121_2 cd121_2 ct121_2),sl121_2⟩)(c121_2:W.codeIn K cd121_2 "Trail.way_to"=true)(k121_2:W.keepIn K (.ref f121_2')=true)(a121_3:W.findIn K (.ref C121) "way"=some (some (.ref f121_3')))(Hu:W.isFn K (.ref f121_3')=true)(l121_3:K.lookup f121_3'=some ⟨oc121_3,od121_3,.func (W.fnOf "way" "Trail.way" (Av Eg) (Aj Eg) (Ac Eg) .none kV121_3 dc121_3 pm121_3 an121_3 cd121_3 ct121_3),sl121_3⟩)(c121_3:W.codeIn K cd121_3 "Trail.way"=true)(k121_3:W.keepIn K (.ref f121_3')=true)(a42_0:W.findIn K (.ref C42) "__init__"=some (some (.ref f42_0')))(b42_0:W.isFn K (.ref f42_0')=true)(l42_0:K.lookup f42_0'=some ⟨oc42_0,od42_0,.func (W.fnOf "__init__" "Step.__init__" (Av (Cj (top 42) 0)) (Aj (Cj (top 42) 0)) (Ac (Cj (top 42) 0)) .none kV42_0 dc42_0 pm42_0 an42_0 cd42_0 ct42_0),sl42_0⟩)(c42_0:W.codeIn K cd42_0 "Step.__init__"=true)(k42_0:W.keepIn K (.ref f42_0')=true)(a121_0:W.findIn K (.ref C121) "__init__"=some (some (.ref f121_0')))(b121_0:W.isFn K (.ref f121_0')=true)(l121_0:K.lookup f121_0'=some ⟨oc121_0,od121_0,.func (W.fnOf "__init__" "Trail.__init__" (Av (Cj (top 121) 0)) (Aj (Cj (top 121) 0)) (Ac (Cj (top 121) 0)) .none kV121_0 dc121_0 pm121_0 an121_0 cd121_0 ct121_0),sl121_0⟩)(c121_0:W.codeIn K cd121_0 "Trail.__init__"=true)(k121_0:W.keepIn K (.ref f121_0')=true)(C42m:W.makesIn K C42=true)(C42k:W.keepIn K (.ref C42)=true)(C121m:W.makesIn K C121=true)(C121k:W.keepIn K (.ref C121)=true):TbOk w K mg Tt:=by
 refine ⟨λx I hx=>?_,λx d hx=>?_,λb hb=>?_,λx kvs hx=>?_,λc f hx=>?_,λc m I hx=>?_,λc f hx=>?_,λx y hx=>?_,λx m hx=>?_,λx m hx=>?_,λc f hx=>?_⟩
 ·exact Z9 X G rf Wi hx
 ·show nC K mg x d;change con x=some d at hx;unfold con at hx;exact Wa X G rc hx
 ·exact Wb X G rb b hb
 ·change dic x=some kvs at hx;unfold dic at hx;split at hx
  ·rename_i e;rw [bw e];cases hx;exact ⟨_,W.mg_of X G d0,Lh g0 e0 h0 r0⟩
  ·
   split at hx
   ·rename_i e;rw [bw e];cases hx;exact ⟨_,W.mg_of X G d1,Lh g1 e1 h1 r1⟩
   ·
    split at hx
    ·rename_i e;rw [bw e];cases hx;exact ⟨_,W.mg_of X G d2,Lh g2 e2 h2 r2⟩
    ·
     split at hx
     ·rename_i e;rw [bw e];cases hx;exact ⟨_,W.mg_of X G d3,Lh g3 e3 h3 r3⟩
     ·
      split at hx
      ·rename_i e;rw [bw e];cases hx;exact ⟨_,W.mg_of X G d4,Lh g4 e4 h4 r4⟩
      ·
       split at hx
       ·rename_i e;rw [bw e];cases hx;exact ⟨_,W.mg_of X G d5,Lh g5 e5 h5 r5⟩
       ·cases hx
 ·change fld c f=true at hx;unfold fld at hx;simp only [zp,aq,beq_iff_eq] at hx;rcases hx with ⟨rfl,rfl⟩|⟨rfl,rfl⟩|⟨rfl,rfl⟩|⟨rfl,rfl⟩
  ·exact ⟨_,C42a,⟨C42b,C42c,C42d,C42e⟩,C42f0⟩
  ·exact ⟨_,C121a,⟨C121b,C121c,C121d,C121e⟩,C121f0⟩
  ·exact ⟨_,C121a,⟨C121b,C121c,C121d,C121e⟩,C121f1⟩
  ·exact ⟨_,C121a,⟨C121b,C121c,C121d,C121e⟩,C121f2⟩
 ·change tbm c m=some I at hx;unfold tbm at hx;split at hx
  ·rename_i e;rw [aq] at e;rw [bw e.1,bw e.2];cases hx;exact ⟨_,G9,_,_,_,C42a,⟨C42b,C42c,C42d,C42e⟩,⟨a42_1,b42_1,k42_1⟩,(Jz (st:=G9) l42_1 c42_1 k42_1),Acb,rfl,rfl,ln1 λ_=>rfl⟩
  ·
   split at hx
   ·rename_i e;rw [aq] at e;rw [bw e.1,bw e.2];cases hx;exact ⟨_,Ed,_,_,_,C121a,⟨C121b,C121c,C121d,C121e⟩,⟨a121_1,Hs,k121_1⟩,(Jz (st:=Ed) l121_1 c121_1 k121_1),vN,rfl,rfl,ln3 λ_ _ _=>rfl⟩
   ·
    split at hx
    ·rename_i e;rw [aq] at e;rw [bw e.1,bw e.2];cases hx;exact ⟨_,Ef,_,_,_,C121a,⟨C121b,C121c,C121d,C121e⟩,⟨a121_2,Ht,k121_2⟩,(Jz (st:=Ef) l121_2 c121_2 k121_2),vO,rfl,rfl,ln2 λ_ _=>rfl⟩
    ·
     split at hx
     ·rename_i e;rw [aq] at e;rw [bw e.1,bw e.2];cases hx;exact ⟨_,Eg,_,_,_,C121a,⟨C121b,C121c,C121d,C121e⟩,⟨a121_3,Hu,k121_3⟩,(Jz (st:=Eg) l121_3 c121_3 k121_3),vP,rfl,rfl,ln1 λ_=>rfl⟩
     ·cases hx
 ·change mkr c=some f at hx;unfold mkr at hx;split at hx
  ·rename_i e;rw [bw e];cases hx;exact ⟨_,_,_,["self", "form"],C42a,⟨C42m,a42_0,b42_0,C42k⟩,W.mg_of X G C42a,.all (ln2 λ_ _=>rfl),λP w base=>lV (Jz (st:=Cj (top 42) 0) l42_0 c42_0 k42_0) ⟨rfl,rfl,rfl,by decide +kernel,by decide +kernel,by decide +kernel,by decide +kernel⟩ (.par .nil) (.inl (by decide +kernel)) (.inl (by decide +kernel)) ⟨C42b,C42c,C42d,C42e⟩ (Ny C42f0 (λ_ h=>nomatch h)) (by decide +kernel) (by decide) (by decide) (by decide)⟩
  ·cases hx
 ·cases hx
 ·cases hx
 ·change (if x=="go_plainly" then some ml0 else none)=some m at hx;split at hx
  ·rename_i e;rw [bw e];cases hx;exact λI hI=>aD X G Aez (by decide +kernel) rfl rf Wi rfl hI
  ·cases hx
 ·change Aca c=some f at hx;unfold Aca at hx;split at hx
  ·rename_i e;rw [bw e];cases hx;exact ⟨_,_,_,["self"],C121a,⟨C121m,a121_0,b121_0,C121k⟩,W.mg_of X G C121a,.all (ln1 λ_=>rfl),λP w base=>lX (Jz (st:=Cj (top 121) 0) l121_0 c121_0 k121_0) ⟨rfl,rfl,rfl,by decide +kernel,by decide +kernel,by decide +kernel,by decide +kernel⟩ (.nl (.nl (.nd .nil))) (.inl (by decide +kernel)) ⟨C121b,C121c,C121d,C121e⟩ (Ny C121f0 (Ny C121f1 (Ny C121f2 (λ_ h=>nomatch h)))) (by decide +kernel) (by decide) (by decide)⟩
  ·cases hx
theorem tbN {w:World}{K:W.Frag}{h:Heap}{mg:Str->Option Value}(X:K.In h) (G:h.Ns mainGlobals mg) {pl0 lf0 lk0:Addr}{lo0:Value}{ld0 le0':Option Addr}{fd0:FuncData}{ls0 lt0:Array (Option Value)}{lw0:Array Value}{bm:Addr}{bsl:Array (Option Value)}
  {da0:Addr} {es0:Array DictEntry} {ep0:Nat}
  {da1:Addr} {es1:Array DictEntry} {ep1:Nat}
  {da2:Addr} {es2:Array DictEntry} {ep2:Nat}
  {da3:Addr} {es3:Array DictEntry} {ep3:Nat}
  {da4:Addr} {es4:Array DictEntry} {ep4:Nat}
  {da5:Addr} {es5:Array DictEntry} {ep5:Nat}
  {C42:Addr}
  {C121:Addr}
  {f42_1':Addr} {od42_1 an42_1:Option Addr} {sl42_1:Array (Option Value)} {oc42_1 kV42_1 dc42_1 pm42_1 cd42_1 ct42_1:Value}
  {f121_1':Addr} {od121_1 an121_1:Option Addr} {sl121_1:Array (Option Value)} {oc121_1 kV121_1 dc121_1 pm121_1 cd121_1 ct121_1:Value}
  {f121_2':Addr} {od121_2 an121_2:Option Addr} {sl121_2:Array (Option Value)} {oc121_2 kV121_2 dc121_2 pm121_2 cd121_2 ct121_2:Value}
  {f121_3':Addr} {od121_3 an121_3:Option Addr} {sl121_3:Array (Option Value)} {oc121_3 kV121_3 dc121_3 pm121_3 cd121_3 ct121_3:Value}
  {f42_0':Addr} {od42_0 an42_0:Option Addr} {sl42_0:Array (Option Value)} {oc42_0 kV42_0 dc42_0 pm42_0 cd42_0 ct42_0:Value}
  {f121_0':Addr} {od121_0 an121_0:Option Addr} {sl121_0:Array (Option Value)} {oc121_0 kV121_0 dc121_0 pm121_0 cd121_0 ct121_0:Value}
  (la0:W.nsIn K mainGlobals "go_plainly"=some (some (.ref lf0)))
  (ll0:K.lookup lf0=some ⟨lo0,ld0,.func fd0,ls0⟩)
  (lx0:fd0.code=.ref lk0)
  (lc0:K.lookup lk0=some ⟨.type "code",le0',.fields lw0,lt0⟩)
  (lv0:lw0.getD 11 .none=.ref pl0)
  (lp0:K.lookup pl0=some (W.tabObj #[]))
  (lh0:W.codeHdIn K lk0 pl0=true)
  (lb:W.nsIn K mainGlobals "__builtins__"=some (some (.ref bm)))
  (lm:K.lookup bm=some ⟨.type "module",some builtinsNs,.plain,bsl⟩)
  (l6:bm≠builtinsNs)
  (l7:bm≠mainGlobals)
  (nd:[pl0].Nodup)
  (rf:Ju K Wh)
  (rb:K8 K G8)
  (rc:K7 K aK)
  (d0:W.nsIn K mainGlobals "FORMS"=some (some (.ref da0)))
  (e0:K.lookup da0=some ⟨.type "dict",none,.dict es0 ep0,#[]⟩)
  (g0:(da0==sysModules)=false)
  (h0:es0.toList.map (Ds w)=es0.toList)
  (r0:rdE K 60 es0.toList=some Mg)
  (d1:W.nsIn K mainGlobals "BOUNDS"=some (some (.ref da1)))
  (e1:K.lookup da1=some ⟨.type "dict",none,.dict es1 ep1,#[]⟩)
  (g1:(da1==sysModules)=false)
  (h1:es1.toList.map (Ds w)=es1.toList)
  (r1:rdE K 60 es1.toList=some N7)
  (d2:W.nsIn K mainGlobals "CLAIM_FORMS"=some (some (.ref da2)))
  (e2:K.lookup da2=some ⟨.type "dict",none,.dict es2 ep2,#[]⟩)
  (g2:(da2==sysModules)=false)
  (h2:es2.toList.map (Ds w)=es2.toList)
  (r2:rdE K 60 es2.toList=some Fy)
  (d3:W.nsIn K mainGlobals "TEST_FORMS"=some (some (.ref da3)))
  (e3:K.lookup da3=some ⟨.type "dict",none,.dict es3 ep3,#[]⟩)
  (g3:(da3==sysModules)=false)
  (h3:es3.toList.map (Ds w)=es3.toList)
  (r3:rdE K 60 es3.toList=some Gw)
  (d4:W.nsIn K mainGlobals "HAND_FORMS"=some (some (.ref da4)))
  (e4:K.lookup da4=some ⟨.type "dict",none,.dict es4 ep4,#[]⟩)
  (g4:(da4==sysModules)=false)
  (h4:es4.toList.map (Ds w)=es4.toList)
  (r4:rdE K 60 es4.toList=some Gx)
  (d5:W.nsIn K mainGlobals "RANGES"=some (some (.ref da5)))
  (e5:K.lookup da5=some ⟨.type "dict",none,.dict es5 ep5,#[]⟩)
  (g5:(da5==sysModules)=false)
  (h5:es5.toList.map (Ds w)=es5.toList)
  (r5:rdE K 60 es5.toList=some N8)
  (C42a:W.nsIn K mainGlobals "Step"=some (some (.ref C42)))
  (C42b:W.plainGet K C42 Str.empty=true)
  (C42c:W.hasDictIn K C42=true)
  (C42d:W.plainOver K C42=true)
  (C42e:W.findIn K (.ref C42) "__setattr__"=some (some (.builtin "object.__setattr__")))
  (C121a:W.nsIn K mainGlobals "Trail"=some (some (.ref C121)))
  (C121b:W.plainGet K C121 Str.empty=true)
  (C121c:W.hasDictIn K C121=true)
  (C121d:W.plainOver K C121=true)
  (C121e:W.findIn K (.ref C121) "__setattr__"=some (some (.builtin "object.__setattr__")))
  (C42f0:W.findIn K (.ref C42) "form"=some none)
  (C121f0:W.findIn K (.ref C121) "pairs"=some none)
  (C121f1:W.findIn K (.ref C121) "origins"=some none)
  (C121f2:W.findIn K (.ref C121) "places"=some none)
  (a42_1:W.findIn K (.ref C42) "told"=some (some (.ref f42_1')))
  (b42_1:W.isFn K (.ref f42_1')=true)
  (l42_1:K.lookup f42_1'=some ⟨oc42_1,od42_1,.func (W.fnOf "told" "Step.told" (Av G9) (Aj G9) (Ac G9) .none kV42_1 dc42_1 pm42_1 an42_1 cd42_1 ct42_1),sl42_1⟩)
  (c42_1:W.codeIn K cd42_1 "Step.told"=true)
  (k42_1:W.keepIn K (.ref f42_1')=true)
  (a121_1:W.findIn K (.ref C121) "come_to"=some (some (.ref f121_1')))
  (Hs:W.isFn K (.ref f121_1')=true)
  (l121_1:K.lookup f121_1'=some ⟨oc121_1,od121_1,.func (W.fnOf "come_to" "Trail.come_to" (Av Ed) (Aj Ed) (Ac Ed) .none kV121_1 dc121_1 pm121_1 an121_1 cd121_1 ct121_1),sl121_1⟩)
  (c121_1:W.codeIn K cd121_1 "Trail.come_to"=true)
  (k121_1:W.keepIn K (.ref f121_1')=true)
  (a121_2:W.findIn K (.ref C121) "way_to"=some (some (.ref f121_2')))
  (Ht:W.isFn K (.ref f121_2')=true)
  (l121_2:K.lookup f121_2'=some ⟨oc121_2,od121_2,.func (W.fnOf "way_to" "Trail.way_to" (Av Ef) (Aj Ef) (Ac Ef) .none kV121_2 dc121_2 pm121_2 an121_2 cd121_2 ct121_2),sl121_2⟩)
  (c121_2:W.codeIn K cd121_2 "Trail.way_to"=true)
  (k121_2:W.keepIn K (.ref f121_2')=true)
  (a121_3:W.findIn K (.ref C121) "way"=some (some (.ref f121_3')))
  (Hu:W.isFn K (.ref f121_3')=true)
  (l121_3:K.lookup f121_3'=some ⟨oc121_3,od121_3,.func (W.fnOf "way" "Trail.way" (Av Eg) (Aj Eg) (Ac Eg) .none kV121_3 dc121_3 pm121_3 an121_3 cd121_3 ct121_3),sl121_3⟩)
  (c121_3:W.codeIn K cd121_3 "Trail.way"=true)
  (k121_3:W.keepIn K (.ref f121_3')=true)
  (a42_0:W.findIn K (.ref C42) "__init__"=some (some (.ref f42_0')))
  (b42_0:W.isFn K (.ref f42_0')=true)
  (l42_0:K.lookup f42_0'=some ⟨oc42_0,od42_0,.func (W.fnOf "__init__" "Step.__init__" (Av (Cj (top 42) 0)) (Aj (Cj (top 42) 0)) (Ac (Cj (top 42) 0)) .none kV42_0 dc42_0 pm42_0 an42_0 cd42_0 ct42_0),sl42_0⟩)
  (c42_0:W.codeIn K cd42_0 "Step.__init__"=true)
  (k42_0:W.keepIn K (.ref f42_0')=true)
  (a121_0:W.findIn K (.ref C121) "__init__"=some (some (.ref f121_0')))
  (b121_0:W.isFn K (.ref f121_0')=true)
  (l121_0:K.lookup f121_0'=some ⟨oc121_0,od121_0,.func (W.fnOf "__init__" "Trail.__init__" (Av (Cj (top 121) 0)) (Aj (Cj (top 121) 0)) (Ac (Cj (top 121) 0)) .none kV121_0 dc121_0 pm121_0 an121_0 cd121_0 ct121_0),sl121_0⟩)
  (c121_0:W.codeIn K cd121_0 "Trail.__init__"=true)
  (k121_0:W.keepIn K (.ref f121_0')=true)
  (C42m:W.makesIn K C42=true)
  (C42k:W.keepIn K (.ref C42)=true)
  (C121m:W.makesIn K C121=true)
  (C121k:W.keepIn K (.ref C121)=true):∃ pls,Ym K pls/\Slots K sl0 pls/\TbOk w (J8 pls K) mg Tt:=by
 have t:Ym K [pl0]:=⟨nd,λp hp=>by
  simp only [gn,List.not_mem_nil,or_false] at hp;rcases hp with rfl
  ·exact lp0⟩
 exact ⟨[pl0],t,⟨⟨lf0,_,fd0,lk0,bm,_,la0,ll0,rfl,lx0,lh0,lb,lm,rfl,rfl,rfl,l6,l7⟩,trivial⟩,Af7 (Ab (Q:=λK=>K.In h) (λ_ X=>Ua X) t X) G
  (Ab (Q:=λK=>Ju K Wh) (λe q=>aA e q) t rf)
  (Ab (Q:=λK=>K8 K G8) (λe q=>aB e q) t rb)
  (Ab (Q:=λK=>K7 K aK) (λe q=>aC e q) t rc)
  (Ab (Q:=λK=>W.nsIn K mainGlobals "FORMS"=some (some (.ref da0))) (λe q=>Dl e q) t d0)
  (Ab (Q:=λK=>K.lookup da0=some ⟨.type "dict",none,.dict es0 ep0,#[]⟩) (λe q=>Bo e q (by intro z;cases z)) t e0)
  g0
  h0
  (Ab (Q:=λK=>rdE K 60 es0.toList=some Mg) (λe q=>Hr e 60 q) t r0)
  (Ab (Q:=λK=>W.nsIn K mainGlobals "BOUNDS"=some (some (.ref da1))) (λe q=>Dl e q) t d1)
  (Ab (Q:=λK=>K.lookup da1=some ⟨.type "dict",none,.dict es1 ep1,#[]⟩) (λe q=>Bo e q (by intro z;cases z)) t e1)
  g1
  h1
  (Ab (Q:=λK=>rdE K 60 es1.toList=some N7) (λe q=>Hr e 60 q) t r1)
  (Ab (Q:=λK=>W.nsIn K mainGlobals "CLAIM_FORMS"=some (some (.ref da2))) (λe q=>Dl e q) t d2)
  (Ab (Q:=λK=>K.lookup da2=some ⟨.type "dict",none,.dict es2 ep2,#[]⟩) (λe q=>Bo e q (by intro z;cases z)) t e2)
  g2
  h2
  (Ab (Q:=λK=>rdE K 60 es2.toList=some Fy) (λe q=>Hr e 60 q) t r2)
  (Ab (Q:=λK=>W.nsIn K mainGlobals "TEST_FORMS"=some (some (.ref da3))) (λe q=>Dl e q) t d3)
  (Ab (Q:=λK=>K.lookup da3=some ⟨.type "dict",none,.dict es3 ep3,#[]⟩) (λe q=>Bo e q (by intro z;cases z)) t e3)
  g3
  h3
  (Ab (Q:=λK=>rdE K 60 es3.toList=some Gw) (λe q=>Hr e 60 q) t r3)
  (Ab (Q:=λK=>W.nsIn K mainGlobals "HAND_FORMS"=some (some (.ref da4))) (λe q=>Dl e q) t d4)
  (Ab (Q:=λK=>K.lookup da4=some ⟨.type "dict",none,.dict es4 ep4,#[]⟩) (λe q=>Bo e q (by intro z;cases z)) t e4)
  g4
  h4
  (Ab (Q:=λK=>rdE K 60 es4.toList=some Gx) (λe q=>Hr e 60 q) t r4)
  (Ab (Q:=λK=>W.nsIn K mainGlobals "RANGES"=some (some (.ref da5))) (λe q=>Dl e q) t d5)
  (Ab (Q:=λK=>K.lookup da5=some ⟨.type "dict",none,.dict es5 ep5,#[]⟩) (λe q=>Bo e q (by intro z;cases z)) t e5)
  g5
  h5
  (Ab (Q:=λK=>rdE K 60 es5.toList=some N8) (λe q=>Hr e 60 q) t r5)
  (Ab (Q:=λK=>W.nsIn K mainGlobals "Step"=some (some (.ref C42))) (λe q=>Dl e q) t C42a)
  (Ab (Q:=λK=>W.plainGet K C42 Str.empty=true) (λe q=>(nO e _ _).trans q) t C42b)
  (Ab (Q:=λK=>W.hasDictIn K C42=true) (λe q=>(nP e _).trans q) t C42c)
  (Ab (Q:=λK=>W.plainOver K C42=true) (λe q=>(nQ e _).trans q) t C42d)
  (Ab (Q:=λK=>W.findIn K (.ref C42) "__setattr__"=some (some (.builtin "object.__setattr__"))) (λe q=>(Bj e _ _).trans q) t C42e)
  (Ab (Q:=λK=>W.nsIn K mainGlobals "Trail"=some (some (.ref C121))) (λe q=>Dl e q) t C121a)
  (Ab (Q:=λK=>W.plainGet K C121 Str.empty=true) (λe q=>(nO e _ _).trans q) t C121b)
  (Ab (Q:=λK=>W.hasDictIn K C121=true) (λe q=>(nP e _).trans q) t C121c)
  (Ab (Q:=λK=>W.plainOver K C121=true) (λe q=>(nQ e _).trans q) t C121d)
  (Ab (Q:=λK=>W.findIn K (.ref C121) "__setattr__"=some (some (.builtin "object.__setattr__"))) (λe q=>(Bj e _ _).trans q) t C121e)
  (Ab (Q:=λK=>W.findIn K (.ref C42) "form"=some none) (λe q=>(Bj e _ _).trans q) t C42f0)
  (Ab (Q:=λK=>W.findIn K (.ref C121) "pairs"=some none) (λe q=>(Bj e _ _).trans q) t C121f0)
  (Ab (Q:=λK=>W.findIn K (.ref C121) "origins"=some none) (λe q=>(Bj e _ _).trans q) t C121f1)
  (Ab (Q:=λK=>W.findIn K (.ref C121) "places"=some none) (λe q=>(Bj e _ _).trans q) t C121f2)
  (Ab (Q:=λK=>W.findIn K (.ref C42) "told"=some (some (.ref f42_1'))) (λe q=>(Bj e _ _).trans q) t a42_1)
  (Ab (Q:=λK=>W.isFn K (.ref f42_1')=true) (λe q=>Lz e q) t b42_1)
  (Ab (Q:=λK=>K.lookup f42_1'=some ⟨oc42_1,od42_1,.func (W.fnOf "told" "Step.told" (Av G9) (Aj G9) (Ac G9) .none kV42_1 dc42_1 pm42_1 an42_1 cd42_1 ct42_1),sl42_1⟩) (λe q=>Bo e q (by intro z;cases z)) t l42_1)
  (Ab (Q:=λK=>W.codeIn K cd42_1 "Step.told"=true) (λe q=>Gn e q) t c42_1)
  (Ab (Q:=λK=>W.keepIn K (.ref f42_1')=true) (λe q=>En e q) t k42_1)
  (Ab (Q:=λK=>W.findIn K (.ref C121) "come_to"=some (some (.ref f121_1'))) (λe q=>(Bj e _ _).trans q) t a121_1)
  (Ab (Q:=λK=>W.isFn K (.ref f121_1')=true) (λe q=>Lz e q) t Hs)
  (Ab (Q:=λK=>K.lookup f121_1'=some ⟨oc121_1,od121_1,.func (W.fnOf "come_to" "Trail.come_to" (Av Ed) (Aj Ed) (Ac Ed) .none kV121_1 dc121_1 pm121_1 an121_1 cd121_1 ct121_1),sl121_1⟩) (λe q=>Bo e q (by intro z;cases z)) t l121_1)
  (Ab (Q:=λK=>W.codeIn K cd121_1 "Trail.come_to"=true) (λe q=>Gn e q) t c121_1)
  (Ab (Q:=λK=>W.keepIn K (.ref f121_1')=true) (λe q=>En e q) t k121_1)
  (Ab (Q:=λK=>W.findIn K (.ref C121) "way_to"=some (some (.ref f121_2'))) (λe q=>(Bj e _ _).trans q) t a121_2)
  (Ab (Q:=λK=>W.isFn K (.ref f121_2')=true) (λe q=>Lz e q) t Ht)
  (Ab (Q:=λK=>K.lookup f121_2'=some ⟨oc121_2,od121_2,.func (W.fnOf "way_to" "Trail.way_to" (Av Ef) (Aj Ef) (Ac Ef) .none kV121_2 dc121_2 pm121_2 an121_2 cd121_2 ct121_2),sl121_2⟩) (λe q=>Bo e q (by intro z;cases z)) t l121_2)
  (Ab (Q:=λK=>W.codeIn K cd121_2 "Trail.way_to"=true) (λe q=>Gn e q) t c121_2)
  (Ab (Q:=λK=>W.keepIn K (.ref f121_2')=true) (λe q=>En e q) t k121_2)
  (Ab (Q:=λK=>W.findIn K (.ref C121) "way"=some (some (.ref f121_3'))) (λe q=>(Bj e _ _).trans q) t a121_3)
  (Ab (Q:=λK=>W.isFn K (.ref f121_3')=true) (λe q=>Lz e q) t Hu)
  (Ab (Q:=λK=>K.lookup f121_3'=some ⟨oc121_3,od121_3,.func (W.fnOf "way" "Trail.way" (Av Eg) (Aj Eg) (Ac Eg) .none kV121_3 dc121_3 pm121_3 an121_3 cd121_3 ct121_3),sl121_3⟩) (λe q=>Bo e q (by intro z;cases z)) t l121_3)
  (Ab (Q:=λK=>W.codeIn K cd121_3 "Trail.way"=true) (λe q=>Gn e q) t c121_3)
  (Ab (Q:=λK=>W.keepIn K (.ref f121_3')=true) (λe q=>En e q) t k121_3)
  (Ab (Q:=λK=>W.findIn K (.ref C42) "__init__"=some (some (.ref f42_0'))) (λe q=>(Bj e _ _).trans q) t a42_0)
  (Ab (Q:=λK=>W.isFn K (.ref f42_0')=true) (λe q=>Lz e q) t b42_0)
  (Ab (Q:=λK=>K.lookup f42_0'=some ⟨oc42_0,od42_0,.func (W.fnOf "__init__" "Step.__init__" (Av (Cj (top 42) 0)) (Aj (Cj (top 42) 0)) (Ac (Cj (top 42) 0)) .none kV42_0 dc42_0 pm42_0 an42_0 cd42_0 ct42_0),sl42_0⟩) (λe q=>Bo e q (by intro z;cases z)) t l42_0)
  (Ab (Q:=λK=>W.codeIn K cd42_0 "Step.__init__"=true) (λe q=>Gn e q) t c42_0)
  (Ab (Q:=λK=>W.keepIn K (.ref f42_0')=true) (λe q=>En e q) t k42_0)
  (Ab (Q:=λK=>W.findIn K (.ref C121) "__init__"=some (some (.ref f121_0'))) (λe q=>(Bj e _ _).trans q) t a121_0)
  (Ab (Q:=λK=>W.isFn K (.ref f121_0')=true) (λe q=>Lz e q) t b121_0)
  (Ab (Q:=λK=>K.lookup f121_0'=some ⟨oc121_0,od121_0,.func (W.fnOf "__init__" "Trail.__init__" (Av (Cj (top 121) 0)) (Aj (Cj (top 121) 0)) (Ac (Cj (top 121) 0)) .none kV121_0 dc121_0 pm121_0 an121_0 cd121_0 ct121_0),sl121_0⟩) (λe q=>Bo e q (by intro z;cases z)) t l121_0)
  (Ab (Q:=λK=>W.codeIn K cd121_0 "Trail.__init__"=true) (λe q=>Gn e q) t c121_0)
  (Ab (Q:=λK=>W.keepIn K (.ref f121_0')=true) (λe q=>En e q) t k121_0)
  (Ab (Q:=λK=>W.makesIn K C42=true) (λe q=>Rq e q) t C42m)
  (Ab (Q:=λK=>W.keepIn K (.ref C42)=true) (λe q=>En e q) t C42k)
  (Ab (Q:=λK=>W.makesIn K C121=true) (λe q=>Rq e q) t C121m)
  (Ab (Q:=λK=>W.keepIn K (.ref C121)=true) (λe q=>En e q) t C121k)⟩
noncomputable def Gk (k:Nat):Gb:=GkN Tt k
noncomputable abbrev Bq (I:FnI) (k:Nat):SM:=iSs (Gk (k+1)) fuel {N:=I.N,scope:=I.scope,own:=λ_=>true} I.body
noncomputable def vQ (k:Nat):Str->Str->Option (List Str×Fn):=λc m=>(match tbm c m with | some I=>some (I.ps,Ai (Gk k) fuel I) | none=>none)
noncomputable def b10 (k:Nat):SM :=
 (Af (retS (Jp (Ao (Ai (Gk k) fuel f9) (Aa (vr 0) (Aa (vr 1) (Zr [])))) (Ao bZ (Aa (Dt (Gr (vr 0)) [none,none,some 3,some 2] (Bf 1) (Zr true) (Ao (Ai (Gk k) fuel f8) (Aa (vr 1) (Aa (vr 3) (Aa (vr 2) (Zr [])))))) (Zr [])))))
 Zn)
theorem Acd (k:Nat):Bq f10 k=b10 k:=by kernel_rfl
noncomputable def b43 (k:Nat):SM :=
 (Af (ifS (Ni (Gs (Hi (eE "tuple" (vr 0)))) (Am (dop eqD (Ao Gj (Aa (vr 0) (Zr []))) (Zr (.int 0)))))
 (Af (retS (Zr (.bl false)))
  Zn)
 Zn)
 (Af (ifS (Ni (Gs (Hi (eE "str" (dop ixD (vr 0) (Zr (.int 0)))))) (Am (K3 true Mg (dop ixD (vr 0) (Zr (.int 0))))))
 (Af (retS (Zr (.bl false)))
  Zn)
 Zn)
 (Af (Ba (Zv Mg (dop ixD (vr 0) (Zr (.int 0)))) (Bf 3))
 (Af (ifS (Am (dop neD (Ao Gj (Aa (vr 0) (Zr []))) (dop Ij (Zr (.int 1)) (Ao Gj (Aa (vr 3) (Zr []))))))
 (Af (retS (Zr (.bl false)))
  Zn)
 Zn)
 (Af (retS (Ao bZ (Aa (Dt (Xk (Aa (vr 3) (Aa (dSl (vr 0) (some (Zr (.int 1))) none) (Zr [])))) [none,none,none,some 2,some 1] (Ot [1,2]) (Zr true) (Ao (Ai (Gk k) fuel f44) (Aa (vr 1) (Aa (vr 2) (Aa (vr 4) (Aa (vr 3) (Zr []))))))) (Zr []))))
 Zn)))))
theorem Yq (k:Nat):Bq f43 k=b43 k:=by kernel_rfl
noncomputable def b53 (k:Nat):SM :=
 (Af (ifS (Gs (Hi (Ao (Ai (Gk k) fuel f54) (Aa (vr 0) (Zr [])))))
 (Af SM.bad
  Zn)
 Zn)
 (Af (Ba (Ao (Ai (Gk k) fuel f58) (Aa (vr 0) (Zr []))) (Bf 1))
 (Af (Nk (Ky (dop ixD (vr 0) (Zr (.int (2))))) (Ot [2,3])
 (Af (Nk (Ky (vr 3)) (Ot [4,5])
  (Af (ifS (Gs (Hi (Ao (Ai (Gk k) fuel f43) (Aa (vr 5) (Aa (Ao Gj (Aa (vr 3) (Zr []))) (Aa (vr 1) (Zr [])))))))
   (Af SM.bad
    Zn)
   Zn)
   Zn))
  Zn))
 Zn)))
theorem Ace (k:Nat):Bq f53 k=b53 k:=by kernel_rfl
noncomputable def b54 (k:Nat):SM :=
 (Af (ifS (Gs (Hi (Ao (Ai (Gk k) fuel f9) (Aa (vr 0) (Aa (Zr (.int 4)) (Zr []))))))
 (Af (retS (Zr (.bl false)))
  Zn)
 Zn)
 (Af (ifS (Ni (Gs (Hi (Ao (Ai (Gk k) fuel f8) (Aa (dop ixD (vr 0) (Zr (.int (0)))) (Aa (Zr (.int 1)) (Aa (Zr (.int 10)) (Zr []))))))) (Gs (Hi (Ao (Ai (Gk k) fuel f10) (Aa (dop ixD (vr 0) (Zr (.int (1)))) (Aa (Zr (.int 2)) (Aa (Zr (.int 0)) (Aa (Zr (.int 5)) (Zr [])))))))))
 (Af (retS (Zr (.bl false)))
  Zn)
 Zn)
 (Af (retS (Jp (Ao (Ai (Gk k) fuel f55) (Aa (dop ixD (vr 0) (Zr (.int (2)))) (Zr []))) (Ao (Ai (Gk k) fuel f56) (Aa (dop ixD (vr 0) (Zr (.int (3)))) (Aa (Ao Gj (Aa (dop ixD (vr 0) (Zr (.int (2)))) (Zr []))) (Zr []))))))
 Zn)))
theorem Acf (k:Nat):Bq f54 k=b54 k:=by kernel_rfl
noncomputable def b55 (k:Nat):SM :=
 (Af (ifS (Ni (Gs (Hi (eE "tuple" (vr 0)))) (Gs (Am (J1 leD leD (Zr (.int 1)) (Ao Gj (Aa (vr 0) (Zr []))) (Zr (.int 6))))))
 (Af (retS (Zr (.bl false)))
  Zn)
 Zn)
 (Af (retS (Ao bZ (Aa (Dt (Gr (vr 0)) [none,none] (Bf 1) (Zr true) (Jp (eE "tuple" (vr 1)) (dop leD (Ao Gj (Aa (vr 1) (Zr []))) (Zr (.int 60))))) (Zr []))))
 Zn))
theorem Acg (k:Nat):Bq f55 k=b55 k:=by kernel_rfl
noncomputable def b56 (k:Nat):SM :=
 (Af (ifS (Ni (Gs (Hi (eE "tuple" (vr 0)))) (Gs (Am (J1 leD leD (Zr (.int 1)) (Ao Gj (Aa (vr 0) (Zr []))) (Zr (.int 6))))))
 (Af (retS (Zr (.bl false)))
  Zn)
 Zn)
 (Af (retS (Jp (Ao (Ai (Gk k) fuel f10) (Aa (vr 0) (Aa (Ao Gj (Aa (vr 0) (Zr []))) (Aa (Zr (.int 0)) (Aa (dop dZ (vr 1) (Zr (.int 1))) (Zr [])))))) (dop eqD (Ao iY (Aa (vr 0) (Zr []))) (Ao Nv (Aa (vr 0) (Zr []))))))
 Zn))
theorem Ach (k:Nat):Bq f56 k=b56 k:=by kernel_rfl
noncomputable def b57 (k:Nat):SM :=
 (Af (retS (Ao Lf (Aa (Dt (Ky (dop ixD (vr 0) (Zr (.int (3))))) [none,none,none,some 1] (Ot [1,2]) (Am (dop eqD (vr 2) (vr 3))) (vr 1)) (Zr []))))
 Zn)
theorem Aci (k:Nat):Bq f57 k=b57 k:=by kernel_rfl
noncomputable def b58 (k:Nat):SM :=
 (Af (retS (Ao Lf (Aa (Dt (tE iZ (Aa (Ao Gj (Aa (dop ixD (vr 0) (Zr (.int (2)))) (Zr []))) (Zr []))) [none,none,some 0] (Bf 1) (Zr true) (Jt "tuple" cO "list" M6 (dop ixD (vr 2) (Zr (.int (3)))) (Aa (vr 1) (Zr [])))) (Zr []))))
 Zn)
theorem Acj (k:Nat):Bq f58 k=b58 k:=by kernel_rfl
noncomputable def b72 (k:Nat):SM :=
 (Af (Ba (dop ixD (vr 2) (Zr (.int 0))) (Bf 3))
 (Af (ifS (Am (dop eqD (vr 3) (Zr (.str "count"))))
 (Af (Ba (Dt (Gr (Ao (Ai (Gk k) fuel f57) (Aa (vr 0) (Aa (dop ixD (vr 2) (Zr (.int 1))) (Zr []))))) [none,none,some 1,some 2] (Bf 1) (Zr true) (Ao (Ai (Gk k) fuel f74) (Aa (Ao (Ai (Gk k) fuel f67) (Aa (vr 2) (Aa (vr 1) (Zr [])))) (Aa (dop ixD (vr 3) (Zr (.int 2))) (Zr []))))) (Bf 4))
  (Af (retS (Ao (Ai (Gk k) fuel f75) (Aa (Dk (Aa (Jt "tuple" cO "list" M6 (vr 4) (Aa (Zr (.bl true)) (Zr []))) (Aa (dop dZ (Ao Gj (Aa (vr 4) (Zr []))) (Jt "tuple" cO "list" M6 (vr 4) (Aa (Zr (.bl false)) (Zr [])))) (Zr [])))) (Aa (dop ixD (vr 2) (Zr (.int 3))) (Aa (dop ixD (vr 2) (Zr (.int 4))) (Zr []))))))
  Zn))
 Zn)
 (Af (ifS (Am (dop eqD (vr 3) (Zr (.str "letters"))))
 (Af (retS (Ao (Ai (Gk k) fuel f75) (Aa (Ao (Ai (Gk k) fuel f14) (Aa Zb (Zr []))) (Aa (dop ixD (vr 2) (Zr (.int 2))) (Aa (dop ixD (vr 2) (Zr (.int 3))) (Zr []))))))
  Zn)
 Zn)
 (Af (retS (Ao (Ai (Gk k) fuel f76) (Aa (vr 3) (Aa (Dt (Gr (dSl (vr 2) (some (Zr (.int 1))) none)) [none,none,some 1,some 0] (Bf 1) (Zr true) (Ao (Ai (Gk k) fuel f72) (Aa (vr 3) (Aa (vr 2) (Aa (vr 1) (Zr [])))))) (Zr [])))))
 Zn))))
theorem Ack (k:Nat):Bq f72 k=b72 k:=by kernel_rfl
noncomputable def b74 (k:Nat):SM :=
 (Af (Ba (dop ixD (vr 1) (Zr (.int 0))) (Bf 2))
 (Af (ifS (Am (dop eqD (vr 2) (Zr (.str "at"))))
 (Af (retS (dop eqD (dop ixD (vr 0) (Zr (.int (0)))) (dop ixD (vr 1) (Zr (.int 1)))))
  Zn)
 Zn)
 (Af (ifS (Am (dop eqD (vr 2) (Zr (.str "number"))))
 (Af (Ba (dop ixD (dop ixD (vr 0) (Zr (.int (1)))) (dop ixD (vr 1) (Zr (.int 1)))) (Bf 3))
  (Af (Ba (dIf (Hi (eE "tuple" (vr 3))) (vr 3) (Ao (Ai (Gk k) fuel f14) (Aa (vr 3) (Zr [])))) (Bf 4))
  (Af (retS (Ao (Ai (Gk k) fuel f75) (Aa (vr 4) (Aa (dop ixD (vr 1) (Zr (.int 2))) (Aa (dop ixD (vr 1) (Zr (.int 3))) (Zr []))))))
  Zn)))
 Zn)
 (Af (ifS (Am (dop eqD (vr 2) (Zr (.str "has"))))
 (Af (retS (dop neD (dop ixD (dop ixD (vr 0) (Zr (.int (2)))) (dop ixD (vr 1) (Zr (.int 1)))) (Zr (.int (-1)))))
  Zn)
 Zn)
 (Af (ifS (Am (dop eqD (vr 2) (Zr (.str "many"))))
 (Af (retS (dop geD Zb (dop ixD (vr 1) (Zr (.int 2)))))
  Zn)
 Zn)
 (Af (ifS (Am (dop eqD (vr 2) (Zr (.str "bell"))))
 (Af (retS (dop ixD (vr 0) (Zr (.int (4)))))
  Zn)
 Zn)
 (Af (ifS (Am (dop eqD (vr 2) (Zr (.str "fallen"))))
 (Af (retS Zb)
  Zn)
 Zn)
 (Af (retS (Ao (Ai (Gk k) fuel f76) (Aa (vr 2) (Aa (Dt (Gr (dSl (vr 1) (some (Zr (.int 1))) none)) [none,none,some 0] (Bf 1) (Zr true) (Ao (Ai (Gk k) fuel f74) (Aa (vr 2) (Aa (vr 1) (Zr []))))) (Zr [])))))
 Zn))))))))
theorem pN (k:Nat):Bq f74 k=b74 k:=by kernel_rfl
noncomputable def b75 (k:Nat):SM :=
 (Af (Ba (Ao (Ai (Gk k) fuel f15) (Aa (vr 0) (Aa (Dk (Aa (vr 1) (Aa (vr 2) (Zr [])))) (Zr [])))) (Bf 3))
 (Af (ifS (Hi (Ao (Ai (Gk k) fuel f13) (Aa (vr 3) (Zr []))))
 (Af (retS (Zr (.bl false)))
  Zn)
 Zn)
 (Af (retS (dIf (Am (dop eqD (vr 3) (vr 0))) (Zr (.bl true)) (Zr .non)))
 Zn)))
theorem Acl (k:Nat):Bq f75 k=b75 k:=by kernel_rfl
noncomputable def b76 (k:Nat):SM :=
 (Af (ifS (Am (dop eqD (vr 0) (Zr (.str "not"))))
 (Af (retS (dIf (Am (dop (isD false) (dop ixD (vr 1) (Zr (.int 0))) (Zr .non))) (Zr .non) (Aer (dop ixD (vr 1) (Zr (.int 0))))))
  Zn)
 Zn)
 (Af (Ba (dop eqD (vr 0) (Zr (.str "either"))) (Bf 2))
 (Af (ifS (Am (dop (inD false) (vr 2) (vr 1)))
 (Af (retS (vr 2))
  Zn)
 Zn)
 (Af (retS (dIf (Am (dop (inD false) (Zr .non) (vr 1))) (Zr .non) (Aer (vr 2))))
 Zn))))
theorem Acm (k:Nat):Bq f76 k=b76 k:=by kernel_rfl
noncomputable def b90 (k:Nat):SM :=
 (Af (ifS (Ni (Am (dop eqD (dop ixD (vr 1) (Zr (.int 0))) (Zr (.str "comes")))) (Mt (Am (dop eqD (dop ixD (vr 1) (Zr (.int 0))) (Zr (.str "behind")))) (Hi (vr 3))))
 (Af (retS (Zr (.bl false)))
  Zn)
 Zn)
 (Af (retS (dop (isD true) (Ao (Ai (Gk k) fuel f72) (Aa (vr 0) (Aa (vr 2) (Aa (dop ixD (vr 1) (Zr (.int 1))) (Zr []))))) (Zr (.bl false))))
 Zn))
theorem Acn (k:Nat):Bq f90 k=b90 k:=by kernel_rfl
noncomputable def Aco (k:Nat):SM :=
 (Af (Ba (lstM (Zr [])) (Bf 2))
 (Af (Nk (Gr (Ao (Ai (Gk k) fuel f66) (Aa (vr 1) (Zr [])))) (Bf 3)
 (Af (Nk (Gr (Ao (Ai (Gk k) fuel f95) (Aa (vr 0) (Aa (vr 1) (Aa (vr 3) (Zr [])))))) (Bf 4)
  (Af (Hv (Du "list" Fx (vr 2) (Aa (Dk (Aa (Zr (.str "do")) (Aa (vr 3) (Aa (vr 4) (Zr []))))) (Zr []))))
   Zn))
  Zn))
 (Af (retS (dop Ij (dop Ij (vr 2) (Ao (Ai (Gk k) fuel Aex) (Aa (vr 1) (Zr [])))) (Ao (Ai (Gk k) fuel Aey) (Aa (vr 1) (Zr [])))))
 Zn)))
theorem vR (k:Nat):Bq oU k=Aco k:=by kernel_rfl
noncomputable def Acp (k:Nat):SM :=
 (Af (Ba (Tw "Trail" [("pairs",.nl),("origins",.nl),("places",.nd)]) (Bf 4))
 (Af (Ba (Ao (Ai (Gk k) fuel f65) (Aa (vr 0) (Zr []))) (Bf 5))
 (Af (Hv (Gi (vQ k) "come_to" (vr 4) (Aa (Dk (Aa (vr 5) (Aa (Ao (Ai (Gk k) fuel f89) (Aa (vr 0) (Aa (vr 1) (Aa (vr 5) (Aa (Zr (.bl false)) (Zr [])))))) (Zr [])))) (Aa (Zr .non) (Zr [])))))
 (Af (Ba (Ao (Ai (Gk k) fuel eG) (Aa (vr 0) (Aa (vr 1) (Aa (vr 2) (Aa (vr 4) (Zr [])))))) (Bf 6))
 (Af (Ba (Zr (.int 0)) (Bf 7))
 (Af (Ou (Mt (Am (dop eqD (vr 6) (Zr (.str "whole")))) (Am (dop ltD (vr 7) (Ao Gj (Aa (Ca fld "pairs" (vr 4)) (Zr []))))))
 (Af (Ba (Ao (Ai (Gk k) fuel oX) (Aa (vr 0) (Aa (vr 1) (Aa (vr 2) (Aa (vr 4) (Aa (vr 7) (Aa (vr 3) (Zr [])))))))) (Bf 6))
  (Af (Ba (dop Ij (vr 7) (Zr (.int 1))) (Bf 7))
  Zn)))
 (Af (retS (Dk (Aa (vr 6) (Aa (vr 4) (Zr [])))))
 Zn)))))))
theorem vU (k:Nat):Bq oW k=Acp k:=by kernel_rfl
noncomputable def Acq (k:Nat):SM :=
 (Af (Ba (dop ixD (Ca fld "pairs" (vr 3)) (vr 4)) (Bf 6))
 (Af (Nk (Gr (Rm (Gk (k+1)).cal (Gk (k+1)).clo 5 (Aa (dop ixD (vr 6) (Zr (.int 0))) (Zr [])))) (Ot [7,8])
 (Af (Ba (Dk (Aa (vr 8) (Aa (Ao (Ai (Gk k) fuel f89) (Aa (vr 0) (Aa (vr 1) (Aa (vr 8) (Aa (dop ixD (vr 6) (Zr (.int 1))) (Zr [])))))) (Zr [])))) (Bf 9))
  (Af (ifS (Hi (Gi (vQ k) "come_to" (vr 3) (Aa (vr 9) (Aa (Dk (Aa (vr 4) (Aa (vr 7) (Zr [])))) (Zr [])))))
  (Af (Ba (Ao (Ai (Gk k) fuel eG) (Aa (vr 0) (Aa (vr 1) (Aa (vr 2) (Aa (vr 3) (Zr [])))))) (Bf 10))
   (Af (ifS (Am (dop neD (vr 10) (Zr (.str "whole"))))
   (Af (retS (vr 10))
    Zn)
   Zn)
   Zn))
  Zn)
  Zn)))
 (Af (retS (Zr (.str "whole")))
 Zn)))
theorem vV (k:Nat):Bq oX k=Acq k:=by kernel_rfl
noncomputable def Acr (k:Nat):SM :=
 (Af (Ba (dop ixD (Ca fld "pairs" (vr 3)) (Aeq (Zr (.int 1)))) (Bf 4))
 (Af (ifS (Hi (Ao (Ai (Gk k) fuel f90) (Aa (vr 0) (Aa (vr 1) (Aa (dop ixD (vr 4) (Zr (.int 0))) (Aa (dop ixD (vr 4) (Zr (.int 1))) (Zr [])))))))
 (Af (retS (Zr (.str "broken")))
  Zn)
 Zn)
 (Af (retS (dIf (Am (dop gtD (Ao Gj (Aa (Ca fld "pairs" (vr 3)) (Zr []))) (vr 2))) (Zr (.str "more")) (Zr (.str "whole"))))
 Zn)))
theorem vW (k:Nat):Bq eG k=Acr k:=by kernel_rfl
noncomputable def Acs (k:Nat):SM :=
 (Af (retS (Dt (Gr (Ao (Ai (Gk k) fuel oU) (Aa (vr 0) (Aa (vr 1) (Zr []))))) [none,none,some 0,some 1] (Bf 1) (Zr true) (Dk (Aa (vr 1) (Aa (Ao (Ai (Gk k) fuel oV) (Aa (vr 2) (Aa (vr 3) (Aa (vr 1) (Zr []))))) (Zr []))))))
 Zn)
theorem vX (k:Nat):Bq oY k=Acs k:=by kernel_rfl
noncomputable def pO (k:Nat):SM :=
 (Af (Af (Hv (Ao (Ai (Gk k) fuel f53) (Aa (vr 0) (Zr []))))
 (Af (Hv (Ao (Ai (Gk k) fuel f88) (Aa (vr 0) (Aa (vr 1) (Zr [])))))
 Zn))
 (Af (Ba (Ao (Ai (Gk k) fuel oW) (Aa (vr 0) (Aa (vr 1) (Aa (vr 2) (Aa (X8 "go_plainly" ml0.pl ml0.js ml0.ci) (Zr [])))))) (Bf 3))
 (Af (ifS (Am (dop eqD (dop ixD (vr 3) (Zr (.int 0))) (Zr (.str "broken"))))
 (Af (retS (Dk (Aa (Zr (.str "broken")) (Aa (Gi (vQ k) "way" (dop ixD (vr 3) (Zr (.int 1))) (Zr [])) (Zr [])))))
  Zn)
 Zn)
 (Af (ifS (Am (dop eqD (dop ixD (vr 3) (Zr (.int 0))) (Zr (.str "more"))))
 (Af (retS (Dk (Aa (Zr (.str "more")) (Zr []))))
  Zn)
 Zn)
 (Af (retS (Dk (Aa (Zr (.str "whole")) (Aa (Ca fld "pairs" (dop ixD (vr 3) (Zr (.int 1)))) (Zr [])))))
 Zn)))))
theorem pP (k:Nat):Vy (Gk (k+1)) fuel "go_plainly" oZ ml0=pO k:=by kernel_rfl
noncomputable def pQ (k:Nat):SM :=
 (Af (retS (Ao (Ai (Gk k) fuel oY) (Aa (vr 1) (Aa (vr 0) (Zr []))))) Zn)
theorem Wj (k:Nat):iSs (Gk (k+1)) fuel { N:=ml0.ci.N++ml0.ci.fr,scope:=ml0.ci.scope,own:=λy=>!(ml0.ci.fr.contains y) } ml0.ci.body=pQ k:=by kernel_rfl
noncomputable def Acu (k:Nat):SM :=
 (Af (ifS (Am (dop ltD (vr 1) (Ao Gj (Aa (vr 0) (Zr [])))))
 (Af (retS (dop ixD (vr 0) (vr 1)))
  Zn)
 Zn)
 (Af (retS (Zr (.int 0)))
 Zn))
theorem vY (k:Nat):Bq Qa k=Acu k:=by kernel_rfl
noncomputable def Acv (k:Nat):SM :=
 (Af (Ba (Dk (Aa (Dk (Aa (Zr (.str "put")) (Aa (Zr (.int 0)) (Aa (vr 0) (Zr []))))) (Aa (Dk (Aa (Zr (.str "raise")) (Aa (Zr (.int 0)) (Aa (Zr (.int 1)) (Zr []))))) (Aa (Dk (Aa (Zr (.str "go")) (Aa (Zr (.int 1)) (Zr [])))) (Zr []))))) (Bf 4))
 (Af (Ba (Dk (Aa (Zr (.int 1)) (Aa (Dk (Aa (Zr (.int 0)) (Aa (Zr (.int 0)) (Zr [])))) (Aa (Dk (Aa (vr 4) (Zr []))) (Aa (Dk (Aa (Zr (.int 0)) (Zr []))) (Zr [])))))) (Bf 5))
 (Af (Ba (dop Ij (vr 0) (vr 1)) (Bf 6))
 (Af (Ba (Dk (Aa (Zr (.str "count")) (Aa (Zr (.int 0)) (Aa (Dk (Aa (Zr (.str "number")) (Aa (Zr (.int 0)) (Aa (vr 6) (Aa (vr 6) (Zr [])))))) (Aa (Zr (.int 1)) (Aa (Zr .non) (Zr []))))))) (Bf 7))
 (Af (ifS (Hi (vr 3))
 (Af (Ba (Dk (Aa (Zr (.str "count")) (Aa (Zr (.int 0)) (Aa (Dk (Aa (Zr (.str "both")) (Aa (Dk (Aa (Zr (.str "at")) (Aa (Zr (.int 0)) (Zr [])))) (Aa (Dk (Aa (Zr (.str "number")) (Aa (Zr (.int 0)) (Aa (Zr (.int 1)) (Aa (Zr .non) (Zr [])))))) (Zr []))))) (Aa (Zr (.int 1)) (Aa (Zr .non) (Zr []))))))) (Bf 7))
  Zn)
 Zn)
 (Af (retS (Ao (Pq (Gk k) fuel "go_plainly" oZ ml0) (Aa (vr 5) (Aa (Dk (Aa (Zr (.str "never")) (Aa (vr 7) (Zr [])))) (Aa (vr 2) (Zr []))))))
 Zn))))))
theorem vZ (k:Nat):Bq Yp k=Acv k:=by kernel_rfl
noncomputable def Acw (k:Nat):SM :=
 (Af (Ba (dop Ij (Zr (.int 1)) (dop V9 (Ao uQ (Aa (Ao (Ai (Gk k) fuel Qa) (Aa (vr 0) (Aa (Zr (.int 0)) (Zr [])))) (Zr []))) (dop dZ (dop Ab4 (Zr (.int 10)) (Zr (.int 60))) (dop Ab4 (Zr (.int 10)) (Zr (.int 6)))))) (Bf 1))
 (Af (Ba (dop Ij (Zr (.int 1)) (dop V9 (Ao (Ai (Gk k) fuel Qa) (Aa (vr 0) (Aa (Zr (.int 1)) (Zr [])))) (Zr (.int 250)))) (Bf 2))
 (Af (Ba (dop Ij (Zr (.int 2)) (dop nD (Zr (.int 2)) (dop dZ (vr 2) (Zr (.int 1))))) (Bf 3))
 (Af (Ba (dop nD (lstM (Aa (Dk (Aa (Zr (.str "do")) (Aa (Zr (.int 0)) (Aa (Zr (.int 0)) (Zr []))))) (Zr []))) (dop nD (Zr (.int 2)) (vr 2))) (Bf 4))
 (Af (ifS (Am (dop eqD (dop V9 (Ao (Ai (Gk k) fuel Qa) (Aa (vr 0) (Aa (Zr (.int 2)) (Zr [])))) (Zr (.int 3))) (Zr (.int 0))))
 (Af (retS (dop eqD (Ao (Ai (Gk k) fuel Yp) (Aa (vr 1) (Aa (vr 2) (Aa (dop Ij (Zr (.int 1)) (dop V9 (dop V8 (Ao (Ai (Gk k) fuel Qa) (Aa (vr 0) (Aa (Zr (.int 2)) (Zr [])))) (Zr (.int 3))) (Zr (.int 1000)))) (Aa (Zr (.bl true)) (Zr [])))))) (Dk (Aa (Zr (.str "more")) (Zr [])))))
  Zn)
 Zn)
 (Af (Ba (dop Ij (vr 3) (dop ixD (lstM (Aa (Zr (.int 0)) (Aa (Zr (.int 1)) (Aa (dop V9 (dop V8 (Ao (Ai (Gk k) fuel Qa) (Aa (vr 0) (Aa (Zr (.int 2)) (Zr [])))) (Zr (.int 6))) (Zr (.int 9))) (Zr []))))) (dop V9 (dop V8 (Ao (Ai (Gk k) fuel Qa) (Aa (vr 0) (Aa (Zr (.int 2)) (Zr [])))) (Zr (.int 3))) (Zr (.int 3))))) (Bf 5))
 (Af (ifS (Am (dop neD (Ao (Ai (Gk k) fuel Yp) (Aa (vr 1) (Aa (vr 2) (Aa (vr 5) (Aa (Zr (.bl false)) (Zr [])))))) (Dk (Aa (Zr (.str "broken")) (Aa (vr 4) (Zr []))))))
 (Af (retS (Zr (.bl false)))
  Zn)
 Zn)
 (Af (Ba (dop Ij (Zr (.int 1)) (dop V9 (dop V8 (Ao (Ai (Gk k) fuel Qa) (Aa (vr 0) (Aa (Zr (.int 2)) (Zr [])))) (Zr (.int 9))) (vr 3))) (Bf 6))
 (Af (retS (Xb (dop eqD (vr 6) (vr 3)) (dop eqD (Ao (Ai (Gk k) fuel Yp) (Aa (vr 1) (Aa (vr 2) (Aa (vr 6) (Aa (Zr (.bl false)) (Zr [])))))) (Dk (Aa (Zr (.str "more")) (Zr []))))))
 Zn)))))))))
theorem wA (k:Nat):Bq eN k=Acw k:=by kernel_rfl
noncomputable def Hs (k:Nat):SM :=
 (Af (ifS (Am (dop (inD false) (vr 1) (Ca fld "places" (vr 0))))
 (Af (retS (Zr (.bl false)))
  Zn)
 Zn)
 (Af (Ba (Ao Gj (Aa (Ca fld "pairs" (vr 0)) (Zr []))) (M7 (Ca fld "places" (vr 0)) (vr 1)))
 (Af (Hv (Du "list" Fx (Ca fld "pairs" (vr 0)) (Aa (vr 1) (Zr []))))
 (Af (Hv (Du "list" Fx (Ca fld "origins" (vr 0)) (Aa (vr 2) (Zr []))))
 (Af (retS (Zr (.bl true)))
 Zn)))))
theorem eO (k:Nat):Bq Ka k=Hs k:=by kernel_rfl
noncomputable def Ht (k:Nat):SM :=
 (Af (Ba (lstM (Zr [])) (Bf 2))
 (Af (Ba (dop ixD (Ca fld "origins" (vr 0)) (vr 1)) (Bf 3))
 (Af (Ou (Am (dop (isD true) (vr 3) (Zr .non)))
 (Af (Hv (Du "list" Fx (vr 2) (Aa (dop ixD (vr 3) (Zr (.int 1))) (Zr []))))
  (Af (Ba (dop ixD (Ca fld "origins" (vr 0)) (dop ixD (vr 3) (Zr (.int 0)))) (Bf 3))
  Zn)))
 (Af (retS (yC (vr 2)))
 Zn))))
theorem eU (k:Nat):Bq Kc k=Ht k:=by kernel_rfl
noncomputable def Hu (k:Nat):SM :=
 (Af (retS (Gi (vQ k) "way_to" (vr 0) (Aa (dop dZ (Ao Gj (Aa (Ca fld "pairs" (vr 0)) (Zr []))) (Zr (.int 1))) (Zr []))))
 Zn)
theorem eV (k:Nat):Bq Kd k=Hu k:=by kernel_rfl
local macro_rules | `(tactic| walk_at "s") => `(tactic| with_reducible first | refine Cm ?_ | refine Fe ?_ | refine Ff ?_ | refine Dd ?_ | refine H9 ?_ | refine Fd ?_ | refine Ci ?_ | refine Dc ?_ | refine Hw (by with_unfolding_all rfl) ?_ | refine Bk ?_ | refine Hx ?_ | refine Cv ?_ | refine Er ?_ | refine Es ?_ | refine Et ?_ | refine Eu ?_ | refine Dg ?_ | refine Fo ?_ | refine Ce ?_ | refine Ew ?_ | refine Cw ?_ | refine Cy ?_ | refine Ey ?_ | refine Cz ?_ | refine Ez ?_ | refine Hy ?_ | refine Cg ?_ | refine Fb ?_ | refine Ec ?_ | refine Gv ?_ | refine Fp ?_ | refine Bw ?_ | refine Fq ?_ | refine Cp (by with_unfolding_all rfl) ?_ | refine Dh (by with_unfolding_all rfl) ?_ | refine Ft ?_ | refine Fi ?_ | refine Fg ?_ | refine Df ?_ | refine Fj ?_)
local macro_rules | `(tactic| walk_at "r") => `(tactic| repeat walk_at "s")
noncomputable def mv:D:=.tup [.str "do",.int 0,.int 0]
noncomputable def prg (b:Int):D:=.tup [.int 1,.tup [.int 0,.int 0],.tup [.tup [.tup [.str "put",.int 0,.int b],.tup [.str "raise",.int 0,.int 1],.tup [.str "go",.int 1]]],.tup [.int 0]]
noncomputable def wld (p n:Int):D:=.tup [.tup [.tup [.int p,.tup [.int n,.int 0,.int 0],.tup [.int (-1),.int (-1),.int (-1)],.tup [.int 0,.int 0],.bl false]],.tup [.tup [.tup []]],.tup [.int 0,.int 0]]
noncomputable def c1 (B:Int):D:=.tup [.str "number",.int 0,.int B,.int B]
noncomputable def c2:D:=.tup [.str "both",.tup [.str "at",.int 0],.tup [.str "number",.int 0,.int 1,.non]]
noncomputable def tst (c:D):D:=.tup [.str "count",.int 0,c,.int 1,.non]
noncomputable def clm (c:D):D:=.tup [.str "never",tst c]
theorem Uk {ds:List D}{q:Prop}(h:ds.length<=1000000) (hq:q):ds.length<=1000000/\q:=⟨h,hq⟩
theorem pR {h:MH}{j:Nat}{o:MO}(e:h[j]?=some o):j < h.length:=(dh.mp e).1
theorem Qc {h:MH}{j:Nat}{ds:List D}(e:h[j]?=some (.lst ds)):Dv (.ref j) h=some ds:=by
 show (match h[j]? with | some (.lst o)=>some o | _=>none)=_;rw [e]
theorem Fv {mh:MH}{i j:Nat}{o x:MO}(e:mh[i]?=some x) (h:j≠i):(mh.set j o)[i]?=some x:=by rw [jk h];exact e
theorem Mi {mh:MH}{i:Nat}{o x:MO}(e:mh[i]?=some x):(mh.set i o)[i]?=some o:=by
 obtain ⟨h,_⟩:=dh.mp e;rw [ye h]
theorem Ul {P:D->MH->Prop}{d:D}{l:DL.Loc}{h:MH}(q:P d h):oF P (.rt d) l h:=q
theorem wB {P:D->MH->Prop}{l:DL.Loc}{h:MH}(q:P .non h):oF P .nx l h:=q
theorem Ng {m:DM D}{loc:DL.Loc}{mh:MH}{Q:D->MH->Prop}(d:D) (h:MH) (e:m loc mh=some (d,h)) (q:Q d h):wD m loc mh Q:=⟨d,h,e,q⟩
theorem Dp {r:Option (D×MH)}{Q:D->MH->Prop}(d:D) (h:MH) (e:r=some (d,h)) (q:Q d h):wV r Q:=⟨d,h,e,q⟩
section
variable (k:Nat) (b B n:Int) (mh:MH)
theorem pU:Ai (Gk (k+12)) fuel f88 [prg b,clm (c1 B)] mh=some (.non,mh):=by kernel_rfl
theorem pW:Ai (Gk (k+12)) fuel f88 [prg b,clm c2] mh=some (.non,mh):=by kernel_rfl
theorem Ae0:Ai (Gk (k+12)) fuel oV [prg b,wld 0 n,mv] mh=some (wld 1 b,mh):=by kernel_rfl
theorem wC:Ai (Gk (k+12)) fuel oV [prg b,wld 1 n,mv] mh=some (wld 2 (n+1),mh):=by kernel_rfl
theorem Af8:Ai (Gk (k+12)) fuel oV [prg b,wld 2 n,mv] mh=some (wld 1 n,mh):=by kernel_rfl
theorem Ae1:Ai (Gk (k+12)) fuel f95 [prg b,wld 0 n,.int 0] mh=some (.ref mh.length,mh++[.lst [.int 0]]):=by kernel_rfl
theorem Ae2:Ai (Gk (k+12)) fuel f95 [prg b,wld 1 n,.int 0] mh=some (.ref mh.length,mh++[.lst [.int 0]]):=by kernel_rfl
theorem Ae3:Ai (Gk (k+12)) fuel f95 [prg b,wld 2 n,.int 0] mh=some (.ref mh.length,mh++[.lst [.int 0]]):=by kernel_rfl
theorem wF:Ai (Gk (k+12)) fuel f65 [prg b] mh=some (wld 0 0,mh):=by kernel_rfl
theorem yH (c w a:D):Ai (Gk (k+12)) fuel f89 [prg b,clm c,w,a] mh=some (.bl false,mh):=by kernel_rfl
theorem Ae4 (p:Int):Ai (Gk (k+12)) fuel f66 [wld p n] mh=some (.ref mh.length,mh++[.lst [.int 0]]):=by kernel_rfl
theorem Acx (p:Int):Ai (Gk (k+12)) fuel Aex [wld p n] mh=some (.ref mh.length,mh++[.lst []]):=by kernel_rfl
theorem Acy (p:Int):Ai (Gk (k+12)) fuel Aey [wld p n] mh=some (.ref mh.length,mh++[.lst []]):=by kernel_rfl
end
local macro_rules | `(tactic| walk_at "s") => `(tactic| first
 | (with_reducible refine Cm ?_) | (with_reducible refine Fe ?_) | (with_reducible refine Ff ?_) | (with_reducible refine Dd ?_) | (with_reducible refine H9 ?_) | (with_reducible refine Fd ?_) | (with_reducible refine Ci ?_) | (with_reducible refine Dc ?_)
 | (with_reducible refine Hw (by with_unfolding_all rfl) ?_) | (with_reducible refine Bk ?_) | (with_reducible refine Hx ?_) | (with_reducible refine Cv ?_) | (with_reducible refine Er ?_) | (with_reducible refine Es ?_) | (with_reducible refine Et ?_) | (with_reducible refine Eu ?_)
 | (with_reducible refine wD_isi ?_) | (with_reducible refine wD_listRng ?_) | (with_reducible refine wD_tupRng ?_) | (with_reducible refine wD_lenSet ?_) | (with_reducible refine wD_sortSet ?_) | (with_reducible refine wD_mk ?_) | (with_reducible refine Dg ?_) | (with_reducible refine Fo ?_) | (with_reducible refine wD_dicIn ?_) | (with_reducible refine wD_dicIx ?_) | (with_reducible refine wD_zip ?_) | (with_reducible refine wS_par ?_) | (with_reducible refine Ce ?_) | (with_reducible refine Ew ?_) | (with_reducible refine wD_notV ?_) | (with_reducible refine Cw ?_)
 | (with_reducible refine Cy ?_) | (with_reducible refine Ey ?_) | (with_reducible refine Cz ?_) | (with_reducible refine Ez ?_) | (with_reducible refine Hy ?_) | (with_reducible refine wD_chain ?_) | (with_reducible refine Cg ?_) | (with_reducible refine wD_sl ?_) | (with_reducible refine wD_partN ?_) | (with_reducible refine wD_partS ?_)
 | (with_reducible refine Fb ?_) | (with_reducible refine wD_enum ?_) | (with_reducible refine wD_rng ?_) | (with_reducible refine Ec ?_) | (with_reducible refine wG_sub ?_) | (with_reducible refine Gv ?_) | (with_reducible refine Fp ?_) | (with_reducible refine Bw ?_) | (with_reducible refine Fq ?_) | (with_reducible refine Cp (by with_unfolding_all rfl) ?_) | (with_reducible refine Dh (by with_unfolding_all rfl) ?_) | (with_reducible refine Ft ?_)
 | (with_reducible refine Fi ?_) | (with_reducible refine Fg ?_) | (with_reducible refine Df ?_) | (with_reducible refine Fj ?_) | (with_reducible refine wV_neI ?_) | (with_reducible refine wV_isi (by with_unfolding_all rfl) (by with_unfolding_all rfl) ?_))
theorem Um {ms:DM Src}{g:GM}{body:SM}{l0:DL.Loc}{mh:MH}{K:Fl->DL.Loc->MH->Prop}(d:D)
  (hm:wD ms l0 mh λsrc h0=>∃ j,src=.lref j/\h0[j]?=some (.lst [d])/\wG (g d l0 h0) λl1 h1=>wS body l1 h1 (vK (λl h=>h[j]?=some (.lst [d])/\K .nx l h) K)):wS (Nk ms g body) l0 mh K:=by
 refine oE (Be hm ?_);rintro src h0 ⟨j,rfl,e0,st⟩;refine ⟨[d],λi l h=>(i=0/\l=l0/\h=h0)\/(i=1/\h[j]?=some (.lst [d])/\K .nx l h),.inl ⟨rfl,rfl,rfl⟩,?_,?_,?_⟩
 ·rintro i l h (⟨_,_,rfl⟩ | ⟨_,e,_⟩)
  ·exact Mf e0
  ·exact Mf e
 ·rintro i x l h ex (⟨rfl,rfl,rfl⟩ | ⟨rfl,_⟩)
  ·cases ex;obtain ⟨l1,h1,e1,q⟩:=st;refine ⟨l1,h1,e1,N5 q λf l h q=>?_⟩;cases f with
   | nx=>exact .inr ⟨rfl,q⟩
   | ct=>exact .inr ⟨rfl,q⟩
   | bk=>exact q
   | rt d=>exact q
  ·cases ex
 ·rintro l h (⟨z,_⟩ | ⟨_,_,q⟩)
  ·cases z
  ·exact q
local macro_rules | `(tactic| walk_at "x0") => `(tactic| repeat (first | walk_at "s" | with_reducible refine Ul ?_ | with_reducible refine Uk (by simp) ?_))
section
variable {P:D->MH->Prop}{mh:MH}
theorem Af9 (k:Nat) (b n:Int) (p:Int) (hp:p=0\/p=1\/p=2) (mh:MH):Ai (Gk (k+12)) fuel f95 [prg b,wld p n,.int 0] mh=some (.ref mh.length,mh++[.lst [.int 0]]):=by
 rcases hp with rfl|rfl|rfl
 ·exact Ae1 k b n mh
 ·exact Ae2 k b n mh
 ·exact Ae3 k b n mh
theorem eY (k:Nat) (b n p:Int) (hp:p=0\/p=1\/p=2) (q:∀ h j,Ext [] mh h->h[j]?=some (.lst [mv])->P (.ref j) h):wV (Ai (Gk (k+13)) fuel oU [prg b,wld p n] mh) P:=by
 refine Bd (vR (k+12)) aL.1 aL.2 rfl ?_;show wS (Aco (k+12)) [some (prg b),some (wld p n),none,none,none] mh _;unfold Aco
 walk_at "x0"
 refine Um (.int 0) ?_
 walk_at "x0"
 refine Dp _ _ (Ae4 k n _ p) ?_
 walk_at "x0"
 refine ⟨_,src_list Az,_,rfl,Az,?_⟩
 walk_at "x0"
 refine Um (.int 0) ?_
 walk_at "x0"
 refine Dp _ _ (Af9 k b n p hp _) ?_;have x1:Ext [] (mh++[MO.lst []]) (mh++[MO.lst []]++[MO.lst [D.int 0]]++[MO.lst [D.int 0]]):=Ext.more.trans Ext.more;have g0:=x1.old _ _ (by simp) (Az (a:=mh) (o:=.lst []));have g1:=(Ext.more (W:=[]) (g:=[MO.lst [.int 0]])).old _ _ (by simp) (Az (a:=mh++[MO.lst []]) (o:=.lst [.int 0]))
 walk_at "x0"
 refine ⟨_,src_list Az,_,rfl,Az,?_⟩
 walk_at "x0"
 refine ⟨ty_list g0,?_⟩
 walk_at "x0"
 refine Jj g0 (by simp) ?_
 walk_at "x0"
 have n1:mh.length≠(mh++[MO.lst []]).length:=by simp
 have n2:mh.length≠(mh++[MO.lst []]++[MO.lst [D.int 0]]).length:=by simp
 refine ⟨Fv Az n2,?_⟩
 walk_at "x0"
 refine ⟨Fv g1 n1,?_⟩
 have e0:=Mi (o:=MO.lst ([]++[D.tup [.str "do",.int 0,.int 0]])) g0
 have x2:Ext [] mh ((mh++[MO.lst []]++[MO.lst [D.int 0]]++[MO.lst [D.int 0]]).set mh.length (MO.lst ([]++[D.tup [.str "do",.int 0,.int 0]]))):=((Ext.more.trans Ext.more).trans Ext.more).setNew (bx _)
 generalize (mh++[MO.lst []]++[MO.lst [D.int 0]]++[MO.lst [D.int 0]]).set mh.length (MO.lst ([]++[D.tup [.str "do",.int 0,.int 0]]))=h2 at e0 x2 ⊢
 walk_at "x0"
 refine Dp _ _ (Acx k n _ p) ?_;have y3:Ext [] h2 (h2++[MO.lst []]):=Ext.more;refine aJ (y3.old _ _ (by simp) e0) Az (by simp) ?_;generalize h2++[MO.lst []]=h3 at y3 ⊢
 have y4:Ext [] h3 (h3++[MO.lst ([]++[D.tup [.str "do",.int 0,.int 0]]++[])]):=Ext.more
 walk_at "x0"
 refine Dp _ _ (Acy k n _ p) ?_
 have y5:Ext [] (h3++[MO.lst ([]++[D.tup [.str "do",.int 0,.int 0]]++[])]) (h3++[MO.lst ([]++[D.tup [.str "do",.int 0,.int 0]]++[])]++[.lst []]):=Ext.more;refine aJ (y5.old _ _ (by simp) Az) Az (by simp) ?_
 walk_at "x0"
 exact q _ _ ((((x2.trans y3).trans y4).trans y5).trans Ext.more) Az
noncomputable def nxW (b p n:Int):D:=if p=0 then wld 1 b else if p=1 then wld 2 (n+1) else wld 1 n
theorem wH (k:Nat) (b n:Int) (p:Int) (hp:p=0\/p=1\/p=2) (mh:MH):Ai (Gk (k+12)) fuel oV [prg b,wld p n,mv] mh=some (nxW b p n,mh):=by
 rcases hp with rfl|rfl|rfl
 ·exact Ae0 k b n mh
 ·exact wC k b n mh
 ·exact Af8 k b n mh
theorem wI (k:Nat) (b n p:Int) (hp:p=0\/p=1\/p=2) (q:∀ h j,Ext [] mh h->h[j]?=some (.lst [.tup [mv,nxW b p n]])->P (.ref j) h):wV (Ai (Gk (k+14)) fuel oY [prg b,wld p n] mh) P:=by
 refine Bd (vX (k+13)) aP.1 aP.2 rfl ?_;show wS (Acs (k+13)) [some (prg b),some (wld p n)] mh _;unfold Acs
 walk_at "x0"
 refine Ug ?_
 walk_at "x0"
 refine eY k b n p hp λh j x e=>?_
 refine ⟨_,src_list e,[mv],λi acc h'=>h'=h/\((i=0/\acc=[])\/(i=1/\acc=[.tup [mv,nxW b p n]])),by simp,⟨rfl,.inl ⟨rfl,rfl⟩⟩,?_,?_,?_,?_⟩
 ·rintro i acc h' ⟨rfl,_⟩;exact Mf e
 ·rintro i acc h' ⟨_,⟨rfl,rfl⟩ | ⟨rfl,rfl⟩⟩ <;> simp
 ·rintro i d acc h' ed ⟨rfl,⟨rfl,rfl⟩ | ⟨rfl,rfl⟩⟩
  ·cases ed;refine Ec (Bk (Bw ?_));show wD _ [none,some mv,some (prg b),some (wld p n)] h' _
   walk_at "x0"
   refine Dp _ _ (wH (k+1) b n p hp h') ?_
   walk_at "x0"
   exact ⟨rfl,.inr ⟨rfl,rfl⟩⟩
  ·cases ed
 ·rintro acc h' ⟨rfl,⟨z,_⟩ | ⟨_,rfl⟩⟩
  ·cases z
  ·walk_at "x0"
   exact q _ _ (x.trans Ext.more) Az
end
local macro_rules | `(tactic| walk_at "s") => `(tactic| first
 | (with_reducible refine Cm ?_) | (with_reducible refine Fe ?_) | (with_reducible refine Ff ?_) | (with_reducible refine Dd ?_) | (with_reducible refine H9 ?_) | (with_reducible refine Fd ?_) | (with_reducible refine Ci ?_) | (with_reducible refine Dc ?_)
 | (with_reducible refine Hw (by with_unfolding_all rfl) ?_) | (with_reducible refine Bk ?_) | (with_reducible refine Hx ?_) | (with_reducible refine Cv ?_) | (with_reducible refine Er ?_) | (with_reducible refine Es ?_) | (with_reducible refine Et ?_) | (with_reducible refine Eu ?_)
 | (with_reducible refine wD_isi ?_) | (with_reducible refine wD_listRng ?_) | (with_reducible refine wD_tupRng ?_) | (with_reducible refine wD_lenSet ?_) | (with_reducible refine wD_sortSet ?_) | (with_reducible refine wD_mk ?_) | (with_reducible refine Dg ?_) | (with_reducible refine Fo ?_) | (with_reducible refine wD_dicIn ?_) | (with_reducible refine wD_dicIx ?_) | (with_reducible refine wD_zip ?_) | (with_reducible refine wS_par ?_) | (with_reducible refine Ce ?_) | (with_reducible refine Ew ?_) | (with_reducible refine wD_notV ?_) | (with_reducible refine Cw ?_)
 | (with_reducible refine Cy ?_) | (with_reducible refine Ey ?_) | (with_reducible refine Cz ?_) | (with_reducible refine Ez ?_) | (with_reducible refine Hy ?_) | (with_reducible refine wD_chain ?_) | (with_reducible refine Cg ?_) | (with_reducible refine wD_sl ?_) | (with_reducible refine wD_partN ?_) | (with_reducible refine wD_partS ?_)
 | (with_reducible refine Fb ?_) | (with_reducible refine wD_enum ?_) | (with_reducible refine wD_rng ?_) | (with_reducible refine Ec ?_) | (with_reducible refine wG_sub ?_) | (with_reducible refine Gv ?_) | (with_reducible refine Fp ?_) | (with_reducible refine Bw ?_) | (with_reducible refine Fq ?_) | (with_reducible refine Cp (by with_unfolding_all rfl) ?_) | (with_reducible refine Dh (by with_unfolding_all rfl) ?_) | (with_reducible refine Ft ?_)
 | (with_reducible refine Fi ?_) | (with_reducible refine Fg ?_) | (with_reducible refine Df ?_) | (with_reducible refine Fj ?_) | (with_reducible refine wV_neI ?_) | (with_reducible refine wV_isi (by with_unfolding_all rfl) (by with_unfolding_all rfl) ?_))
section
variable {P:D->MH->Prop}{mh:MH}
theorem Qd {bs:List Bool}{n:Nat}(e:mh[n]?=some (.lst (bs.map D.bl))) (q:P (.bl (bs.all λb=>b)) mh):wV (bZ [.ref n] mh) P:=oJ (f:=λbs=>bs.all λb=>b) (Qc e) q
theorem aW (k:Nat) (ds:List D) (lo hi:Int) (bs:List Bool) (hb:(bs.all λb=>b)=true) (e1:∀ h,Ai (Gk (k+11)) fuel f9 [.tup ds,.int ds.length] h=some (.bl true,h))
  (e2:∀ h,(Dt (Gr (vr 0)) [none,none,some 3,some 2] (Bf 1) (Zr true) (Ao (Ai (Gk (k+11)) fuel f8) (Aa (vr 1) (Aa (vr 3) (Aa (vr 2) (Zr [])))))) [some (.tup ds),some (.int ds.length),some (.int lo),some (.int hi)] h=some (.ref h.length,h++[.lst (bs.map D.bl)]))
  (q:∀ h,Ext [] mh h->P (.bl true) h):wV (Ai (Gk (k+12)) fuel f10 [.tup ds,.int ds.length,.int lo,.int hi] mh) P:=by
 refine Bd (Acd (k+11)) pB.1 pB.2 rfl ?_;show wS (b10 (k+11)) [some (.tup ds),some (.int ds.length),some (.int lo),some (.int hi)] mh _;unfold b10
 walk_at "x0"
 refine Dp _ _ (e1 mh) ?_
 walk_at "x0"
 refine Ng _ _ (e2 mh) ?_
 walk_at "x0"
 refine Qd Az ?_;rw [hb]
 walk_at "x0"
 exact q _ Ext.more
theorem eZ (k:Nat) (b:Int) (q:∀ h,Ext [] mh h->P (.bl true) h):wV (Ai (Gk (k+12)) fuel f55 [.tup [.tup [.tup [.str "put",.int 0,.int b],.tup [.str "raise",.int 0,.int 1],.tup [.str "go",.int 1]]]] mh) P:=by
 refine Bd (Acg (k+11)) pF.1 pF.2 rfl ?_
 show wS (b55 (k+11)) [some (.tup [.tup [.tup [.str "put",.int 0,.int b],.tup [.str "raise",.int 0,.int 1],.tup [.str "go",.int 1]]])] mh _;unfold b55
 refine Cm (N5 (P:=λf l h=>f=.nx/\l=[some (.tup [.tup [.tup [.str "put",.int 0,.int b],.tup [.str "raise",.int 0,.int 1],.tup [.str "go",.int 1]]])]/\h=mh) ⟨_,_,_,by kernel_rfl,rfl,rfl,rfl⟩ ?_);rintro _ _ h ⟨rfl,rfl,e⟩;rw [e]
 walk_at "x0"
 refine Ng (.ref mh.length) (mh++[MO.lst [.bl true]]) (by kernel_rfl) ?_
 walk_at "x0"
 refine Qd (bs:=[true]) Az ?_
 walk_at "x0"
 exact q _ Ext.more
theorem Wk (k:Nat) (q:∀ h,Ext [] mh h->P (.bl true) h):wV (Ai (Gk (k+13)) fuel f56 [.tup [.int 0],.int 1] mh) P:=by
 refine Bd (Ach (k+12)) pG.1 pG.2 rfl ?_;show wS (b56 (k+12)) [some (.tup [.int 0]),some (.int 1)] mh _;unfold b56;refine Cm (N5 (P:=λf l h=>f=.nx/\l=[some (.tup [.int 0]),some (.int 1)]/\h=mh) ⟨_,_,_,by kernel_rfl,rfl,rfl,rfl⟩ ?_);rintro _ _ h ⟨rfl,rfl,e⟩;rw [e]
 walk_at "x0"
 refine Ma (ds:=[.int 0]) (by intro z z';cases z') rfl ?_
 walk_at "x0"
 refine aW k [.int 0] 0 0 [true] rfl (λh=>by kernel_rfl) (λh=>by kernel_rfl) λh x=>?_
 walk_at "x0"
 refine Dp (.ref h.length) (h++[MO.lst [D.int 0]]) (by kernel_rfl) ?_
 walk_at "x0"
 refine Dp (.ref (h++[MO.lst [D.int 0]]).length) (h++[MO.lst [D.int 0]]++[MO.lst [D.int 0]]) (by kernel_rfl) ?_;have e:=(Ext.more (W:=[]) (a:=h++[MO.lst [D.int 0]]) (g:=[MO.lst [D.int 0]])).old _ _ (by simp) Az;refine aG (k:=true) ?_ ?_
 ·unfold eqB
  rw [show py (h++[MO.lst [D.int 0]]++[MO.lst [D.int 0]]) 60 (.ref h.length)=some (.list [.int 0]) by
   show (match (h++[MO.lst [D.int 0]]++[MO.lst [D.int 0]])[h.length]? with | some (.lst o)=>(match mapO (py (h++[MO.lst [D.int 0]]++[MO.lst [D.int 0]]) 59) o with | some xs=>some (PyData.list xs) | none=>none) | _=>none)=_;rw [e];rfl,show py (h++[MO.lst [D.int 0]]++[MO.lst [D.int 0]]) 60 (.ref (h++[MO.lst [D.int 0]]).length)=some (.list [.int 0]) by
   show (match (h++[MO.lst [D.int 0]]++[MO.lst [D.int 0]])[(h++[MO.lst [D.int 0]]).length]? with | some (.lst o)=>(match mapO (py (h++[MO.lst [D.int 0]]++[MO.lst [D.int 0]]) 59) o with | some xs=>some (PyData.list xs) | none=>none) | _=>none)=_
   rw [Az];rfl]
  rfl
 ·walk_at "x0"
  exact q _ (x.trans (Ext.more.trans Ext.more))
theorem fB (k:Nat) (b:Int) (q:∀ h,Ext [] mh h->P (.bl true) h):wV (Ai (Gk (k+14)) fuel f54 [prg b] mh) P:=by
 refine Bd (Acf (k+13)) pD.1 pD.2 rfl ?_;show wS (b54 (k+13)) [some (prg b)] mh _;unfold b54;refine Cm (N5 (P:=λf l h=>f=.nx/\l=[some (prg b)]/\h=mh) ⟨_,_,_,by kernel_rfl,rfl,rfl,rfl⟩ ?_);rintro _ _ h ⟨rfl,rfl,e⟩;rw [e]
 walk_at "x0"
 refine Bp (j:=0) rfl ?_
 walk_at "x0"
 refine Dp (.bl true) mh (by kernel_rfl) ?_
 walk_at "x0"
 refine Bp (j:=1) rfl ?_
 walk_at "x0"
 refine aW (k+1) [.int 0,.int 0] 0 5 [true,true] rfl (λh=>by kernel_rfl) (λh=>by kernel_rfl) λh x=>?_
 walk_at "x0"
 refine Bp (j:=2) rfl ?_
 walk_at "x0"
 refine eZ (k+1) b λh2 x2=>?_
 walk_at "x0"
 refine Bp (j:=3) rfl ?_
 walk_at "x0"
 refine Bp (j:=2) rfl ?_
 walk_at "x0"
 refine Ma (ds:=[.tup [.tup [.str "put",.int 0,.int b],.tup [.str "raise",.int 0,.int 1],.tup [.str "go",.int 1]]]) (by intro z z';cases z') rfl ?_
 walk_at "x0"
 refine Wk k λh3 x3=>?_
 walk_at "x0"
 exact q _ ((x.trans x2).trans x3)
end
local macro_rules | `(tactic| walk_at "s") => `(tactic| first
 | (with_reducible refine Cm ?_) | (with_reducible refine Fe ?_) | (with_reducible refine Ff ?_) | (with_reducible refine Dd ?_) | (with_reducible refine H9 ?_) | (with_reducible refine Fd ?_) | (with_reducible refine Ci ?_) | (with_reducible refine Dc ?_)
 | (with_reducible refine Hw (by with_unfolding_all rfl) ?_) | (with_reducible refine Bk ?_) | (with_reducible refine Hx ?_) | (with_reducible refine Cv ?_) | (with_reducible refine Er ?_) | (with_reducible refine Es ?_) | (with_reducible refine Et ?_) | (with_reducible refine Eu ?_)
 | (with_reducible refine wD_isi ?_) | (with_reducible refine wD_listRng ?_) | (with_reducible refine wD_tupRng ?_) | (with_reducible refine wD_lenSet ?_) | (with_reducible refine wD_sortSet ?_) | (with_reducible refine wD_mk ?_) | (with_reducible refine Dg ?_) | (with_reducible refine Fo ?_) | (with_reducible refine wD_dicIn ?_) | (with_reducible refine wD_dicIx ?_) | (with_reducible refine wD_zip ?_) | (with_reducible refine wS_par ?_) | (with_reducible refine Ce ?_) | (with_reducible refine Ew ?_) | (with_reducible refine wD_notV ?_) | (with_reducible refine Cw ?_)
 | (with_reducible refine Cy ?_) | (with_reducible refine Ey ?_) | (with_reducible refine Cz ?_) | (with_reducible refine Ez ?_) | (with_reducible refine Hy ?_) | (with_reducible refine wD_chain ?_) | (with_reducible refine Cg ?_) | (with_reducible refine wD_sl ?_) | (with_reducible refine wD_partN ?_) | (with_reducible refine wD_partS ?_)
 | (with_reducible refine Fb ?_) | (with_reducible refine wD_enum ?_) | (with_reducible refine wD_rng ?_) | (with_reducible refine Ec ?_) | (with_reducible refine wG_sub ?_) | (with_reducible refine Gv ?_) | (with_reducible refine Fp ?_) | (with_reducible refine Bw ?_) | (with_reducible refine Fq ?_) | (with_reducible refine Cp (by with_unfolding_all rfl) ?_) | (with_reducible refine Dh (by with_unfolding_all rfl) ?_) | (with_reducible refine Ft ?_)
 | (with_reducible refine Fi ?_) | (with_reducible refine Fg ?_) | (with_reducible refine Df ?_) | (with_reducible refine Fj ?_) | (with_reducible refine wV_neI ?_) | (with_reducible refine wV_isi (by with_unfolding_all rfl) (by with_unfolding_all rfl) ?_))
section
variable {P:D->MH->Prop}{mh:MH}
theorem Yr (k:Nat) (b:Int) (q:∀ h,Ext [] mh h->P (.tup [.int 1]) h):wV (Ai (Gk (k+12)) fuel f58 [prg b] mh) P:=by
 refine Bd (Acj (k+11)) pI.1 pI.2 rfl ?_;show wS (b58 (k+11)) [some (prg b)] mh _;unfold b58
 walk_at "x0"
 refine Ng (.ref mh.length) (mh++[MO.lst [.int 1]]) (by kernel_rfl) ?_
 walk_at "x0"
 refine Wf (Qc Az) ?_
 walk_at "x0"
 exact q _ Ext.more
theorem Eh {m1 m2:SM}{loc:DL.Loc}{K:Fl->DL.Loc->MH->Prop}(l:DL.Loc) (e:m1 loc mh=some (.nx,l,mh)) (q:wS m2 l mh K):wS (Af m1 m2) loc mh K:=Cm ⟨_,_,_,e,Ci q⟩
noncomputable def st3 (b:Int) (j:Nat):D:=match j with
 | 0=>.tup [.str "put",.int 0,.int b]
 | 1=>.tup [.str "raise",.int 0,.int 1]
 | _=>.tup [.str "go",.int 1]
noncomputable def sl3 (j:Nat):D:=match j with
 | 0=>.tup [.str "number box",.str "number"]
 | 1=>.tup [.str "number box",.str "number"]
 | _=>.tup [.str "place"]
theorem wJ (k:Nat) (b:Int) (q:∀ h,Ext [] mh h->P (.bl true) h):wV (Ai (Gk (k+12)) fuel f43 [st3 b 0,.int 3,.tup [.int 1]] mh) P:=by
 refine Bd (Yq (k+11)) Mh.1 Mh.2 rfl ?_;show wS (b43 (k+11)) [some (st3 b 0),some (.int 3),some (.tup [.int 1]),none] mh _;unfold b43;refine Eh [some (st3 b 0),some (.int 3),some (.tup [.int 1]),none] (by kernel_rfl) ?_;refine Eh [some (st3 b 0),some (.int 3),some (.tup [.int 1]),none] (by kernel_rfl) ?_;refine Eh [some (st3 b 0),some (.int 3),some (.tup [.int 1]),some (sl3 0)] (by kernel_rfl) ?_;refine Eh [some (st3 b 0),some (.int 3),some (.tup [.int 1]),some (sl3 0)] (by kernel_rfl) ?_
 walk_at "x0"
 refine Ng (.ref mh.length) (mh++[MO.lst [.bl true,.bl true]]) (by kernel_rfl) ?_
 walk_at "x0"
 refine Qd (bs:=[true,true]) Az ?_
 walk_at "x0"
 exact q _ Ext.more
theorem wK (k:Nat) (b:Int) (q:∀ h,Ext [] mh h->P (.bl true) h):wV (Ai (Gk (k+12)) fuel f43 [st3 b 1,.int 3,.tup [.int 1]] mh) P:=by
 refine Bd (Yq (k+11)) Mh.1 Mh.2 rfl ?_;show wS (b43 (k+11)) [some (st3 b 1),some (.int 3),some (.tup [.int 1]),none] mh _;unfold b43;refine Eh [some (st3 b 1),some (.int 3),some (.tup [.int 1]),none] (by kernel_rfl) ?_;refine Eh [some (st3 b 1),some (.int 3),some (.tup [.int 1]),none] (by kernel_rfl) ?_;refine Eh [some (st3 b 1),some (.int 3),some (.tup [.int 1]),some (sl3 1)] (by kernel_rfl) ?_;refine Eh [some (st3 b 1),some (.int 3),some (.tup [.int 1]),some (sl3 1)] (by kernel_rfl) ?_
 walk_at "x0"
 refine Ng (.ref mh.length) (mh++[MO.lst [.bl true,.bl true]]) (by kernel_rfl) ?_
 walk_at "x0"
 refine Qd (bs:=[true,true]) Az ?_
 walk_at "x0"
 exact q _ Ext.more
theorem wL (k:Nat) (b:Int) (q:∀ h,Ext [] mh h->P (.bl true) h):wV (Ai (Gk (k+12)) fuel f43 [st3 b 2,.int 3,.tup [.int 1]] mh) P:=by
 refine Bd (Yq (k+11)) Mh.1 Mh.2 rfl ?_;show wS (b43 (k+11)) [some (st3 b 2),some (.int 3),some (.tup [.int 1]),none] mh _;unfold b43;refine Eh [some (st3 b 2),some (.int 3),some (.tup [.int 1]),none] (by kernel_rfl) ?_;refine Eh [some (st3 b 2),some (.int 3),some (.tup [.int 1]),none] (by kernel_rfl) ?_;refine Eh [some (st3 b 2),some (.int 3),some (.tup [.int 1]),some (sl3 2)] (by kernel_rfl) ?_;refine Eh [some (st3 b 2),some (.int 3),some (.tup [.int 1]),some (sl3 2)] (by kernel_rfl) ?_
 walk_at "x0"
 refine Ng (.ref mh.length) (mh++[MO.lst [.bl true]]) (by kernel_rfl) ?_
 walk_at "x0"
 refine Qd (bs:=[true]) Az ?_
 walk_at "x0"
 exact q _ Ext.more
theorem wM (k:Nat) (b:Int):∀ j,j < 3->(∀ h,Ext [] mh h->P (.bl true) h)->wV (Ai (Gk (k+12)) fuel f43 [st3 b j,.int 3,.tup [.int 1]] mh) P
 | 0,_,q=>wJ k b q
 | 1,_,q=>wK k b q
 | 2,_,q=>wL k b q
theorem aX {ms:DM Src}{g:GM}{body:SM}{l0:DL.Loc}{K:Fl->DL.Loc->MH->Prop}(src:Src) (ds:List D) (J:DL.Loc->Prop) (j0:J l0) (hm:ms l0 mh=some (src,mh)) (hs:∀ h,src.ok h=true/\src.items h=ds)
  (step:∀ (i:Nat) d l h,ds[i]?=some d->J l->Ext [] mh h->wG (g d l h) λl1 h1=>wS body l1 h1 (vK (λl h=>J l/\Ext [] mh h) K)) (fin:∀ l h,J l->Ext [] mh h->K .nx l h):wS (Nk ms g body) l0 mh K:=by
 refine oE ⟨_,_,hm,ds,λ_ l h=>J l/\Ext [] mh h,⟨j0,Ext.refl⟩,λ_ _ h _=>hs h,λi d l h ed q=>step i d l h ed q.1 q.2,λl h q=>fin l h q.1 q.2⟩
theorem pX (k:Nat) (b:Int) (q:∀ h,Ext [] mh h->P .non h):wV (Ai (Gk (k+15)) fuel f53 [prg b] mh) P:=by
 refine Bd (Ace (k+14)) pC.1 pC.2 rfl ?_;show wS (b53 (k+14)) [some (prg b),none,none,none,none,none] mh _;unfold b53
 walk_at "x0"
 refine fB k b λh1 x1=>?_
 walk_at "x0"
 refine Yr (k+2) b λh2 x2=>?_
 walk_at "x0"
 refine aX (.enum (.seq [.tup [st3 b 0,st3 b 1,st3 b 2]])) [.tup [.int 0,.tup [st3 b 0,st3 b 1,st3 b 2]]] (λl=>∃ a1 a2 a3 a4,l=[some (prg b),some (.tup [.int 1]),a1,a2,a3,a4]) ⟨_,_,_,_,rfl⟩ (by kernel_rfl) (λh=>⟨rfl,rfl⟩) ?_ ?_
 ·rintro i d l h ed ⟨a1,a2,a3,a4,rfl⟩ x;have d0:d=.tup [.int 0,.tup [st3 b 0,st3 b 1,st3 b 2]]:=by
   cases i with
   | zero=>cases ed;rfl
   | succ i=>cases ed
  subst d0;refine ⟨[some (prg b),some (.tup [.int 1]),some (.int 0),some (.tup [st3 b 0,st3 b 1,st3 b 2]),a3,a4],h,by kernel_rfl,?_⟩;refine Cm ?_;refine aX (.enum (.seq [st3 b 0,st3 b 1,st3 b 2])) [.tup [.int 0,st3 b 0],.tup [.int 1,st3 b 1],.tup [.int 2,st3 b 2]] (λl=>∃ a3 a4,l=[some (prg b),some (.tup [.int 1]),some (.int 0),some (.tup [st3 b 0,st3 b 1,st3 b 2]),a3,a4]) ⟨_,_,rfl⟩ (by kernel_rfl) (λh=>⟨rfl,rfl⟩) ?_ ?_
  ·rintro j e l h3 ej ⟨a3,a4,rfl⟩ x3;obtain ⟨j3,e0⟩:j < 3/\e=.tup [.int j,st3 b j]:=by
    match j,ej with
    | 0,ej=>cases ej;exact ⟨by omega,rfl⟩
    | 1,ej=>cases ej;exact ⟨by omega,rfl⟩
    | 2,ej=>cases ej;exact ⟨by omega,rfl⟩
   subst e0;refine ⟨[some (prg b),some (.tup [.int 1]),some (.int 0),some (.tup [st3 b 0,st3 b 1,st3 b 2]),some (.int j),some (st3 b j)],h3,by kernel_rfl,?_⟩
   walk_at "x0"
   refine Ma (ds:=[st3 b 0,st3 b 1,st3 b 2]) (by intro z z';cases z') rfl ?_
   walk_at "x0"
   refine wM (k+2) b j j3 λh4 x4=>?_
   walk_at "x0"
   exact ⟨⟨_,_,rfl⟩,x3.trans x4⟩
  ·rintro l h3 ⟨a3,a4,rfl⟩ x3
   walk_at "x0"
   exact ⟨⟨_,_,_,_,rfl⟩,x.trans x3⟩
 ·rintro l h ⟨a1,a2,a3,a4,rfl⟩ x
  walk_at "x0"
  exact wB (q _ ((x1.trans x2).trans x))
end
local macro_rules | `(tactic| walk_at "s") => `(tactic| first
 | (with_reducible refine Cm ?_) | (with_reducible refine Fe ?_) | (with_reducible refine Ff ?_) | (with_reducible refine Dd ?_) | (with_reducible refine H9 ?_) | (with_reducible refine Fd ?_) | (with_reducible refine Ci ?_) | (with_reducible refine Dc ?_)
 | (with_reducible refine Hw (by with_unfolding_all rfl) ?_) | (with_reducible refine Bk ?_) | (with_reducible refine Hx ?_) | (with_reducible refine Cv ?_) | (with_reducible refine Er ?_) | (with_reducible refine Es ?_) | (with_reducible refine Et ?_) | (with_reducible refine Eu ?_)
 | (with_reducible refine wD_isi ?_) | (with_reducible refine wD_listRng ?_) | (with_reducible refine wD_tupRng ?_) | (with_reducible refine wD_lenSet ?_) | (with_reducible refine wD_sortSet ?_) | (with_reducible refine wD_mk ?_) | (with_reducible refine Dg ?_) | (with_reducible refine Fo ?_) | (with_reducible refine wD_dicIn ?_) | (with_reducible refine wD_dicIx ?_) | (with_reducible refine wD_zip ?_) | (with_reducible refine wS_par ?_) | (with_reducible refine Ce ?_) | (with_reducible refine Ew ?_) | (with_reducible refine wD_notV ?_) | (with_reducible refine Cw ?_)
 | (with_reducible refine Cy ?_) | (with_reducible refine Ey ?_) | (with_reducible refine Cz ?_) | (with_reducible refine Ez ?_) | (with_reducible refine Hy ?_) | (with_reducible refine wD_chain ?_) | (with_reducible refine Cg ?_) | (with_reducible refine wD_sl ?_) | (with_reducible refine wD_partN ?_) | (with_reducible refine wD_partS ?_)
 | (with_reducible refine Fb ?_) | (with_reducible refine wD_enum ?_) | (with_reducible refine wD_rng ?_) | (with_reducible refine Ec ?_) | (with_reducible refine wG_sub ?_) | (with_reducible refine Gv ?_) | (with_reducible refine Fp ?_) | (with_reducible refine Bw ?_) | (with_reducible refine Fq ?_) | (with_reducible refine Cp (by with_unfolding_all rfl) ?_) | (with_reducible refine Dh (by with_unfolding_all rfl) ?_) | (with_reducible refine Ft ?_)
 | (with_reducible refine Fi ?_) | (with_reducible refine Fg ?_) | (with_reducible refine Df ?_) | (with_reducible refine Fj ?_) | (with_reducible refine wV_neI ?_) | (with_reducible refine wV_isi (by with_unfolding_all rfl) (by with_unfolding_all rfl) ?_))
noncomputable def ob:Option Int->D
 | none=>.non
 | some i=>.int i
noncomputable def inR (x:Int) (lo hi:Option Int):Bool:=(match lo with | none=>true | some l=>decide (l<=x))&&(match hi with | none=>true | some h=>decide (x<=h))
noncomputable abbrev Pr:=Option Int×Option Int
noncomputable def prD (p:Pr):D:=.tup [ob p.1,ob p.2]
noncomputable def hi2:Option Int->Option Int->Option Int
 | none,y=>y
 | some a,none=>some a
 | some a,some b=>some (Jl a [b])
noncomputable def lo2:Option Int->Option Int->Option Int
 | none,y=>y
 | some a,none=>some a
 | some a,some b=>some (Jm a [b])
noncomputable def wN (p q:Pr):Pr:=(hi2 p.1 q.1,lo2 p.2 q.2)
noncomputable def vd:Pr->Bool
 | (some a,some b)=>decide (b < a)
 | _=>false
theorem Ae5 (k:Nat) (p q:Pr) (mh:MH):Ai (Gk (k+2)) fuel f15 [prD p,prD q] mh=some (prD (wN p q),mh):=by
 obtain ⟨a,b⟩:=p;obtain ⟨c,d⟩:=q;cases a <;> cases b <;> cases c <;> cases d <;> kernel_rfl
theorem pY (k:Nat) (p:Pr) (mh:MH):Ai (Gk (k+1)) fuel f13 [prD p] mh=some (.bl (vd p),mh):=by
 obtain ⟨a,b⟩:=p;cases a <;> cases b <;> kernel_rfl
theorem yI (a b:Int):Jl a [b]=if a < b then b else a:=rfl
theorem yJ (a b:Int):Jm a [b]=if b < a then b else a:=rfl
theorem Ua (x:Int) (lo hi:Option Int):(vd (wN (some x,some x) (lo,hi))=true/\inR x lo hi=false)\/(vd (wN (some x,some x) (lo,hi))=false/\inR x lo hi=true/\wN (some x,some x) (lo,hi)=(some x,some x)):=by
 cases lo with
 | none =>
  cases hi with
  | none =>
   refine .inr ⟨?_,rfl,rfl⟩;show decide (x < x)=false;exact decide_eq_false (by omega)
  | some b =>
   show (decide (Jm x [b] < x)=true/\(true&&decide (x<=b))=false)\/(decide (Jm x [b] < x)=false/\(true&&decide (x<=b))=true/\((some x,some (Jm x [b])):Pr)=(some x,some x));rw [yJ,yt]
   by_cases h:b < x
   ·rw [if_pos h];exact .inl ⟨decide_eq_true h,decide_eq_false (by omega)⟩
   ·rw [if_neg h];exact .inr ⟨decide_eq_false (by omega),decide_eq_true (by omega),rfl⟩
 | some a =>
  cases hi with
  | none =>
   show (decide (x < Jl x [a])=true/\(decide (a<=x)&&true)=false)\/(decide (x < Jl x [a])=false/\(decide (a<=x)&&true)=true/\((some (Jl x [a]),some x):Pr)=(some x,some x));rw [yI,HN]
   by_cases h:x < a
   ·rw [if_pos h];exact .inl ⟨decide_eq_true h,decide_eq_false (by omega)⟩
   ·rw [if_neg h];exact .inr ⟨decide_eq_false (by omega),decide_eq_true (by omega),rfl⟩
  | some b =>
   show (decide (Jm x [b] < Jl x [a])=true/\(decide (a<=x)&&decide (x<=b))=false)\/(decide (Jm x [b] < Jl x [a])=false/\(decide (a<=x)&&decide (x<=b))=true/\((some (Jl x [a]),some (Jm x [b])):Pr)=(some x,some x));rw [yI,yJ]
   by_cases h:x < a
   ·rw [if_pos h,decide_eq_false (show ¬ a<=x by omega)];refine .inl ⟨decide_eq_true ?_,rfl⟩;split <;> omega
   ·rw [if_neg h,decide_eq_true (show a<=x by omega)]
    by_cases h2:b < x
    ·rw [if_pos h2];exact .inl ⟨decide_eq_true h2,by rw [decide_eq_false (by omega)];rfl⟩
    ·rw [if_neg h2];exact .inr ⟨decide_eq_false (by omega),by rw [decide_eq_true (by omega)];rfl,rfl⟩
theorem Jb (k:Nat) (x:Int) (lo hi:Option Int) (mh:MH) {P:D->MH->Prop}(h:P (.bl (inR x lo hi)) mh):wV (Ai (Gk (k+3)) fuel f75 [.tup [.int x,.int x],ob lo,ob hi] mh) P:=by
 refine Bd (Acl (k+2)) pK.1 pK.2 rfl ?_;show wS (b75 (k+2)) [some (prD (some x,some x)),some (ob lo),some (ob hi),none] mh _;unfold b75
 walk_at "x0"
 refine Dp _ _ (Ae5 k (some x,some x) (lo,hi) mh) ?_
 walk_at "x0"
 rcases Ua x lo hi with ⟨e1,e2⟩|⟨e1,e2,e3⟩
 ·refine Dp (.bl true) mh (by rw [pY,e1]) ?_
  walk_at "x0"
  rw [← e2];exact h
 ·refine Dp (.bl false) mh (by rw [pY,e1]) ?_
  walk_at "x0"
  rw [e3];refine eq_refl rfl rfl ?_
  walk_at "x0"
  rw [← e2];exact h
section
variable {P:D->MH->Prop}{mh:MH}
noncomputable def pt (p n:Int):D:=.tup [.int p,.tup [.int n,.int 0,.int 0],.tup [.int (-1),.int (-1),.int (-1)],.tup [.int 0,.int 0],.bl false]
theorem aY (k:Nat) (p n:Int) (lo hi:Option Int) (q:P (.bl (inR n lo hi)) mh):wV (Ai (Gk (k+4)) fuel f74 [pt p n,.tup [.str "number",.int 0,ob lo,ob hi]] mh) P:=by
 refine Bd (pN (k+3)) Uj.1 Uj.2 rfl ?_
 show wS (b74 (k+3)) [some (pt p n),some (.tup [.str "number",.int 0,ob lo,ob hi]),none,none,none] mh _;unfold b74
 refine Eh [some (pt p n),some (.tup [.str "number",.int 0,ob lo,ob hi]),some (.str "number"),none,none] (by kernel_rfl) ?_
 refine Eh [some (pt p n),some (.tup [.str "number",.int 0,ob lo,ob hi]),some (.str "number"),none,none] (by kernel_rfl) ?_
 walk_at "x0"
 refine oN (by decide +kernel) (by decide +kernel) (by decide +kernel) ?_;refine Gv (Bw ?_)
 refine Eh [some (pt p n),some (.tup [.str "number",.int 0,ob lo,ob hi]),some (.str "number"),some (.int n),none] (by kernel_rfl) ?_
 refine Eh [some (pt p n),some (.tup [.str "number",.int 0,ob lo,ob hi]),some (.str "number"),some (.int n),some (.tup [.int n,.int n])] (by kernel_rfl) ?_
 walk_at "x0"
 refine Bp (j:=2) (d:=ob lo) rfl ?_
 walk_at "x0"
 refine Bp (j:=3) (d:=ob hi) rfl ?_
 walk_at "x0"
 refine Jb k n lo hi mh ?_
 walk_at "x0"
 exact q
noncomputable def Pss (c:D) (p n:Int) (t:Bool):Prop:=∀ (k:Nat) (mh:MH) (P:D->MH->Prop),(∀ h,Ext [] mh h->P (.bl t) h)->wV (Ai (Gk (k+6)) fuel f74 [pt p n,c] mh) P
theorem Aga (p n B:Int):Pss (c1 B) p n (decide (n=B)):=λk mh P q=>by
 refine aY (k+2) p n (some B) (some B) ?_;have:inR n (some B) (some B)=decide (n=B):=by
  show (decide (B<=n)&&decide (n<=B))=_
  by_cases h:n=B
  ·rw [decide_eq_true h,decide_eq_true (by omega),decide_eq_true (by omega)];rfl
  ·rw [decide_eq_false h]
   by_cases h2:B<=n
   ·rw [decide_eq_false (show ¬ n<=B by omega),Bool.and_false]
   ·rw [decide_eq_false h2,Bool.false_and]
 rw [this];exact q _ Ext.refl
theorem pZ {mi:DM Src}{cs:List (Option Nat)}{g:GM}{e:DM D}{loc:DL.Loc}{Q:D->MH->Prop}(d:D) (hm:wD mi loc mh λs h0=>s=.seq [d]/\∃ l1,g d (Sy cs loc) h0=some (l1,h0)/\wD e l1 h0 λy h=>Q (.ref h.length) (h++[.lst [y]])):wD (Dt mi cs g (Zr true) e) loc mh Q:=by
 refine Ug (Be hm ?_);rintro s h0 ⟨rfl,l1,eg,y,h,ey,q⟩;refine ⟨[d],λi acc h'=>(i=0/\acc=[]/\h'=h0)\/(i=1/\acc=[y]/\h'=h),by simp,.inl ⟨rfl,rfl,rfl⟩,λ_ _ _ _=>⟨rfl,rfl⟩,?_,?_,?_⟩
 ·rintro i acc h' (⟨rfl,rfl,_⟩ | ⟨rfl,rfl,_⟩) <;> simp
 ·rintro i x acc h' ex (⟨rfl,rfl,rfl⟩ | ⟨rfl,_⟩)
  ·cases ex;exact ⟨l1,_,eg,Bk (Bw ⟨y,h,ey,.inr ⟨rfl,rfl,rfl⟩⟩)⟩
  ·cases ex
 ·rintro acc h' (⟨z,_⟩ | ⟨_,rfl,rfl⟩)
  ·cases z
  ·exact q
theorem Ys (k:Nat) (b:Int) (q:∀ h,Ext [] mh h->P (.tup [.int 0]) h):wV (Ai (Gk (k+1)) fuel f57 [prg b,.int 0] mh) P:=by
 refine Bd (Aci k) pH.1 pH.2 rfl ?_;show wS (b57 k) [some (prg b),some (.int 0)] mh _;unfold b57
 walk_at "x0"
 refine Ng (.ref mh.length) (mh++[MO.lst [.int 0]]) (by kernel_rfl) ?_
 walk_at "x0"
 refine Wf (Qc Az) ?_
 walk_at "x0"
 exact q _ Ext.more
theorem qC (k:Nat) (b p n:Int) (c:D) (t:Bool) (hc:Pss c p n t) (q:∀ h,Ext [] mh h->P (.bl t) h):wV (Ai (Gk (k+7)) fuel f72 [prg b,wld p n,tst c] mh) P:=by
 refine Bd (Ack (k+6)) pJ.1 pJ.2 rfl ?_;show wS (b72 (k+6)) [some (prg b),some (wld p n),some (tst c),none,none] mh _;unfold b72
 refine Eh [some (prg b),some (wld p n),some (tst c),some (.str "count"),none] (by kernel_rfl) ?_
 walk_at "x0"
 refine oN (by decide +kernel) (by decide +kernel) (by decide +kernel) ?_;refine Gv (Bw ?_)
 walk_at "x0"
 refine pZ (.int 0) ?_
 walk_at "x0"
 refine Bp (j:=1) (d:=.int 0) rfl ?_
 walk_at "x0"
 refine Ys (k+5) b λh1 x1=>?_
 refine ⟨_,rfl,rfl,[none,some (.int 0),some (wld p n),some (tst c)],by kernel_rfl,?_⟩
 walk_at "x0"
 refine Dp (pt p n) h1 (by kernel_rfl) ?_
 walk_at "x0"
 refine Bp (j:=2) (d:=c) rfl ?_
 walk_at "x0"
 refine hc k h1 _ λh2 x2=>?_
 have g:(h2++[MO.lst ([t].map D.bl)])[h2.length]?=_:=Az
 walk_at "x0"
 refine oK ?_
 walk_at "x0"
 refine .inr ⟨rfl,ty_list g,?_⟩
 walk_at "x0"
 refine Dp _ _ (Vq g) ?_
 walk_at "x0"
 refine Ma (by intro z z';cases z') (Qc g) ?_
 walk_at "x0"
 refine oK ?_
 walk_at "x0"
 refine .inr ⟨rfl,ty_list g,?_⟩
 walk_at "x0"
 refine Dp _ _ (Vq g) ?_
 walk_at "x0"
 refine Bp (j:=3) (d:=ob (some 1)) rfl ?_
 walk_at "x0"
 refine Bp (j:=4) (d:=ob none) rfl ?_
 walk_at "x0"
 have fin:=q _ ((x1.trans x2).trans (Ext.more (g:=[MO.lst ([t].map D.bl)])));cases t with
 | true=>exact Jb (k+3) 1 (some 1) none _ fin
 | false=>exact Jb (k+3) 0 (some 1) none _ fin
theorem Yt (k:Nat) (b p n:Int) (c:D) (t:Bool) (hc:Pss c p n t) (q:∀ h,Ext [] mh h->P (.bl t) h):wV (Ai (Gk (k+8)) fuel f90 [prg b,clm c,wld p n,.bl false] mh) P:=by
 refine Bd (Acn (k+7)) pM.1 pM.2 rfl ?_;show wS (b90 (k+7)) [some (prg b),some (clm c),some (wld p n),some (.bl false)] mh _;unfold b90;refine Eh [some (prg b),some (clm c),some (wld p n),some (.bl false)] (by kernel_rfl) ?_
 walk_at "x0"
 refine Bp (j:=1) (d:=tst c) rfl ?_
 walk_at "x0"
 refine qC k b p n c t hc λh x=>?_
 walk_at "x0"
 cases t with
 | true=>exact ⟨_,_,rfl,q _ x⟩
 | false=>exact ⟨_,_,rfl,q _ x⟩
end
local macro_rules | `(tactic| walk_at "s") => `(tactic| first
 | (with_reducible refine Cm ?_) | (with_reducible refine Fe ?_) | (with_reducible refine Ff ?_) | (with_reducible refine Dd ?_) | (with_reducible refine H9 ?_) | (with_reducible refine Fd ?_) | (with_reducible refine Ci ?_) | (with_reducible refine Dc ?_)
 | (with_reducible refine Hw (by with_unfolding_all rfl) ?_) | (with_reducible refine Bk ?_) | (with_reducible refine Hx ?_) | (with_reducible refine Cv ?_) | (with_reducible refine Er ?_) | (with_reducible refine Es ?_) | (with_reducible refine Et ?_) | (with_reducible refine Eu ?_)
 | (with_reducible refine wD_isi ?_) | (with_reducible refine wD_listRng ?_) | (with_reducible refine wD_tupRng ?_) | (with_reducible refine wD_lenSet ?_) | (with_reducible refine wD_sortSet ?_) | (with_reducible refine wD_mk ?_) | (with_reducible refine Dg ?_) | (with_reducible refine Fo ?_) | (with_reducible refine wD_dicIn ?_) | (with_reducible refine wD_dicIx ?_) | (with_reducible refine wD_zip ?_) | (with_reducible refine wS_par ?_) | (with_reducible refine Ce ?_) | (with_reducible refine Ew ?_) | (with_reducible refine wD_notV ?_) | (with_reducible refine Cw ?_)
 | (with_reducible refine Cy ?_) | (with_reducible refine Ey ?_) | (with_reducible refine Cz ?_) | (with_reducible refine Ez ?_) | (with_reducible refine Hy ?_) | (with_reducible refine wD_chain ?_) | (with_reducible refine Cg ?_) | (with_reducible refine wD_sl ?_) | (with_reducible refine wD_partN ?_) | (with_reducible refine wD_partS ?_)
 | (with_reducible refine Fb ?_) | (with_reducible refine wD_enum ?_) | (with_reducible refine wD_rng ?_) | (with_reducible refine Ec ?_) | (with_reducible refine wG_sub ?_) | (with_reducible refine Gv ?_) | (with_reducible refine Fp ?_) | (with_reducible refine Bw ?_) | (with_reducible refine Fq ?_) | (with_reducible refine Cp (by with_unfolding_all rfl) ?_) | (with_reducible refine Dh (by with_unfolding_all rfl) ?_) | (with_reducible refine Ft ?_)
 | (with_reducible refine Fi ?_) | (with_reducible refine Fg ?_) | (with_reducible refine Df ?_) | (with_reducible refine Fj ?_) | (with_reducible refine wV_neI ?_) | (with_reducible refine wV_isi (by with_unfolding_all rfl) (by with_unfolding_all rfl) ?_))
section
variable {P:D->MH->Prop}{mh:MH}
theorem Acz {j:Nat}{a b:Bool}(h:a=false\/b=false) (e:mh[j]?=some (.lst [.bl a,.bl b])):inB mh (.bl false) (.ref j)=some true:=by
 have e1:py mh 60 (.bl false)=some (.bool false):=rfl;have e2:py mh 60 (.ref j)=some (.list [.bool a,.bool b]):=by
  show (match mh[j]? with | some (.lst o)=>(match mapO (py mh 59) o with | some xs=>some (PyData.list xs) | none=>none) | _=>none)=_;rw [e];rfl
 unfold inB;rw [e1,e2];rcases h with rfl|rfl
 ·cases b <;> rfl
 ·cases a <;> rfl
theorem qD (k:Nat) {j:Nat}{a b:Bool}(h:a=false\/b=false) (e:mh[j]?=some (.lst [.bl a,.bl b])) (q:P (.bl false) mh):wV (Ai (Gk (k+1)) fuel f76 [.str "both",.ref j] mh) P:=by
 refine Bd (Acm k) pL.1 pL.2 rfl ?_
 show wS (b76 k) [some (.str "both"),some (.ref j),none] mh _;unfold b76
 refine Eh [some (.str "both"),some (.ref j),none] (by kernel_rfl) ?_
 refine Eh [some (.str "both"),some (.ref j),some (.bl false)] (by kernel_rfl) ?_
 walk_at "x0"
 refine Aev (Acz h e) ?_
 walk_at "x0"
 exact q
theorem Agb (p n:Int) (hp:(p=0/\n=0)\/(p≠0)):Pss c2 p n false:=λk mh P q=>by
 refine Bd (pN (k+5)) Uj.1 Uj.2 rfl ?_;show wS (b74 (k+5)) [some (pt p n),some c2,none,none,none] mh _;unfold b74
 refine Eh [some (pt p n),some c2,some (.str "both"),none,none] (by kernel_rfl) ?_
 refine Eh [some (pt p n),some c2,some (.str "both"),none,none] (by kernel_rfl) ?_
 refine Eh [some (pt p n),some c2,some (.str "both"),none,none] (by kernel_rfl) ?_
 refine Eh [some (pt p n),some c2,some (.str "both"),none,none] (by kernel_rfl) ?_
 refine Eh [some (pt p n),some c2,some (.str "both"),none,none] (by kernel_rfl) ?_
 refine Eh [some (pt p n),some c2,some (.str "both"),none,none] (by kernel_rfl) ?_
 refine Eh [some (pt p n),some c2,some (.str "both"),none,none] (by kernel_rfl) ?_
 walk_at "x0"
 refine Ug ⟨.seq [.tup [.str "at",.int 0],.tup [.str "number",.int 0,ob (some 1),ob none]],mh,by kernel_rfl,[.tup [.str "at",.int 0],.tup [.str "number",.int 0,ob (some 1),ob none]],λi acc h=>h=mh/\acc=[D.bl (p==0),.bl (inR n (some 1) none)].take i,by simp,⟨rfl,rfl⟩,λ_ _ _ _=>⟨rfl,rfl⟩,?_,?_,?_⟩
 ·rintro i acc h ⟨_,rfl⟩;rw [yp];omega
 ·rintro i d acc h ed ⟨rfl,rfl⟩
  match i,ed with
  | 0,ed =>
   cases ed
   refine ⟨[none,some (.tup [.str "at",.int 0]),some (pt p n)],h,by kernel_rfl,Bk (Bw ?_)⟩
   walk_at "x0"
   refine Dp (.bl (p==0)) h (by kernel_rfl) ?_;exact ⟨rfl,rfl⟩
  | 1,ed =>
   cases ed
   refine ⟨[none,some (.tup [.str "number",.int 0,ob (some 1),ob none]),some (pt p n)],h,by kernel_rfl,Bk (Bw ?_)⟩
   walk_at "x0"
   refine aY (k+1) p n (some 1) none ?_;exact ⟨rfl,rfl⟩
 ·rintro acc h ⟨rfl,rfl⟩
  walk_at "x0"
  refine qD (k+4) ?_ Az ?_
  ·rcases hp with ⟨_,rfl⟩|z
   ·exact .inr rfl
   ·exact .inl (beq_eq_false_iff_ne.mpr z)
  ·walk_at "x0"
   exact q _ Ext.more
noncomputable def pl (i:Nat):Int:=if i=0 then 0 else if i % 2=1 then 1 else 2
noncomputable def nu (b:Int) (i:Nat):Int:=if i=0 then 0 else b+((i / 2:Nat):Int)
theorem qF (i:Nat):pl i=0\/pl i=1\/pl i=2:=by
 unfold pl;split
 ·exact .inl rfl
 ·split
  ·exact .inr (.inl rfl)
  ·exact .inr (.inr rfl)
theorem Ae6 (b:Int) (i:Nat):nxW b (pl i) (nu b i)=wld (pl (i+1)) (nu b (i+1)):=by
 unfold nxW
 by_cases h0:i=0
 ·subst h0;show wld 1 b=wld 1 (b+((0:Nat):Int));rw [show b+((0:Nat):Int)=b by omega]
 ·by_cases h1:i % 2=1
  ·have e1:pl i=1:=by unfold pl;rw [if_neg h0,if_pos h1]
   have e2:pl (i+1)=2:=by unfold pl;rw [if_neg (by omega),if_neg (by omega)]
   have e3:nu b (i+1)=nu b i+1:=by unfold nu;rw [if_neg h0,if_neg (by omega)];omega
   rw [e1,e2,e3];rfl
  ·have e1:pl i=2:=by unfold pl;rw [if_neg h0,if_neg h1]
   have e2:pl (i+1)=1:=by unfold pl;rw [if_neg (by omega),if_pos (by omega)]
   have e3:nu b (i+1)=nu b i:=by unfold nu;rw [if_neg h0,if_neg (by omega)];omega
   rw [e1,e2,e3];rfl
noncomputable def Ae7 (p n:Int):D:=.tup [wld p n,.bl false]
noncomputable def kpr (p n:Int):PyData:=.tuple [.tuple [.tuple [.tuple [.int p,.tuple [.int n,.int 0,.int 0],.tuple [.int (-1),.int (-1),.int (-1)],.tuple [.int 0,.int 0],.bool false]],.tuple [.tuple [.tuple []]],.tuple [.int 0,.int 0]],.bool false]
theorem yK (p n:Int):kD (Ae7 p n)=some (kpr p n):=by kernel_rfl
noncomputable def prN (b:Int) (i:Nat):D:=Ae7 (pl i) (nu b i)
noncomputable def kyN (b:Int) (i:Nat):PyData:=kpr (pl i) (nu b i)
theorem Ae8 {b:Int}{i j:Nat}(hb:1<=b) (h:i < j):kyN b i≠kyN b j:=λe=>by
 have e1:pl i=pl j/\nu b i=nu b j:=by
  unfold kyN kpr at e;simp only [PyData.tuple.injEq,List.cons.injEq,PyData.int.injEq,and_true,true_and] at e;exact e
 obtain ⟨e1,e2⟩:=e1;unfold pl at e1;unfold nu at e2;rw [if_neg (show ¬ j=0 by omega)] at e1 e2
 by_cases h0:i=0
 ·rw [if_pos h0] at e2;omega
 ·rw [if_neg h0] at e1 e2;have:i / 2=j / 2:=by omega
  split at e1 <;> split at e1 <;> omega
end
local macro_rules | `(tactic| walk_at "s") => `(tactic| first
 | (with_reducible refine Cm ?_) | (with_reducible refine Fe ?_) | (with_reducible refine Ff ?_) | (with_reducible refine Dd ?_) | (with_reducible refine H9 ?_) | (with_reducible refine Fd ?_) | (with_reducible refine Ci ?_) | (with_reducible refine Dc ?_)
 | (with_reducible refine Hw (by with_unfolding_all rfl) ?_) | (with_reducible refine Bk ?_) | (with_reducible refine Hx ?_) | (with_reducible refine Cv ?_) | (with_reducible refine Er ?_) | (with_reducible refine Es ?_) | (with_reducible refine Et ?_) | (with_reducible refine Eu ?_)
 | (with_reducible refine wD_isi ?_) | (with_reducible refine wD_listRng ?_) | (with_reducible refine wD_tupRng ?_) | (with_reducible refine wD_lenSet ?_) | (with_reducible refine wD_sortSet ?_) | (with_reducible refine wD_mk ?_) | (with_reducible refine Dg ?_) | (with_reducible refine Fo ?_) | (with_reducible refine wD_dicIn ?_) | (with_reducible refine wD_dicIx ?_) | (with_reducible refine wD_zip ?_) | (with_reducible refine wS_par ?_) | (with_reducible refine Ce ?_) | (with_reducible refine Ew ?_) | (with_reducible refine wD_notV ?_) | (with_reducible refine Cw ?_)
 | (with_reducible refine Cy ?_) | (with_reducible refine Ey ?_) | (with_reducible refine Cz ?_) | (with_reducible refine Ez ?_) | (with_reducible refine Hy ?_) | (with_reducible refine wD_chain ?_) | (with_reducible refine Cg ?_) | (with_reducible refine wD_sl ?_) | (with_reducible refine wD_partN ?_) | (with_reducible refine wD_partS ?_)
 | (with_reducible refine Fb ?_) | (with_reducible refine wD_enum ?_) | (with_reducible refine wD_rng ?_) | (with_reducible refine Ec ?_) | (with_reducible refine wG_sub ?_) | (with_reducible refine Gv ?_) | (with_reducible refine Fp ?_) | (with_reducible refine Bw ?_) | (with_reducible refine Fq ?_) | (with_reducible refine Cp (by with_unfolding_all rfl) ?_) | (with_reducible refine Dh (by with_unfolding_all rfl) ?_) | (with_reducible refine Ft ?_)
 | (with_reducible refine Fi ?_) | (with_reducible refine Fg ?_) | (with_reducible refine Df ?_) | (with_reducible refine Fj ?_) | (with_reducible refine wV_neI ?_) | (with_reducible refine wV_isi (by with_unfolding_all rfl) (by with_unfolding_all rfl) ?_))
noncomputable def tr (m:Nat):D:=.obj "Trail" ["pairs", "origins", "places"] [.ref m,.ref (m+1),.ref (m+2)]
section
variable {m:Nat}{Q:D->Prop}
theorem qG (h:Q (.ref m)):∃ c ks ds d,tr m=.obj c ks ds/\fld c "pairs"=true/\(ks.zip ds).lookup ("pairs":Str)=some d/\Q d:=⟨_,_,_,_,rfl,by decide +kernel,by kernel_rfl,h⟩
theorem wO (h:Q (.ref (m+1))):∃ c ks ds d,tr m=.obj c ks ds/\fld c "origins"=true/\(ks.zip ds).lookup ("origins":Str)=some d/\Q d:=⟨_,_,_,_,rfl,by decide +kernel,by kernel_rfl,h⟩
theorem fD (h:Q (.ref (m+2))):∃ c ks ds d,tr m=.obj c ks ds/\fld c "places"=true/\(ks.zip ds).lookup ("places":Str)=some d/\Q d:=⟨_,_,_,_,rfl,by decide +kernel,by kernel_rfl,h⟩
end
theorem Ln {a:PyData×D}{r:List (PyData×D)}{k:PyData}:Gz (a::r) k=if a.1=k then some a.2 else Gz r k:=by
 unfold Gz;rw [lg]
 by_cases h:a.1=k
 ·rw [decide_eq_true h,if_pos h];rfl
 ·rw [decide_eq_false h,if_neg h]
theorem Rv {l:List (PyData×D)}{k:PyData}(h:∀ e∈l,e.1≠k):Gz l k=none:=by
 induction l with
 | nil=>rfl
 | cons a r ih=>rw [Ln,if_neg (h a dw)];exact ih λe he=>h e (cu _ he)
noncomputable def Dst (h:MH) (j:Nat) (l:List (PyData×D)):Prop:=(l=[]/\h[j]?=some (.dct []))\/h[j]?=some (.dtk l)
local macro_rules | `(tactic| walk_at "x1") => `(tactic| repeat (first | walk_at "s" | with_reducible refine Ul ?_ | with_reducible refine Uk (by simp) ?_ | with_reducible refine qG ?_ | with_reducible refine wO ?_ | with_reducible refine fD ?_))
section
variable {P:D->MH->Prop}{mh:MH}
theorem wQ {loc:DL.Loc}{mo mi:DM D}{v:D}{R:DL.Loc->MH->Prop}(h:wD mo loc mh λo h1=>wD mi loc h1 λi h2=>∃ n k l ds,o=.ref n/\i=.tup ds/\kD i=some k/\Dst h2 n l/\l.length < 1000000/\(∀ e∈l,e.1≠k)/\R loc (h2.set n (.dtk (l++[(k,v)])))):wG (M7 mo mi v loc mh) R:=by
 obtain ⟨o,h1,e1,i,h2,e2,n,k,l,ds,rfl,rfl,ek,d,hl,hk,r⟩:=h;refine ⟨loc,_,?_,r⟩;have kn:Xo (.tup ds)=none:=rfl;rcases d with ⟨rfl,d⟩|d
 ·have e6:Mv (.ref n) (.tup ds) v h2=none:=by unfold Mv;simp only [d]
  unfold M7 Tq;rw [e1];dsimp only;rw [e2];dsimp only;rw [e6];dsimp only;simp only [Pg,d,kn,ek];rfl
 ·have e6:Mv (.ref n) (.tup ds) v h2=none:=by unfold Mv;simp only [d]
  unfold M7 Tq;rw [e1];dsimp only;rw [e2];dsimp only;rw [e6];dsimp only;have ep:cV l k v=l++[(k,v)]:=by
   unfold cV;rw [Rv hk,if_neg (by decide)]
  simp only [Pg,d,ek,if_pos hl,ep]
theorem qH {n:Nat}{ds:List D}{k:PyData}{l:List (PyData×D)}(d:Dst mh n l) (ek:kD (.tup ds)=some k) (hk:∀ e∈l,e.1≠k) (q:P (.bl false) mh):wV (inD false (.tup ds) (.ref n) mh) P:=by
 rcases d with ⟨rfl,d⟩|d
 ·exact ⟨_,_,by simp only [inD,cW d,Xr,Xo,ek];rfl,q⟩
 ·refine Ab9 d ek ?_;rw [Rv hk];exact q
noncomputable def org (i:Nat):D:=if i=0 then .non else .tup [.int ((i - 1:Nat):Int),mv]
structure TS (h:MH) (m:Nat) (b:Int) (N:Nat):Prop where
 prs:h[m]?=some (.lst ((gw N).map (prN b)))
 ors:h[m+1]?=some (.lst ((gw N).map org))
 dic:Dst h (m+2) ((gw N).map λi=>(kyN b i,.int i))
theorem TS.ext {h h':MH}{m:Nat}{b:Int}{N:Nat}(T:TS h m b N) (x:Ext [] h h'):TS h' m b N :=
 ⟨x.old _ _ (by simp) T.prs,x.old _ _ (by simp) T.ors,T.dic.elim (λ⟨e,d⟩=>.inl ⟨e,x.old _ _ (by simp) d⟩) λd=>.inr (x.old _ _ (by simp) d)⟩
theorem Oa {n:Nat}{ds:List D}(e:mh[n]?=some (.lst ds)) (h:P (.int ds.length) mh):wV (Gj [.ref n] mh) P:=Ma (by intro z z';cases z') (Qc e) h
theorem Wl (k:Nat) {b:Int}{N:Nat}(hb:1<=b) (T:TS mh m b N) (hN:N < 1000000) (q:∀ h,TS h m b (N+1)->Ext [m,m+1,m+2] mh h->P (.bl true) h):wV (Ai (Gk (k+1)) fuel Ka [tr m,prN b N,org N] mh) P:=by
 refine Bd (eO k) Rr.1 Rr.2 rfl ?_;show wS (Hs k) [some (tr m),some (prN b N),some (org N)] mh _;have kn:∀ e∈(gw N).map (λi=>(kyN b i,D.int i)),e.1≠kyN b N:=λe he=>by
  obtain ⟨i,hi,rfl⟩:=jc.mp he;exact Ae8 hb (List.mem_range.mp hi)
 have up:∀ {α:Type} (f:Nat->α),(gw (N+1)).map f=(gw N).map f++[f N]:=λf=>by rw [List.range_succ,pq];rfl
 unfold Hs
 walk_at "x1"
 refine qH (ds:=[wld (pl N) (nu b N),.bl false]) T.dic (yK _ _) kn ?_
 walk_at "x1"
 refine Oa T.prs ?_;rw [fu,qp];refine wQ ?_
 walk_at "x1"
 refine ⟨_,_,_,_,rfl,rfl,yK _ _,T.dic,by rw [fu,qp];exact hN,kn,?_⟩;have g1:=Fv (o:=.dtk ((gw N).map (λi=>(kyN b i,D.int i))++[(kpr (pl N) (nu b N),.int N)])) T.prs (show m+2≠m by omega);have g2:=Fv (o:=.dtk ((gw N).map (λi=>(kyN b i,D.int i))++[(kpr (pl N) (nu b N),.int N)])) T.ors (show m+2≠m+1 by omega);have g3:(mh.set (m+2) (.dtk ((gw N).map (λi=>(kyN b i,D.int i))++[(kpr (pl N) (nu b N),.int N)])))[m+2]?=some (.dtk ((gw N).map (λi=>(kyN b i,D.int i))++[(kpr (pl N) (nu b N),.int N)])):=by
  rcases T.dic with ⟨_,d⟩|d
  ·exact Mi d
  ·exact Mi d
 have x1:Ext [m,m+1,m+2] mh (mh.set (m+2) (.dtk ((gw N).map (λi=>(kyN b i,D.int i))++[(kpr (pl N) (nu b N),.int N)]))):=⟨by simp,λi o hi e=>Fv e (by simp at hi;omega)⟩;generalize mh.set (m+2) (.dtk ((gw N).map (λi=>(kyN b i,D.int i))++[(kpr (pl N) (nu b N),.int N)]))=h1 at g1 g2 g3 x1 ⊢;refine Ci ?_
 walk_at "x1"
 refine ⟨ty_list g1,?_⟩
 walk_at "x1"
 refine Jj g1 (by rw [fu,qp];omega) ?_;have g4:=Mi (o:=.lst ((gw N).map (prN b)++[prN b N])) g1;have g5:=Fv (o:=.lst ((gw N).map (prN b)++[prN b N])) g2 (show m≠m+1 by omega);have g6:=Fv (o:=.lst ((gw N).map (prN b)++[prN b N])) g3 (show m≠m+2 by omega);have x2:Ext [m,m+1,m+2] h1 (h1.set m (.lst ((gw N).map (prN b)++[prN b N]))):=⟨by simp,λi o hi e=>Fv e (by simp at hi;omega)⟩;generalize h1.set m (.lst ((gw N).map (prN b)++[prN b N]))=h2 at g4 g5 g6 x2 ⊢
 walk_at "x1"
 refine ⟨ty_list g5,?_⟩
 walk_at "x1"
 refine Jj g5 (by rw [fu,qp];omega) ?_;have x3:Ext [m,m+1,m+2] h2 (h2.set (m+1) (.lst ((gw N).map org++[org N]))):=⟨by simp,λi o hi e=>Fv e (by simp at hi;omega)⟩
 walk_at "x1"
 exact q _ ⟨by rw [up];exact Fv g4 (by omega),by rw [up];exact Mi g5,.inr (by rw [up];exact Fv g6 (by omega))⟩ ((x1.trans x2).trans x3)
end
local macro_rules | `(tactic| walk_at "s") => `(tactic| first
 | (with_reducible refine Cm ?_) | (with_reducible refine Fe ?_) | (with_reducible refine Ff ?_) | (with_reducible refine Dd ?_) | (with_reducible refine H9 ?_) | (with_reducible refine Fd ?_) | (with_reducible refine Ci ?_) | (with_reducible refine Dc ?_)
 | (with_reducible refine Hw (by with_unfolding_all rfl) ?_) | (with_reducible refine Bk ?_) | (with_reducible refine Hx ?_) | (with_reducible refine Cv ?_) | (with_reducible refine Er ?_) | (with_reducible refine Es ?_) | (with_reducible refine Et ?_) | (with_reducible refine Eu ?_)
 | (with_reducible refine wD_isi ?_) | (with_reducible refine wD_listRng ?_) | (with_reducible refine wD_tupRng ?_) | (with_reducible refine wD_lenSet ?_) | (with_reducible refine wD_sortSet ?_) | (with_reducible refine wD_mk ?_) | (with_reducible refine Dg ?_) | (with_reducible refine Fo ?_) | (with_reducible refine wD_dicIn ?_) | (with_reducible refine wD_dicIx ?_) | (with_reducible refine wD_zip ?_) | (with_reducible refine wS_par ?_) | (with_reducible refine Ce ?_) | (with_reducible refine Ew ?_) | (with_reducible refine wD_notV ?_) | (with_reducible refine Cw ?_)
 | (with_reducible refine Cy ?_) | (with_reducible refine Ey ?_) | (with_reducible refine Cz ?_) | (with_reducible refine Ez ?_) | (with_reducible refine Hy ?_) | (with_reducible refine wD_chain ?_) | (with_reducible refine Cg ?_) | (with_reducible refine wD_sl ?_) | (with_reducible refine wD_partN ?_) | (with_reducible refine wD_partS ?_)
 | (with_reducible refine Fb ?_) | (with_reducible refine wD_enum ?_) | (with_reducible refine wD_rng ?_) | (with_reducible refine Ec ?_) | (with_reducible refine wG_sub ?_) | (with_reducible refine Gv ?_) | (with_reducible refine Fp ?_) | (with_reducible refine Bw ?_) | (with_reducible refine Fq ?_) | (with_reducible refine Cp (by with_unfolding_all rfl) ?_) | (with_reducible refine Dh (by with_unfolding_all rfl) ?_) | (with_reducible refine Ft ?_)
 | (with_reducible refine Fi ?_) | (with_reducible refine Fg ?_) | (with_reducible refine Df ?_) | (with_reducible refine Fj ?_) | (with_reducible refine wV_neI ?_) | (with_reducible refine wV_isi (by with_unfolding_all rfl) (by with_unfolding_all rfl) ?_))
section
variable {P:D->MH->Prop}{mh:MH}{m:Nat}
theorem Ac0 {n:Nat}{ds:List D}{d:D}(e1:mh[n]?=some (.lst ds)) (hd:ds[ds.length - 1]?=some d) (h:P d mh):wV (ixD (.ref n) (.int (-1)) mh) P:=by
 have hl:0 < ds.length:=by
  cases ds with
  | nil=>cases hd
  | cons _ _=>exact Nat.succ_pos _
 refine ⟨d,mh,?_,h⟩;have ea:atI ds (-1)=some d:=by
  unfold atI ixN;rw [if_neg (by decide),if_pos (by omega)];show ds[(-1+(ds.length:Int)).toNat]?=_;have:(-1+(ds.length:Int)).toNat=ds.length - 1:=by omega
  rw [this];exact hd
 simp only [ixD,Rk e1,bR,Dv,e1,ea]
noncomputable def wo (t:Bool) (N:Nat) (most:Int):D:=if t then .str "broken" else if most < (N:Int) then .str "more" else .str "whole"
theorem Mj {α:Type}(f:Nat->α) {N i:Nat}(h:i < N):((gw N).map f)[i]?=some (f i):=by
 rw [gb,RJ h];rfl
theorem Wm (k:Nat) {b most:Int}{N:Nat}{c:D}{t:Bool}(T:TS mh m b (N+1)) (hc:Pss c (pl N) (nu b N) t) (q:∀ h,Ext [] mh h->P (wo t (N+1) most) h):wV (Ai (Gk (k+9)) fuel eG [prg b,clm c,.int most,tr m] mh) P:=by
 refine Bd (vW (k+8)) aO.1 aO.2 rfl ?_;show wS (Acr (k+8)) [some (prg b),some (clm c),some (.int most),some (tr m),none] mh _;unfold Acr
 walk_at "x1"
 refine Ac0 T.prs (d:=prN b N) (by rw [fu,qp];exact Mj _ (by omega)) ?_
 walk_at "x1"
 refine Bp (j:=0) (d:=wld (pl N) (nu b N)) rfl ?_
 walk_at "x1"
 refine Bp (j:=1) (d:=.bl false) rfl ?_
 walk_at "x1"
 refine Yt k b _ _ c t hc λh x=>?_
 cases t with
 | true =>
  walk_at "x1"
  exact q h x
 | false =>
  walk_at "x1"
  refine Oa (T.ext x).prs ?_;rw [fu,qp]
  walk_at "x1"
  have q:=q h x;unfold wo at q;refine N6 (λhk=>?_) λhk=>?_
  ·rw [if_neg (by decide),if_pos (of_decide_eq_true hk)] at q
   walk_at "x1"
   exact q
  ·rw [if_neg (by decide),if_neg (of_decide_eq_false hk)] at q
   walk_at "x1"
   exact q
theorem wR (k:Nat) (b p n:Int) (hp:p=0\/p=1\/p=2) (q:∀ h j,Ext [] mh h->h[j]?=some (.lst [.tup [mv,nxW b p n]])->P (.ref j) h):wV (Ir (Gk (k+15)) fuel ml0.ci [prg b] [wld p n] mh) P:=by
 have w:wS (pQ (k+14)) [some (wld p n),some (prg b)] mh (oF P):=by
  unfold pQ
  walk_at "x1"
  refine wI k b n p hp λh j x e=>?_
  walk_at "x1"
  exact q h j x e
 obtain ⟨f,l,h,e,r⟩:=w;cases f with
 | rt d =>
  refine ⟨d,h,?_,r⟩;unfold Ir;rw [if_pos (show [wld p n].length=ml0.ci.ps.length from (show 1=ml0.ci.ps.length by decide +kernel)),Wj];have el:([wld p n].map some++au (ml0.ci.N.length - [wld p n].length) none++[prg b].map some)=[some (wld p n),some (prg b)]:=by
   have:ml0.ci.N.length - [wld p n].length=0:=(show ml0.ci.N.length - 1=0 by decide +kernel);rw [this];rfl
  rw [el,e]
 | nx =>
  refine ⟨.non,h,?_,r⟩;unfold Ir;rw [if_pos (show [wld p n].length=ml0.ci.ps.length from (show 1=ml0.ci.ps.length by decide +kernel)),Wj];have el:([wld p n].map some++au (ml0.ci.N.length - [wld p n].length) none++[prg b].map some)=[some (wld p n),some (prg b)]:=by
   have:ml0.ci.N.length - [wld p n].length=0:=(show ml0.ci.N.length - 1=0 by decide +kernel);rw [this];rfl
  rw [el,e]
 | bk=>exact r.elim
 | ct=>exact r.elim
theorem qI {k i:Nat}{b:Int}{mr:DM (List D)}{loc:DL.Loc}(el:loc[i]?=some (some (.clo ml0.ci [prg b]))) (h:wD mr loc mh λds h1=>wV (Ir (Gk k) fuel ml0.ci [prg b] ds h1) P):wD (Rm (Gk (k+1)).cal (Gk (k+1)).clo i mr) loc mh P:=by
 obtain ⟨ds,h1,e1,d,h2,e2,q⟩:=h;refine ⟨d,h2,?_,q⟩;unfold Rm;rw [el];show (mr.bnd λds=>Zl (Ir (Gk k) fuel ml0.ci [prg b] ds)) loc mh=_;unfold DM.bnd;rw [e1];exact e2
theorem qJ (k:Nat) {b most:Int}{N:Nat}{c:D}{tf:Nat->Bool}(hb:1<=b) (hN:N < 900000) (T:TS mh m b (N+1)) (hc:∀ i,Pss c (pl i) (nu b i) (tf i)) (q:∀ h,TS h m b (N+2)->Ext [m,m+1,m+2] mh h->P (wo (tf (N+1)) (N+2) most) h) :
  wV (Ai (Gk (k+17)) fuel oX [prg b,clm c,.int most,tr m,.int N,.clo ml0.ci [prg b]] mh) P:=by
 refine Bd (vV (k+16)) aN.1 aN.2 rfl ?_;show wS (Acq (k+16)) [some (prg b),some (clm c),some (.int most),some (tr m),some (.int N),some (.clo ml0.ci [prg b]),none,none,none,none,none] mh _;unfold Acq
 walk_at "x1"
 refine Uh T.prs (Mj (prN b) (show N < N+1 by omega)) ?_
 walk_at "x1"
 refine Um (.tup [mv,nxW b (pl N) (nu b N)]) ?_
 walk_at "x1"
 refine qI (k:=k+16) rfl ?_
 walk_at "x1"
 refine Bp (j:=0) (d:=wld (pl N) (nu b N)) rfl ?_
 walk_at "x1"
 refine wR (k+1) b _ _ (qF N) λh j x e=>?_
 refine ⟨_,src_list e,j,rfl,e,?_⟩;rw [Ae6] at e ⊢;have nj:j≠m/\j≠m+1/\j≠m+2:=by
  have T1:=T.ext x;refine ⟨λz=>?_,λz=>?_,λz=>?_⟩
  ·subst z;rw [T1.prs] at e;have e:=congrArg (λo=>match o with | some (MO.lst ds)=>ds[0]? | _=>none) e;have e:((gw (N+1)).map (prN b))[0]?=some (.tup [mv,wld (pl (N+1)) (nu b (N+1))]):=e;rw [Mj _ (by omega)] at e;cases e
  ·subst z;rw [T1.ors] at e;have e:=congrArg (λo=>match o with | some (MO.lst ds)=>ds[0]? | _=>none) e;have e:((gw (N+1)).map org)[0]?=some (.tup [mv,wld (pl (N+1)) (nu b (N+1))]):=e;rw [Mj _ (by omega)] at e;cases e
  ·subst z;rcases T1.dic with ⟨_,d⟩|d
   ·rw [d] at e;cases e
   ·rw [d] at e;cases e
 refine ⟨[some (prg b),some (clm c),some (.int most),some (tr m),some (.int N),some (.clo ml0.ci [prg b]),some (prN b N),some mv,some (wld (pl (N+1)) (nu b (N+1))),none,none],h,by kernel_rfl,?_⟩
 walk_at "x1"
 refine Bp (j:=1) (d:=.bl false) rfl ?_
 walk_at "x1"
 refine Dp _ _ (yH (k+4) b h c _ _) ?_
 walk_at "x1"
 refine ⟨_,_,_,_,_,rfl,rfl,by decide +kernel,?_⟩
 walk_at "x1"
 have ho:org (N+1)=.tup [.int N,mv]:=by
  unfold org;rw [if_neg (by omega),ur]
 rw [← ho];refine Wl (k+15) hb (T.ext x) (by omega) λh2 T2 x2=>?_
 walk_at "x1"
 refine Wm (k+7) T2 (hc (N+1)) λh3 x3=>?_
 have e3:=x3.old _ _ (by simp) (x2.old _ _ (by simp;exact nj) e);have T3:=T2.ext x3;have x03:Ext [m,m+1,m+2] mh h3:=(x.weak.trans x2).trans x3.weak;have q:=q h3 T3 x03;unfold wo at q ⊢;cases ht:tf (N+1) with
 | true =>
  rw [ht,if_pos rfl] at q;rw [if_pos rfl]
  walk_at "x1"
  refine aH (k:=false) (Ja (by decide +kernel) (by decide +kernel) (by decide +kernel) _) ?_
  walk_at "x1"
  exact q
 | false =>
  rw [ht,if_neg (by decide)] at q;rw [if_neg (by decide)]
  by_cases hm:most < ((N+1+1:Nat):Int)
  ·rw [if_pos hm] at q;rw [if_pos hm]
   walk_at "x1"
   refine aH (k:=false) (Ja (by decide +kernel) (by decide +kernel) (by decide +kernel) _) ?_
   walk_at "x1"
   exact q
  ·rw [if_neg hm] at q;rw [if_neg hm]
   walk_at "x1"
   refine aH (k:=true) (Ja (by decide +kernel) (by decide +kernel) (by decide +kernel) _) ?_
   walk_at "x1"
   refine ⟨e3,?_⟩
   walk_at "x1"
   exact q
end
local macro_rules | `(tactic| walk_at "s") => `(tactic| first
 | (with_reducible refine Cm ?_) | (with_reducible refine Fe ?_) | (with_reducible refine Ff ?_) | (with_reducible refine Dd ?_) | (with_reducible refine H9 ?_) | (with_reducible refine Fd ?_) | (with_reducible refine Ci ?_) | (with_reducible refine Dc ?_)
 | (with_reducible refine Hw (by with_unfolding_all rfl) ?_) | (with_reducible refine Bk ?_) | (with_reducible refine Hx ?_) | (with_reducible refine Cv ?_) | (with_reducible refine Er ?_) | (with_reducible refine Es ?_) | (with_reducible refine Et ?_) | (with_reducible refine Eu ?_)
 | (with_reducible refine wD_isi ?_) | (with_reducible refine wD_listRng ?_) | (with_reducible refine wD_tupRng ?_) | (with_reducible refine wD_lenSet ?_) | (with_reducible refine wD_sortSet ?_) | (with_reducible refine wD_mk ?_) | (with_reducible refine Dg ?_) | (with_reducible refine Fo ?_) | (with_reducible refine wD_dicIn ?_) | (with_reducible refine wD_dicIx ?_) | (with_reducible refine wD_zip ?_) | (with_reducible refine wS_par ?_) | (with_reducible refine Ce ?_) | (with_reducible refine Ew ?_) | (with_reducible refine wD_notV ?_) | (with_reducible refine Cw ?_)
 | (with_reducible refine Cy ?_) | (with_reducible refine Ey ?_) | (with_reducible refine Cz ?_) | (with_reducible refine Ez ?_) | (with_reducible refine Hy ?_) | (with_reducible refine wD_chain ?_) | (with_reducible refine Cg ?_) | (with_reducible refine wD_sl ?_) | (with_reducible refine wD_partN ?_) | (with_reducible refine wD_partS ?_)
 | (with_reducible refine Fb ?_) | (with_reducible refine wD_enum ?_) | (with_reducible refine wD_rng ?_) | (with_reducible refine Ec ?_) | (with_reducible refine wG_sub ?_) | (with_reducible refine Gv ?_) | (with_reducible refine Fp ?_) | (with_reducible refine Bw ?_) | (with_reducible refine Fq ?_) | (with_reducible refine Cp (by with_unfolding_all rfl) ?_) | (with_reducible refine Dh (by with_unfolding_all rfl) ?_) | (with_reducible refine Ft ?_)
 | (with_reducible refine Fi ?_) | (with_reducible refine Fg ?_) | (with_reducible refine Df ?_) | (with_reducible refine Fj ?_) | (with_reducible refine wV_neI ?_) | (with_reducible refine wV_isi (by with_unfolding_all rfl) (by with_unfolding_all rfl) ?_))
section
variable {P:D->MH->Prop}{mh:MH}{m:Nat}
theorem qK {t:Bool}{N:Nat}{most:Int}(ht:t=false) (h:(N:Int)<=most):wo t N most=.str "whole":=by
 unfold wo;rw [ht,if_neg (by decide),if_neg (by omega)]
theorem wU {t:Bool}{N:Nat}{most:Int}(ht:t=false) (h:most < (N:Int)):wo t N most=.str "more":=by
 unfold wo;rw [ht,if_neg (by decide),if_pos h]
theorem fG {t:Bool}{N:Nat}{most:Int}(ht:t=true):wo t N most=.str "broken":=by
 unfold wo;rw [ht,if_pos rfl]
theorem qL {W:List Nat}{a b c:MH}(x:Ext [] a b) (y:Ext W b c) (h:∀ w∈W,a.length<=w):Ext [] a c :=
 ⟨jg x.len y.len,λi o _ e=>y.old i o (λz=>by have:=h i z;have:=pR e;omega) (x.old i o (by simp) e)⟩
structure End (tf:Nat->Bool) (most:Int) (X:Nat) (w:Str):Prop where
 pos:1<=X
 small:X<=2000
 ahead:∀ N,N+1 < X->tf N=false/\((N+1:Nat):Int)<=most
 word:wo (tf (X - 1)) X most=.str w
 ne:(w==("whole":Str))=false
 ok:jl w=true
theorem Wn (k:Nat) {b most:Int}{c:D}{tf:Nat->Bool}{X:Nat}{w:Str}(hb:1<=b) (hc:∀ i,Pss c (pl i) (nu b i) (tf i)) (E:End tf most X w) (q:∀ h m,TS h m b X->Ext [] mh h->P (.tup [.str w,tr m]) h) :
  wV (Ai (Gk (k+18)) fuel oW [prg b,clm c,.int most,.clo ml0.ci [prg b]] mh) P:=by
 refine Bd (vU (k+17)) aM.1 aM.2 rfl ?_;show wS (Acp (k+17)) [some (prg b),some (clm c),some (.int most),some (.clo ml0.ci [prg b]),none,none,none,none] mh _;unfold Acp
 walk_at "x1"
 have x0:Ext [] mh (mh++[MO.lst []]++[.lst []]++[.dct []]):=(Ext.more.trans Ext.more).trans Ext.more;have T0:TS (mh++[MO.lst []]++[MO.lst []]++[MO.dct []]) mh.length b 0:=by
  refine ⟨?_,?_,.inl ⟨rfl,?_⟩⟩
  ·simp
  ·simp
  ·simp
 refine Ng (tr mh.length) (mh++[MO.lst []]++[MO.lst []]++[MO.dct []]) ?_ ?_
 ·unfold Tw tr Jo Jo Jo Jo;simp
 have l0:∀ w∈[mh.length,mh.length+1,mh.length+2],mh.length<=w:=λw hw=>by simp at hw;omega
 generalize mh++[MO.lst []]++[MO.lst []]++[MO.dct []]=h0 at T0 x0 ⊢;generalize hm:mh.length=m at T0 l0 ⊢
 walk_at "x1"
 refine Dp _ _ (wF (k+5) b h0) ?_
 walk_at "x1"
 refine ⟨_,_,_,_,_,rfl,rfl,by decide +kernel,?_⟩
 walk_at "x1"
 refine Dp _ _ (yH (k+5) b h0 c _ _) ?_
 walk_at "x1"
 have e0:D.tup [wld 0 0,.bl false]=prN b 0:=rfl;have e1:D.non=org 0:=rfl;rw [e0,e1];refine Wl (k+16) hb T0 (by omega) λh1 T1 x1=>?_
 walk_at "x1"
 refine Wm (k+8) T1 (hc 0) λh2 x2=>?_
 walk_at "x1"
 have xe:Ext [] mh h2:=(qL x0 x1 (by rw [hm];exact l0)).trans x2;refine Wd (λn l h=>∃ N,N+1<=X/\n=X - (N+1)/\TS h m b (N+1)/\Ext [] mh h/\l=[some (prg b),some (clm c),some (.int most),some (.clo ml0.ci [prg b]),some (tr m),some (wld 0 0),some (wo (tf N) (N+1) most),some (.int N)]) (X - 1) (by have:=E.small;omega) ⟨0,E.pos,rfl,T1.ext x2,xe,rfl⟩ ?_;rintro n l h ⟨N,hN,rfl,T,x,rfl⟩;have sm:=E.small;rcases Nat.lt_or_ge (N+1) X with lt|ge
 ·obtain ⟨t0,hm0⟩:=E.ahead N lt;rw [qK t0 hm0]
  walk_at "x1"
  refine oN (by decide +kernel) (by decide +kernel) (by decide +kernel) ?_
  walk_at "x1"
  refine Oa T.prs ?_;rw [fu,qp]
  walk_at "x1"
  refine Cp (decide_eq_true (by omega)) ?_
  walk_at "x1"
  refine qJ k hb (by omega) T hc λh3 T3 x3=>?_
  walk_at "x1"
  refine ⟨X - (N+1+1),by omega,N+1,by omega,rfl,T3,qL x x3 (by rw [hm];exact l0),?_⟩;rfl
 ·have eX:N+1=X:=by omega
  have ew:=E.word;rw [← eX,ur] at ew;rw [ew]
  walk_at "x1"
  refine Aew E.ok (by decide +kernel) E.ne ?_
  walk_at "x1"
  rw [eX] at T;exact q h m T x
end
local macro_rules | `(tactic| walk_at "s") => `(tactic| first
 | (with_reducible refine Cm ?_) | (with_reducible refine Fe ?_) | (with_reducible refine Ff ?_) | (with_reducible refine Dd ?_) | (with_reducible refine H9 ?_) | (with_reducible refine Fd ?_) | (with_reducible refine Ci ?_) | (with_reducible refine Dc ?_)
 | (with_reducible refine Hw (by with_unfolding_all rfl) ?_) | (with_reducible refine Bk ?_) | (with_reducible refine Hx ?_) | (with_reducible refine Cv ?_) | (with_reducible refine Er ?_) | (with_reducible refine Es ?_) | (with_reducible refine Et ?_) | (with_reducible refine Eu ?_)
 | (with_reducible refine wD_isi ?_) | (with_reducible refine wD_listRng ?_) | (with_reducible refine wD_tupRng ?_) | (with_reducible refine wD_lenSet ?_) | (with_reducible refine wD_sortSet ?_) | (with_reducible refine wD_mk ?_) | (with_reducible refine Dg ?_) | (with_reducible refine Fo ?_) | (with_reducible refine wD_dicIn ?_) | (with_reducible refine wD_dicIx ?_) | (with_reducible refine wD_zip ?_) | (with_reducible refine wS_par ?_) | (with_reducible refine Ce ?_) | (with_reducible refine Ew ?_) | (with_reducible refine wD_notV ?_) | (with_reducible refine Cw ?_)
 | (with_reducible refine Cy ?_) | (with_reducible refine Ey ?_) | (with_reducible refine Cz ?_) | (with_reducible refine Ez ?_) | (with_reducible refine Hy ?_) | (with_reducible refine wD_chain ?_) | (with_reducible refine Cg ?_) | (with_reducible refine wD_sl ?_) | (with_reducible refine wD_partN ?_) | (with_reducible refine wD_partS ?_)
 | (with_reducible refine Fb ?_) | (with_reducible refine wD_enum ?_) | (with_reducible refine wD_rng ?_) | (with_reducible refine Ec ?_) | (with_reducible refine wG_sub ?_) | (with_reducible refine Gv ?_) | (with_reducible refine Fp ?_) | (with_reducible refine Bw ?_) | (with_reducible refine Fq ?_) | (with_reducible refine Cp (by with_unfolding_all rfl) ?_) | (with_reducible refine Dh (by with_unfolding_all rfl) ?_) | (with_reducible refine Ft ?_)
 | (with_reducible refine Fi ?_) | (with_reducible refine Fg ?_) | (with_reducible refine Df ?_) | (with_reducible refine Fj ?_) | (with_reducible refine wV_neI ?_) | (with_reducible refine wV_isi (by with_unfolding_all rfl) (by with_unfolding_all rfl) ?_))
section
variable {P:D->MH->Prop}{mh:MH}{m:Nat}
theorem wW {ma:DM D}{loc:DL.Loc}(h:wD ma loc mh λx h=>∃ n o,x=.ref n/\h[n]?=some (.lst o)/\P (.ref h.length) (h++[MO.lst o.reverse])):wD (yC ma) loc mh P:=by
 refine Bv (Be h ?_);rintro x h ⟨n,o,rfl,e,q⟩;refine ⟨_,_,?_,q⟩;show (match h[n]? with | some (.lst o)=>some (D.ref h.length,h++[MO.lst o.reverse]) | _=>none)=_;rw [e]
theorem fH (k:Nat) {b:Int}{X:Nat}(hX:1<=X) (hs:X<=2000) (T:TS mh m b X) (q:∀ h j,Ext [] mh h->h[j]?=some (.lst (au (X - 1) mv))->P (.ref j) h):wV (Ai (Gk (k+1)) fuel Kc [tr m,.int ((X - 1:Nat):Int)] mh) P:=by
 refine Bd (eU k) Rt.1 Rt.2 rfl ?_;show wS (Ht k) [some (tr m),some (.int ((X - 1:Nat):Int)),none,none] mh _;have lm:m+1 < mh.length:=pR T.ors;unfold Ht
 walk_at "x1"
 have T1:=T.ext (Ext.more (g:=[MO.lst []]));refine Uh T1.ors (Mj org (show X - 1 < X by omega)) ?_
 walk_at "x1"
 refine Wd (λn l h=>n < X/\l=[some (tr m),some (.int ((X - 1:Nat):Int)),some (.ref mh.length),some (org n)]/\h[mh.length]?=some (.lst (au (X - 1 - n) mv))/\h[m+1]?=some (.lst ((gw X).map org))/\Ext [] mh h) (X - 1) (by omega) ⟨by omega,rfl,by rw [Nat.sub_self];exact Az,T1.ors,Ext.more⟩ ?_;rintro n l h ⟨hn,rfl,hd,ho,x⟩;cases n with
 | zero =>
  rw [show org 0=D.non from rfl]
  walk_at "x1"
  refine ⟨_,_,rfl,_,rfl,(λz=>by cases z),λ_=>?_⟩
  walk_at "x1"
  refine wW ?_
  walk_at "x1"
  refine ⟨_,_,rfl,hd,?_⟩
  walk_at "x1"
  rw [Nat.sub_zero,List.reverse_replicate];exact q _ _ (x.trans Ext.more) Az
 | succ n =>
  have eo:org (n+1)=.tup [.int n,mv]:=by
   unfold org;rw [if_neg (by omega),ur]
  rw [eo]
  walk_at "x1"
  refine ⟨_,_,rfl,_,rfl,(λ_=>?_),(λz=>by cases z)⟩
  walk_at "x1"
  refine ⟨ty_list hd,?_⟩
  walk_at "x1"
  refine Bp (j:=1) (d:=mv) rfl ?_
  walk_at "x1"
  refine Jj hd (by simp;omega) ?_
  walk_at "x1"
  have ho2:=Fv (o:=MO.lst (au (X - 1 - (n+1)) mv++[mv])) ho (show mh.length≠m+1 by omega);refine Bp (j:=0) (d:=.int n) rfl ?_
  walk_at "x1"
  refine Uh ho2 (Mj org (show n < X by omega)) ?_
  walk_at "x1"
  refine ⟨n,by omega,by omega,rfl,?_,ho2,x.setNew (bx _)⟩;rw [Mi hd,← List.replicate_succ'];congr 3;omega
theorem wX (k:Nat) {b:Int}{X:Nat}(hX:1<=X) (hs:X<=2000) (T:TS mh m b X) (q:∀ h j,Ext [] mh h->h[j]?=some (.lst (au (X - 1) mv))->P (.ref j) h):wV (Ai (Gk (k+2)) fuel Kd [tr m] mh) P:=by
 refine Bd (eV (k+1)) Ru.1 Ru.2 rfl ?_;show wS (Hu (k+1)) [some (tr m)] mh _;unfold Hu
 walk_at "x1"
 refine ⟨_,_,_,_,_,rfl,rfl,by decide +kernel,?_⟩
 walk_at "x1"
 refine Oa T.prs ?_;rw [fu,qp]
 walk_at "x1"
 have e:(X:Int) - 1=((X - 1:Nat):Int):=by omega
 rw [e];refine fH k hX hs T λh j x g=>?_
 walk_at "x1"
 exact q h j x g
theorem wY {G:Gb}{n:Nat}{x:Str}{I:FnI}{m:MakL}{b:SM}{ds:List D}{np c:Nat}(hb:Vy G n x I m=b) (hp:I.ps.length=np) (hN:I.N.length=c) (hl:ds.length=np)
  (h:wS b (ds.map some++au (c - np) none) mh (oF P)):wV (Pq G n x I m ds mh) P:=by
 obtain ⟨f,l,h',e,p⟩:=h;have e2:Vy G n x I m (ds.map some++au (I.N.length - ds.length) none) mh=some (f,l,h'):=by rw [hb,hN,hl];exact e
 cases f with
 | rt d=>exact ⟨d,h',by unfold Pq;rw [if_pos (hl.trans hp.symm),e2],p⟩
 | nx=>exact ⟨.non,h',by unfold Pq;rw [if_pos (hl.trans hp.symm),e2],p⟩
 | bk=>exact p.elim
 | ct=>exact p.elim
theorem wZ {loc:DL.Loc}{d:D}(e0:mh[0]?=some (.plq "go_plainly")) (e1:loc[0]?=some (some d)) (q:P (.clo ml0.ci [d]) mh):wD (X8 "go_plainly" ml0.pl ml0.js ml0.ci) loc mh P:=by
 have ep:ml0.pl=0:=rfl;have ej:ml0.js=[0]:=by decide +kernel
 refine ⟨_,_,?_,q⟩;unfold X8;rw [ep,e0,ej];dsimp only;rw [if_pos (by decide +kernel)];unfold Ip;rw [e1];rfl
noncomputable def Tld (h:MH) (X:Nat) (w:Str) (d:D):Prop:=(w = "broken"/\∃ j,d=.tup [.str "broken",.ref j]/\h[j]?=some (.lst (au (X - 1) mv)))\/(w = "more"/\d=.tup [.str "more"])
theorem run_plain (k:Nat) {b most:Int}{c:D}{tf:Nat->Bool}{X:Nat}{w:Str}(hb:1<=b) (h0:mh[0]?=some (.plq "go_plainly")) (hl:∀ (k:Nat) (h:MH),Ai (Gk (k+12)) fuel f88 [prg b,clm c] h=some (.non,h)) (hc:∀ i,Pss c (pl i) (nu b i) (tf i)) (E:End tf most X w)
  (hw:w = "broken"\/w = "more") (q:∀ h d,Ext [] mh h->Tld h X w d->P d h):wV (Pq (Gk (k+19)) fuel "go_plainly" oZ ml0 [prg b,clm c,.int most] mh) P:=by
 refine wY (pP (k+18)) aQ.1 aQ.2 rfl ?_;show wS (pO (k+18)) [some (prg b),some (clm c),some (.int most),none] mh _;unfold pO
 walk_at "x1"
 refine pX (k+3) b λh1 x1=>?_
 walk_at "x1"
 refine Dp _ _ (hl (k+6) h1) ?_
 walk_at "x1"
 refine wZ (x1.old _ _ (by simp) h0) rfl ?_
 walk_at "x1"
 refine Wn k hb hc E λh2 m T x2=>?_
 walk_at "x1"
 refine Bp (j:=0) (d:=.str w) rfl ?_;rcases hw with rfl|rfl
 ·walk_at "x1"
  refine oN (by decide +kernel) (by decide +kernel) (by decide +kernel) ?_
  walk_at "x1"
  refine Bp (j:=1) (d:=tr m) rfl ?_
  walk_at "x1"
  refine ⟨_,_,_,_,_,rfl,rfl,by decide +kernel,?_⟩
  walk_at "x1"
  refine wX (k+16) E.pos E.small T λh3 j x3 g=>?_
  walk_at "x1"
  exact q _ _ ((x1.trans x2).trans x3) (.inl ⟨rfl,j,rfl,g⟩)
 ·walk_at "x1"
  refine Aew (by decide +kernel) (by decide +kernel) (by decide +kernel) ?_
  walk_at "x1"
  refine Bp (j:=0) (d:=.str "more") rfl ?_
  walk_at "x1"
  refine oN (by decide +kernel) (by decide +kernel) (by decide +kernel) ?_
  walk_at "x1"
  exact q _ _ (x1.trans x2) (.inr ⟨rfl,rfl⟩)
end
local macro_rules | `(tactic| walk_at "s") => `(tactic| first
 | (with_reducible refine Cm ?_) | (with_reducible refine Fe ?_) | (with_reducible refine Ff ?_) | (with_reducible refine Dd ?_) | (with_reducible refine H9 ?_) | (with_reducible refine Fd ?_) | (with_reducible refine Ci ?_) | (with_reducible refine Dc ?_)
 | (with_reducible refine Hw (by with_unfolding_all rfl) ?_) | (with_reducible refine Bk ?_) | (with_reducible refine Hx ?_) | (with_reducible refine Cv ?_) | (with_reducible refine Er ?_) | (with_reducible refine Es ?_) | (with_reducible refine Et ?_) | (with_reducible refine Eu ?_)
 | (with_reducible refine wD_isi ?_) | (with_reducible refine wD_listRng ?_) | (with_reducible refine wD_tupRng ?_) | (with_reducible refine wD_lenSet ?_) | (with_reducible refine wD_sortSet ?_) | (with_reducible refine wD_mk ?_) | (with_reducible refine Dg ?_) | (with_reducible refine Fo ?_) | (with_reducible refine wD_dicIn ?_) | (with_reducible refine wD_dicIx ?_) | (with_reducible refine wD_zip ?_) | (with_reducible refine wS_par ?_) | (with_reducible refine Ce ?_) | (with_reducible refine Ew ?_) | (with_reducible refine wD_notV ?_) | (with_reducible refine Cw ?_)
 | (with_reducible refine Cy ?_) | (with_reducible refine Ey ?_) | (with_reducible refine Cz ?_) | (with_reducible refine Ez ?_) | (with_reducible refine Hy ?_) | (with_reducible refine wD_chain ?_) | (with_reducible refine Cg ?_) | (with_reducible refine wD_sl ?_) | (with_reducible refine wD_partN ?_) | (with_reducible refine wD_partS ?_)
 | (with_reducible refine Fb ?_) | (with_reducible refine wD_enum ?_) | (with_reducible refine wD_rng ?_) | (with_reducible refine Ec ?_) | (with_reducible refine wG_sub ?_) | (with_reducible refine Gv ?_) | (with_reducible refine Fp ?_) | (with_reducible refine Bw ?_) | (with_reducible refine Fq ?_) | (with_reducible refine Cp (by with_unfolding_all rfl) ?_) | (with_reducible refine Dh (by with_unfolding_all rfl) ?_) | (with_reducible refine Ft ?_)
 | (with_reducible refine Fi ?_) | (with_reducible refine Fg ?_) | (with_reducible refine Df ?_) | (with_reducible refine Fj ?_) | (with_reducible refine wV_neI ?_) | (with_reducible refine wV_isi (by with_unfolding_all rfl) (by with_unfolding_all rfl) ?_))
noncomputable def depth:Nat:=30
local macro_rules | `(tactic| walk_at "x2") => `(tactic| repeat (first | walk_at "s" | with_reducible refine Ul ?_ | with_reducible refine Uk (by simp) ?_ | with_reducible refine vL (by decide) (by decide) ?_ | with_reducible refine oG (by decide) ?_))
section
variable {P:D->MH->Prop}{mh:MH}
theorem Gp (k:Nat) (ns:List Int) (i:Nat) (h:∀ v:Int,P (.int v) mh):wV (Ai (Gk (k+1)) fuel Qa [.rol (ns.map D.int),.int i] mh) P:=by
 refine Bd (vY k) aR.1 aR.2 rfl ?_;show wS (Acu k) [some (.rol (ns.map D.int)),some (.int i)] mh _;unfold Acu;walk_at "r"
 refine Ma (by intro z;simp) rfl ?_;walk_at "r"
 refine N6 (λhk=>?_) λhk=>?_
 ·walk_at "r"
  rw [decide_eq_true_iff,fu] at hk;have hi:i < ns.length:=by omega
  refine Ab8 (d:=.int ns[i]) (by rw [gb,gq hi];rfl) ?_;exact h _
 ·walk_at "r"
  exact h _
theorem Qe (i:Int) (n:Nat) (h:0 < n):∃ r:Nat,r < n/\i.fmod (n:Int)=(r:Int):=by
 have l1:=OJ i (b:=(n:Int)) (by omega);have l2:=Int.fmod_lt_of_pos i (b:=(n:Int)) (by omega);exact ⟨(i.fmod n).toNat,by omega,by omega⟩
theorem qM (n:Nat):Wg 58 (au n mv)=true:=by
 induction n with
 | zero=>rfl
 | succ n ih =>
  rw [jq];show (dat 58 mv&&Wg 58 (au n mv))=true;rw [ih,HN];decide +kernel
theorem Ac1 {a j n:Nat}(e1:mh[j]?=some (.lst (au n mv))) (e2:mh[a]?=some (.lst (au n mv))) (q:P (.bl false) mh):wV (neD (.tup [.str "broken",.ref j]) (.tup [.str "broken",.ref a]) mh) P:=by
 obtain ⟨as,e,l⟩:=Ui mh 58 _ (qM n)
 have p:∀ i,mh[i]?=some (.lst (au n mv))->py mh 60 (.tup [.str "broken",.ref i])=some (.tuple [.str "broken",.list as]):=λi e1=>by
  have r1:py mh 59 (.ref i)=some (.list as):=by
   show (match mh[i]? with | some (.lst o)=>(match mapO (py mh 58) o with | some xs=>some (PyData.list xs) | none=>none) | _=>none)=_;rw [e1];dsimp only;rw [e]
  have r2:py mh 59 (.str "broken")=some (.str "broken"):=by
   show (if jl "broken"=true then some (FP "broken") else none)=_;rw [if_pos (by decide +kernel)]
  show (match mapO (py mh 59) [.str "broken",.ref i] with | some xs=>some (PyData.tuple xs) | none=>none)=_;simp only [mapO,r1,r2]
 refine aH (k:=true) ?_ q;unfold eqB;rw [p j e1,p a e2];dsimp only
 rw [SeqAt.eqv_refl _ (by
  have:jl "broken"=true:=by decide +kernel
  simp [ud,qm,l,this])]
noncomputable def tf1 (b r:Int) (i:Nat):Bool:=decide (nu b i=b+r)
theorem qN {b:Int}{r i:Nat}(hb:1<=b) (h:i < 2 * r):tf1 b r i=false:=by
 refine decide_eq_false λe=>?_
 unfold nu at e;split at e <;> omega
theorem xG {b:Int}{r:Nat}(h:1<=r):tf1 b r (2 * r)=true:=by
 refine decide_eq_true ?_;unfold nu;rw [if_neg (by omega),show 2 * r / 2=r by omega]
theorem Yu {b most:Int}{r:Nat}(hb:1<=b) (h1:1<=r) (h2:r<=250) (hm:((2 * r:Nat):Int)<=most):End (tf1 b r) most (2 * r+1) "broken" :=
 ⟨by omega,by omega,λN hN=>⟨qN hb (by omega),by omega⟩,by rw [ur];exact fG (xG h1),by decide +kernel,by decide +kernel⟩
theorem Wo {tf:Nat->Bool}{n:Nat}(h1:1<=n) (h2:n<=1500) (ht:∀ i,i<=n->tf i=false):End tf (n:Int) (n+1) "more" :=
 ⟨by omega,by omega,λN hN=>⟨ht N (by omega),by omega⟩,by rw [ur];exact wU (ht n (bx _)) (by omega),by decide +kernel,by decide +kernel⟩
theorem Yv (k:Nat) {b most r:Int}{none:Bool}{tf:Nat->Bool}{X:Nat}{w:Str}(hb:1<=b) (h0:mh[0]?=some (.plq "go_plainly")) (htf:if none then tf=(λ_=>false) else tf=tf1 b r) (E:End tf most X w) (hw:w = "broken"\/w = "more") (q:∀ h d,Ext [] mh h->Tld h X w d->P d h) :
  wV (Ai (Gk (k+20)) fuel Yp [.int b,.int r,.int most,.bl none] mh) P:=by
 refine Bd (vZ (k+19)) aU.1 aU.2 rfl ?_;show wS (Acv (k+19)) [some (.int b),some (.int r),some (.int most),some (.bl none),PB,PB,PB,PB] mh _;unfold Acv;cases none with
 | true =>
  walk_at "x2"
  cases htf
  exact run_plain k hb h0 (λk h=>pW k b h) (λi=>Agb _ _ (by
   unfold pl nu
   by_cases h:i=0
   ·rw [if_pos h,if_pos h];exact .inl ⟨rfl,rfl⟩
   ·rw [if_neg h];right;split <;> decide)) E hw q
 | false =>
  walk_at "x2"
  cases htf;exact run_plain k hb h0 (λk h=>pU k b _ h) (λi=>Aga _ _ _) E hw q
end
local macro_rules | `(tactic| walk_at "s") => `(tactic| first
 | (with_reducible refine Cm ?_) | (with_reducible refine Fe ?_) | (with_reducible refine Ff ?_) | (with_reducible refine Dd ?_) | (with_reducible refine H9 ?_) | (with_reducible refine Fd ?_) | (with_reducible refine Ci ?_) | (with_reducible refine Dc ?_)
 | (with_reducible refine Hw (by with_unfolding_all rfl) ?_) | (with_reducible refine Bk ?_) | (with_reducible refine Hx ?_) | (with_reducible refine Cv ?_) | (with_reducible refine Er ?_) | (with_reducible refine Es ?_) | (with_reducible refine Et ?_) | (with_reducible refine Eu ?_)
 | (with_reducible refine wD_isi ?_) | (with_reducible refine wD_listRng ?_) | (with_reducible refine wD_tupRng ?_) | (with_reducible refine wD_lenSet ?_) | (with_reducible refine wD_sortSet ?_) | (with_reducible refine wD_mk ?_) | (with_reducible refine Dg ?_) | (with_reducible refine Fo ?_) | (with_reducible refine wD_dicIn ?_) | (with_reducible refine wD_dicIx ?_) | (with_reducible refine wD_zip ?_) | (with_reducible refine wS_par ?_) | (with_reducible refine Ce ?_) | (with_reducible refine Ew ?_) | (with_reducible refine wD_notV ?_) | (with_reducible refine Cw ?_)
 | (with_reducible refine Cy ?_) | (with_reducible refine Ey ?_) | (with_reducible refine Cz ?_) | (with_reducible refine Ez ?_) | (with_reducible refine Hy ?_) | (with_reducible refine wD_chain ?_) | (with_reducible refine Cg ?_) | (with_reducible refine wD_sl ?_) | (with_reducible refine wD_partN ?_) | (with_reducible refine wD_partS ?_)
 | (with_reducible refine Fb ?_) | (with_reducible refine wD_enum ?_) | (with_reducible refine wD_rng ?_) | (with_reducible refine Ec ?_) | (with_reducible refine wG_sub ?_) | (with_reducible refine Gv ?_) | (with_reducible refine Fp ?_) | (with_reducible refine Bw ?_) | (with_reducible refine Fq ?_) | (with_reducible refine Cp (by with_unfolding_all rfl) ?_) | (with_reducible refine Dh (by with_unfolding_all rfl) ?_) | (with_reducible refine Ft ?_)
 | (with_reducible refine Fi ?_) | (with_reducible refine Fg ?_) | (with_reducible refine Df ?_) | (with_reducible refine Fj ?_) | (with_reducible refine wV_neI ?_) | (with_reducible refine wV_isi (by with_unfolding_all rfl) (by with_unfolding_all rfl) ?_))
section
variable {P:D->MH->Prop}{mh:MH}
theorem Wq {α:Type}(x:α):∀ k,(au k [x]).flatten=au k x
 | 0=>rfl
 | k+1=>by rw [jq,rm,Wq x k,jq];rfl
theorem xH {n k:Nat}{x:D}(e:mh[n]?=some (.lst [x])) (hk:k<=1000) (h:P (.ref mh.length) (mh++[.lst (au k x)])):wV (nD (.ref n) (.int k) mh) P:=by
 refine ⟨_,_,?_,h⟩;have e1:Vp (.ref n) mh=some [x]:=by
  show (match mh[n]? with | some (.lst o)=>some o | _=>none)=_;rw [e]
 show Rn _ (.ref n) (.int k) mh=_;unfold Rn;rw [e1];dsimp only;rw [if_pos ⟨⟨by omega,by omega⟩,by rw [CJ,kj];omega⟩,CJ,Wq]
theorem Wr {h:MH}{X:Nat}{d:D}(t:Tld h X "more" d):d=.tup [.str "more"]:=by
 rcases t with ⟨z,_⟩|⟨_,rfl⟩
 ·exact absurd z (by decide +kernel)
 ·rfl
theorem xJ {h:MH}{X:Nat}{d:D}(t:Tld h X "broken" d):∃ j,d=.tup [.str "broken",.ref j]/\h[j]?=some (.lst (au (X - 1) mv)):=by
 rcases t with ⟨_,t⟩|⟨z,_⟩
 ·exact t
 ·exact absurd z (by decide +kernel)
theorem Ac2 (ns:List Int):wV (Ai (Gk depth) fuel eN [.rol (ns.map D.int)] sl0) λd _=>d=.bl true:=by
 refine Bd (wA 29) aV.1 aV.2 rfl ?_;show wS (Acw 29) [some (.rol (ns.map D.int)),none,none,none,none,none,none] sl0 _
 have h00:sl0[0]?=some (.plq "go_plainly"):=rfl;unfold Acw
 walk_at "x2"
 refine Gp 28 ns 0 λv0=>?_
 walk_at "x2"
 refine ⟨_,_,rfl,?_⟩
 walk_at "x2"
 refine oM (by decide) (by decide) (by decide) ?_
 walk_at "x2"
 refine oM (by decide) (by decide) (by decide) ?_
 walk_at "x2"
 have hb:1<=1+(if v0 < 0 then -v0 else v0).fmod (10 ^ (60:Int).toNat - 10 ^ (6:Int).toNat):=by
  have:=OJ (if v0 < 0 then -v0 else v0) (b:=(10 ^ (60:Int).toNat - 10 ^ (6:Int).toNat:Int)) (by decide +kernel);omega
 generalize 1+(if v0 < 0 then -v0 else v0).fmod (10 ^ (60:Int).toNat - 10 ^ (6:Int).toNat)=b at hb ⊢;refine Gp 28 ns 1 λv1=>?_
 walk_at "x2"
 obtain ⟨r0,hr0,er⟩:=Qe v1 250 (by decide);rw [show v1.fmod 250=(r0:Int) from er,show (1:Int)+(r0:Int)=((1+r0:Nat):Int) by omega];generalize hr:1+r0=r;have r1:1<=r:=by omega
 have r2:r<=250:=by omega
 refine oH (.inl (by decide)) ?_
 walk_at "x2"
 rw [show (2:Int)+2 * ((r:Int) - 1)=((2 * r:Nat):Int) by omega];refine oH (.inl (by decide)) ?_;rw [show (2:Int) * (r:Int)=((2 * r:Nat):Int) by omega]
 walk_at "x2"
 refine xH Az (by omega) ?_
 have y1:Ext [] sl0 (sl0++[MO.lst [D.tup [.str "do",.int 0,.int 0]]]++[MO.lst (au (2 * r) (D.tup [.str "do",.int 0,.int 0]))]):=Ext.more.trans Ext.more
 have g1:(sl0++[MO.lst [D.tup [.str "do",.int 0,.int 0]]]++[MO.lst (au (2 * r) (D.tup [.str "do",.int 0,.int 0]))])[(sl0++[MO.lst [D.tup [.str "do",.int 0,.int 0]]]).length]?=some (.lst (au (2 * r) mv)):=Az
 generalize (sl0++[MO.lst [D.tup [.str "do",.int 0,.int 0]]]).length=a at g1 ⊢
 generalize sl0++[MO.lst [D.tup [.str "do",.int 0,.int 0]]]++[MO.lst (au (2 * r) (D.tup [.str "do",.int 0,.int 0]))]=h1 at y1 g1 ⊢;have h10:=y1.old _ _ (by simp) h00
 walk_at "x2"
 refine Gp 28 ns 2 λv2=>?_
 walk_at "x2"
 refine N6 (λ_=>?_) λ_=>?_
 ·walk_at "x2"
  refine Gp 28 ns 2 λv3=>?_
  walk_at "x2"
  obtain ⟨n0,hn0,en⟩:=Qe (v3.fdiv 3) 1000 (by decide);rw [show (v3.fdiv 3).fmod 1000=(n0:Int) from en,show (1:Int)+(n0:Int)=((1+n0:Nat):Int) by omega];refine Yv (mh:=h1) 9 (r:=(r:Int)) (none:=true) hb h10 rfl (Wo (n:=1+n0) (by omega) (by omega) λ_ _=>rfl) (.inr rfl) λh d x t=>?_
  rw [Wr t]
  walk_at "x2"
  refine eq_refl rfl (by decide +kernel) ?_
  walk_at "x2"
  rfl
 ·walk_at "x2"
  refine Gp 28 ns 2 λv3=>?_
  walk_at "x2"
  refine Gp 28 ns 2 λv4=>?_
  walk_at "x2"
  obtain ⟨n0,hn0,en⟩:=Qe (v3.fdiv 6) 9 (by decide);obtain ⟨n1,hn1,em⟩:=Qe (v4.fdiv 3) 3 (by decide);rw [show (v3.fdiv 6).fmod 9=(n0:Int) from en,show (v4.fdiv 3).fmod 3=(n1:Int) from em];obtain ⟨i,hi,ei⟩:∃ i:Nat,i<=8/\[D.int 0,.int 1,.int n0][n1]?=some (.int i):=by
   match n1,hn1 with
   | 0,_=>exact ⟨0,by omega,rfl⟩
   | 1,_=>exact ⟨1,by omega,rfl⟩
   | 2,_=>exact ⟨n0,by omega,rfl⟩
  refine Uh Az ei ?_;have y2:Ext [] h1 (h1++[MO.lst [.int 0,.int 1,.int n0]]):=Ext.more;have g2:=y2.old _ _ (by simp) g1;have h20:=y2.old _ _ (by simp) h10;generalize h1++[MO.lst [D.int 0,.int 1,.int n0]]=h2 at y2 g2 h20 ⊢
  walk_at "x2"
  refine Yv (mh:=h2) 9 (r:=(r:Int)) (none:=false) hb h20 rfl (Yu (r:=r) hb r1 r2 (by omega)) (.inl rfl) λh3 d x3 t=>?_
  obtain ⟨j,rfl,gj⟩:=xJ t;rw [ur] at gj
  walk_at "x2"
  refine Ac1 gj (x3.old _ _ (by simp) g2) ?_;have h30:=x3.old _ _ (by simp) h20
  walk_at "x2"
  refine Gp 28 ns 2 λv5=>?_
  walk_at "x2"
  refine oG (by omega) ?_
  walk_at "x2"
  obtain ⟨n2,hn2,e2⟩:=Qe (v5.fdiv 9) (2 * r) (by omega);rw [e2,show (1:Int)+(n2:Int)=((1+n2:Nat):Int) by omega];refine N6 (λ_=>?_) λhk=>?_
  ·walk_at "x2"
   rfl
  ·have hk:((1+n2:Nat):Int)≠((2 * r:Nat):Int):=beq_eq_false_iff_ne.mp hk
   walk_at "x2"
   refine Yv (mh:=h3) 9 (r:=(r:Int)) (none:=false) hb h30 rfl (Wo (n:=1+n2) (by omega) (by omega) λi hi=>qN hb (by omega)) (.inr rfl) λh4 d x4 t=>?_
   rw [Wr t]
   walk_at "x2"
   refine eq_refl rfl (by decide +kernel) ?_
   walk_at "x2"
   rfl
theorem main:∀ ns:List Int,ns.length<=63->∃ mh',Ai (GkN Tt depth) fuel eN [.rol (ns.map D.int)] sl0=some (.bl true,mh'):=λns _=>by
 obtain ⟨d,h,e,rfl⟩:=Ac2 ns;exact ⟨h,e⟩
end
end Lw
open PySem PySem.W PyProof.Rows
namespace PySem.W.Fast
def tw5766714159362220809:Unit:=()
def tw7973271917655908009:Unit:=()
def tw3935388051409048046:Unit:=()
def tw2660556184016284915:Unit:=()
def tw16979120604333608422:Unit:=()
def tw12025745509001205557:Unit:=()
def tw16251234631540997952:Unit:=()
def tw15581935976006991744:Unit:=()
def tw9852680726578619137:Unit:=()
def tw16239228157714887992:Unit:=()
def tw832160568987464377:Unit:=()
def tw9542508442032201715:Unit:=()
def tw2951665627106559809:Unit:=()
def tw12292779420861950617:Unit:=()
def tw16379704886162819141:Unit:=()
def tw2334120341187129685:Unit:=()
def tw6113751011561840215:Unit:=()
def tw3174284717224255952:Unit:=()
def tw16665830010899721246:Unit:=()
def tw13928191333740716075:Unit:=()
def tw2174937276146683901:Unit:=()
def tw11364577227972566828:Unit:=()
def tw3968511798252401003:Unit:=()
def tw2983079311627999285:Unit:=()
def tw16528209215670687565:Unit:=()
def tw17927320520242058357:Unit:=()
def tw11419570816077018446:Unit:=()
def tw507878741715431768:Unit:=()
def tw2800854200796836698:Unit:=()
def tw12186561411864501959:Unit:=()
def tw9553893231976637624:Unit:=()
def tw18333355675770632973:Unit:=()
def tw6187927401854785294:Unit:=()
def tw6736544404918101902:Unit:=()
def tw14258758100062051811:Unit:=()
def tw4122558715702440191:Unit:=()
def tw6546434332997821837:Unit:=()
def tw13313506514110612464:Unit:=()
def tw10010443606070701651:Unit:=()
def tw12518830500527327554:Unit:=()
def tw2939175979434619991:Unit:=()
def tw46334262458458277:Unit:=()
def tw17629869473216439437:Unit:=()
def tw16898053965464791370:Unit:=()
def tw6042990483684560455:Unit:=()
def tw1864828175291734077:Unit:=()
def tw14506603608995793608:Unit:=()
def tw17824863852686887647:Unit:=()
def tw11293017279374676701:Unit:=()
def tw14666154666806017404:Unit:=()
def tw658101052860091655:Unit:=()
def tw12920521642309744238:Unit:=()
def tw18120754236225524283:Unit:=()
def tw3586395061201739054:Unit:=()
def tw4960159981824088969:Unit:=()
def tw10418676652916346147:Unit:=()
def tw13838349457846246684:Unit:=()
def tw10114407806404444504:Unit:=()
def tw8512168594320489871:Unit:=()
def tw3488635188514593105:Unit:=()
def tw16817546350616270453:Unit:=()
def tw879842838251923831:Unit:=()
def tw7533531577839380013:Unit:=()
def tw6648315878931422569:Unit:=()
def tw16530380488915636201:Unit:=()
def tw14651710108543597522:Unit:=()
def tw328506376799926537:Unit:=()
def tw10638380962423361221:Unit:=()
def tw17920103255258943467:Unit:=()
def tw12707705237088613414:Unit:=()
def tw9329101002716721396:Unit:=()
def tw16471075636383626742:Unit:=()
def tw1392972341568619338:Unit:=()
def tw2507982386508770941:Unit:=()
def tw9674515919434872264:Unit:=()
def tw7980502080771643012:Unit:=()
def tw10915083712020552765:Unit:=()
def tw17767568437092982589:Unit:=()
def tw11418594153031629658:Unit:=()
def tw8195934158893419387:Unit:=()
def tw4915770516313535864:Unit:=()
def tw16947619610647673745:Unit:=()
def tw3973147227189115274:Unit:=()
def tw9550451871805108200:Unit:=()
def tw8883255682552039223:Unit:=()
def tw12079516047363944933:Unit:=()
def tw5371202794868725306:Unit:=()
def tw6831884252332611943:Unit:=()
def tw4085875165355628386:Unit:=()
def tw13969390641576939066:Unit:=()
def tw18185648890466199209:Unit:=()
def tw8620562291566279552:Unit:=()
def tw6579786938508658666:Unit:=()
def tw16033549020338036919:Unit:=()
def tw14552016319292932614:Unit:=()
def tw3290591140046291464:Unit:=()
def tw15882557055465700821:Unit:=()
def tw2011754550275293567:Unit:=()
def tw4046110394669502353:Unit:=()
def tw14785312091785746528:Unit:=()
def tw1562361080630490288:Unit:=()
def tw1265783504886360746:Unit:=()
def tw13293673639962865723:Unit:=()
def tw14853113914462093881:Unit:=()
def tw11153457765968872860:Unit:=()
def tw12289286061262185211:Unit:=()
def tw13804538338113143454:Unit:=()
def tw7508504147701808752:Unit:=()
def tw17885088728658698863:Unit:=()
def tw13867839781238557850:Unit:=()
def tw14713734114922772500:Unit:=()
def tw75225915802320201:Unit:=()
def tw8910919827976960592:Unit:=()
def tw7902081633337669057:Unit:=()
def tw9689340717221516605:Unit:=()
def tw7034961114175617939:Unit:=()
def tw3188049414686424847:Unit:=()
def tw15609796972517840190:Unit:=()
def tw15969695908234500548:Unit:=()
def tw12676955638240696652:Unit:=()
def tw204385450347062785:Unit:=()
def tw7255106166941390041:Unit:=()
def tw1661947842798497670:Unit:=()
def tw16356421920524358383:Unit:=()
def tw2426176688656656244:Unit:=()
def tw5806406793475938582:Unit:=()
def tw5012145313182231193:Unit:=()
def tw6996954726814632213:Unit:=()
def tw5629227639951444401:Unit:=()
def tw4229456244626464116:Unit:=()
def tw15679476762815693276:Unit:=()
def tw4623107040420376068:Unit:=()
def tw11525386074159451858:Unit:=()
def tw9803554508767013096:Unit:=()
def tw1445160959783926110:Unit:=()
def tw2320495685131438653:Unit:=()
def tw4833006731626346955:Unit:=()
def tw11156784907736472249:Unit:=()
def tw13127765995139705424:Unit:=()
def tw8341259986582945196:Unit:=()
def tw12051577411664877645:Unit:=()
def tw13432671285617038214:Unit:=()
def tw5139880000150816340:Unit:=()
def tw2895808635266735520:Unit:=()
def tw1051199267494046686:Unit:=()
def tw8092317286596486381:Unit:=()
def tw11475963059087260043:Unit:=()
def tw5228999502344521876:Unit:=()
def tw11080653339258628811:Unit:=()
def tw7624863011193386201:Unit:=()
def tw16059940333904342372:Unit:=()
def tw3364165712517792296:Unit:=()
def tw848516700518540773:Unit:=()
def tw14665750264919247126:Unit:=()
def tw16298924540131916921:Unit:=()
def tw8411901116626009618:Unit:=()
def tw13182138657773721354:Unit:=()
def tw2695852275061560144:Unit:=()
def tw3643044075529164426:Unit:=()
def tw5891606468131165435:Unit:=()
def tw11569663642826647809:Unit:=()
def tw4931817034846433418:Unit:=()
def tw8749642628042961977:Unit:=()
def tw11934897457827490560:Unit:=()
def tw14746174314235278675:Unit:=()
def tw11559047507712168113:Unit:=()
def tw17506194573466813326:Unit:=()
def tw16763529007289558671:Unit:=()
def tw17996646027594492310:Unit:=()
def tw8226427925404640303:Unit:=()
def tw3258951589785610950:Unit:=()
def tw18345744191341722581:Unit:=()
def tw11794547508568448735:Unit:=()
def tw12200175365524581783:Unit:=()
def tw12010068184430624345:Unit:=()
def tw3811882564212315071:Unit:=()
def tw12746046791585663238:Unit:=()
def tw9974923070225700597:Unit:=()
def tw10034912510912540494:Unit:=()
def tw296384916354595364:Unit:=()
def tw12069017748683883553:Unit:=()
def tw11032549057135116121:Unit:=()
def tw9743063245229777862:Unit:=()
def tw230875041250924013:Unit:=()
def tw18087423411382592024:Unit:=()
def tw8476720956214670142:Unit:=()
def tw4765571297220965680:Unit:=()
def tw8745577145777509683:Unit:=()
def tw4275227067438915582:Unit:=()
def tw15583042740706597559:Unit:=()
def tw16307376657524089549:Unit:=()
def tw5086482553770603094:Unit:=()
def tw1424104394031998881:Unit:=()
def tw166990143879842201:Unit:=()
def tw15512703293204140450:Unit:=()
def tw4566911677016760959:Unit:=()
def tw2099208591242764677:Unit:=()
def tw14201065935448800351:Unit:=()
def tw14914029404870276767:Unit:=()
def tw8527628798130832299:Unit:=()
def tw2894626088654097207:Unit:=()
def tw11109261277198463371:Unit:=()
def tw564592774909275694:Unit:=()
def tw3151530699128466104:Unit:=()
def tw13127558004167478227:Unit:=()
def tw15240452168370632423:Unit:=()
def tw16951914546610440949:Unit:=()
def tw3015735759639179823:Unit:=()
def tw14306557093101285355:Unit:=()
def tw10530186691373398373:Unit:=()
def tw2645661273513929172:Unit:=()
def tw4447544456062044818:Unit:=()
def tw15406479294842077826:Unit:=()
def tw10751099235804984968:Unit:=()
def tw16025837768193835096:Unit:=()
def tw7313406495547553348:Unit:=()
def tw3143731664210668318:Unit:=()
def tw4737159610402412275:Unit:=()
def tw8082044811531982814:Unit:=()
def tw7543743706513506687:Unit:=()
def tw5057738312261523763:Unit:=()
def tw8915024348445356174:Unit:=()
def tw15837657542902510089:Unit:=()
def tw802408285454772542:Unit:=()
def tw9495493002216006027:Unit:=()
def tw10033354519129403214:Unit:=()
def tw6393842708505584170:Unit:=()
def tw12201374342109888656:Unit:=()
def tw10131435152534046874:Unit:=()
def tw9501879242058582378:Unit:=()
def tw15507083969482021006:Unit:=()
def tw17940864983291159962:Unit:=()
def tw7547891349029315802:Unit:=()
def tw14587183202298816482:Unit:=()
def tw869279734135889446:Unit:=()
def tw6553698120374233690:Unit:=()
def tw8521122002678926507:Unit:=()
def tw9346459800705315828:Unit:=()
def tw4100727867165342949:Unit:=()
def tw7694404380188961073:Unit:=()
def tw17939212042590863430:Unit:=()
def tw1450165226799955179:Unit:=()
def tw1989554546310176210:Unit:=()
def tw13850221662675639668:Unit:=()
def tw6734846308775056703:Unit:=()
def tw17061814948219687453:Unit:=()
def tw2231984295154554961:Unit:=()
def tw8037758502819032962:Unit:=()
def tw10246258413728064776:Unit:=()
def tw18199982387637491185:Unit:=()
def tw11088028112045429890:Unit:=()
def tw1864935312728324775:Unit:=()
def tw1992793260295458208:Unit:=()
def tw15146968058048124651:Unit:=()
def tw2152753023933909257:Unit:=()
def tw6914920713256539506:Unit:=()
def tw11247824518506127044:Unit:=()
def tw3604540751231372097:Unit:=()
def tw5011421525985443037:Unit:=()
def tw789333165384082468:Unit:=()
def tw16664925060406528363:Unit:=()
def tw14133752295221271136:Unit:=()
def tw3190214341382699924:Unit:=()
def tw274672586536029779:Unit:=()
def tw17905511309018701324:Unit:=()
def tw14064216790644810999:Unit:=()
def tw10052160617126406154:Unit:=()
def tw16265969787438429689:Unit:=()
def tw15581682458060932537:Unit:=()
def tw8224692454523257731:Unit:=()
def tw12479827206754719395:Unit:=()
def tw10213158986495270631:Unit:=()
def tw948603399677321261:Unit:=()
def tw5214661924987896626:Unit:=()
def tw4765005336905493848:Unit:=()
def tw4138986206521490891:Unit:=()
def tw14865958362302929558:Unit:=()
def tw15593524923958786422:Unit:=()
def tw6874471315608670478:Unit:=()
def tw12033281485646676188:Unit:=()
def tw4905154808239198525:Unit:=()
def tw17918941413820954013:Unit:=()
def tw2023361098317203611:Unit:=()
def tw8431297865757987147:Unit:=()
def tw13804427221740816185:Unit:=()
def tw18339713370661509050:Unit:=()
def tw4124575083018612723:Unit:=()
def tw15240842745743908379:Unit:=()
def tw14085437612005079549:Unit:=()
def tw14673177936948128106:Unit:=()
def tw9183461208325993892:Unit:=()
def tw2858561092127063087:Unit:=()
def tw1369275467169023181:Unit:=()
def tw16468934132861082971:Unit:=()
def tw11326286822942513382:Unit:=()
def tw9066543087747086112:Unit:=()
def tw7101505477006729837:Unit:=()
def tw5466638963595662575:Unit:=()
def tw17183918214227443330:Unit:=()
def tw17068128447205851917:Unit:=()
def tw16838506423802838360:Unit:=()
def tw11519778191706118467:Unit:=()
def tw18052938681712010565:Unit:=()
def tw4072727442805803379:Unit:=()
def tw17087475553207454020:Unit:=()
def tw6463178869124054376:Unit:=()
def tw2266716551897541555:Unit:=()
def tw6974780977597222567:Unit:=()
def tw5616286297550191176:Unit:=()
def tw6337085880648487956:Unit:=()
def tw10294847691427488326:Unit:=()
def tw7320240122075910463:Unit:=()
def tw1893574695069506895:Unit:=()
def tw849223189981786200:Unit:=()
def tw3117674013155429212:Unit:=()
def tw2341763819016678904:Unit:=()
def tw8288716572681211286:Unit:=()
def tw6235759147294335309:Unit:=()
def tw14111052305938299763:Unit:=()
def tw7869471233622131893:Unit:=()
def tw12709395482328492798:Unit:=()
def tw16192770137817413268:Unit:=()
def tw12562973475155321206:Unit:=()
def tw7316395545849025639:Unit:=()
def tw5658908569103274069:Unit:=()
def tw4411304291415176709:Unit:=()
def tw4202142498949417727:Unit:=()
def tw1780616466756792772:Unit:=()
def tw9181126656120636985:Unit:=()
def tw5772399336225389038:Unit:=()
def tw16913412784354216659:Unit:=()
def tw14360956785552472367:Unit:=()
def tw14242834100646847167:Unit:=()
def tw13447001231896085078:Unit:=()
def tw13120801584965824718:Unit:=()
def tw14445208495697566240:Unit:=()
def tw15172947982363862944:Unit:=()
def tw7741486801621551772:Unit:=()
def tw6316254520287705463:Unit:=()
def tw4508821997420751266:Unit:=()
def tw2761841326716410271:Unit:=()
def tw16316278672566705970:Unit:=()
def tw15171625534090403321:Unit:=()
def tw12629769837684761729:Unit:=()
def tw13155352573458291536:Unit:=()
def tw868711270432953967:Unit:=()
def tw17884528333310469341:Unit:=()
def tw14946238571203559379:Unit:=()
def tw8247345488747933767:Unit:=()
def tw7036376269112370444:Unit:=()
def tw6322184148055413957:Unit:=()
def tw4385469723363172641:Unit:=()
def tw3455170602863278349:Unit:=()
def tw3140434711099979169:Unit:=()
def tw2659119029200246178:Unit:=()
def tw17361283414929948557:Unit:=()
def tw16303792839185128704:Unit:=()
def tw12359771002512553334:Unit:=()
def tw9589746294143369697:Unit:=()
def tw8534191736098670788:Unit:=()
def tw6710511954313596965:Unit:=()
def tw5121321892026751833:Unit:=()
def tw4009977735738220756:Unit:=()
def tw16632983420797413604:Unit:=()
def tw702860389274971611:Unit:=()
def tw912433551226075960:Unit:=()
def tw893350370016332763:Unit:=()
def tw8281944503120884049:Unit:=()
def tw6932235370988251116:Unit:=()
def tw6451196299794896191:Unit:=()
def tw571800308148452825:Unit:=()
def tw4924198644554873567:Unit:=()
def tw4805282312475612606:Unit:=()
def tw407095780663369697:Unit:=()
def tw4009288416362661789:Unit:=()
def tw3506667999829835837:Unit:=()
def tw3090571311153845368:Unit:=()
def tw1922858632026389435:Unit:=()
def tw18146737144560561819:Unit:=()
def tw17770294062983902103:Unit:=()
def tw16833798790145938514:Unit:=()
def tw16778844558790819331:Unit:=()
def tw16156130640211172845:Unit:=()
def tw16023183908069102684:Unit:=()
def tw14414386674484395867:Unit:=()
def tw14246025530922392097:Unit:=()
def tw13527664667358221852:Unit:=()
def tw1227297044744451342:Unit:=()
def tw11428441612710875741:Unit:=()
def tw13230584873390845723:Unit:=()
def tw16763146181751669722:Unit:=()
def tw8101664564195514346:Unit:=()
def tw9622569093208010471:Unit:=()
def tw9467066685595019492:Unit:=()
def tw9411716167644389483:Unit:=()
def tw9340850398250161582:Unit:=()
def tw9226867628308083211:Unit:=()
def tw816564875372300999:Unit:=()
def tw8103393775541783952:Unit:=()
def tw7449018896684540548:Unit:=()
def tw7422024833755814049:Unit:=()
def tw5303181552536198354:Unit:=()
def tw4168009050097341865:Unit:=()
def tw3737241446975139278:Unit:=()
def tw2752728015367138471:Unit:=()
def tw2704081475204290562:Unit:=()
def tw2106324966766207146:Unit:=()
def tw17516944316364603692:Unit:=()
def tw16843819661865252329:Unit:=()
def tw16682705584013117800:Unit:=()
def tw16483648072179266993:Unit:=()
def tw16090144369739225068:Unit:=()
def tw16012582070312812724:Unit:=()
def tw1482085225575902055:Unit:=()
def tw1416314875162267203:Unit:=()
def tw14017023649635710216:Unit:=()
def tw13671416170433426376:Unit:=()
def tw12130350601539337936:Unit:=()
def tw11842579451283412993:Unit:=()
def tw11479728449324483064:Unit:=()
def tw10934085608160908899:Unit:=()
def tw10899384193208676514:Unit:=()
def tw10820345290549395780:Unit:=()
def tw10640352157348049156:Unit:=()
def tw7894221962792031886:Unit:=()
def tw7026898201350733365:Unit:=()
def tw9441008878055946198:Unit:=()
def tw4978391473219848510:Unit:=()
def tw11963692008298760692:Unit:=()
def tw3333669998420042776:Unit:=()
def tw1142644950578941757:Unit:=()
def tw2765029702458708421:Unit:=()
def tw5314809600577373450:Unit:=()
def tw4329693123434480563:Unit:=()
def tw12206450506980194687:Unit:=()
def tw9678763276465405136:Unit:=()
def tw6787399372023701029:Unit:=()
def tw4460781569534666262:Unit:=()
def tw18373688720885929887:Unit:=()
def tw1655496134903921803:Unit:=()
def tw16203775434082609834:Unit:=()
def tw13926891175882736520:Unit:=()
def tw1203614008918064846:Unit:=()
def tw10383042516675016098:Unit:=()
def tw8309915555310483639:Unit:=()
def tw6016146609503528818:Unit:=()
def tw4245704016926404297:Unit:=()
def tw3894534605288703104:Unit:=()
def tw1944263719076847112:Unit:=()
def tw15588777787120295458:Unit:=()
def tw14510942087292022799:Unit:=()
def tw13657809953890656685:Unit:=()
def tw13603501686929861158:Unit:=()
def tw13382720169183987617:Unit:=()
def tw12393927831078339651:Unit:=()
def tw12257870134461100583:Unit:=()
def tw10178244879799211749:Unit:=()
def tw7008690799081582789:Unit:=()
def tw10036115988978968501:Unit:=()
def tw2626279436420136778:Unit:=()
def tw17040275801519656291:Unit:=()
def tw1549631252701896163:Unit:=()
def tw16309545753357742781:Unit:=()
def tw9908713415206327357:Unit:=()
def tw4937847531238295963:Unit:=()
def tw3492131332460273357:Unit:=()
def tw9184505562406611949:Unit:=()
def tw8200563401530828818:Unit:=()
def tw4642053018493358236:Unit:=()
def tw1317588065186442703:Unit:=()
def tw11555498851915464363:Unit:=()
def tw10464434049095973191:Unit:=()
def tw4237313200176934542:Unit:=()
def tw1650292919317218393:Unit:=()
def tw9314127553780531329:Unit:=()
def tw8815131997879266393:Unit:=()
def tw8604029358129678114:Unit:=()
def tw7823498379452390891:Unit:=()
def tw692920646451524756:Unit:=()
def tw6167645833193967308:Unit:=()
def tw6018759590362089254:Unit:=()
def tw5652539076862915338:Unit:=()
def tw5140681319001292680:Unit:=()
def tw3378934060140882603:Unit:=()
def tw2803420786973109139:Unit:=()
def tw231163224085352906:Unit:=()
def tw17577534594526547760:Unit:=()
def tw1687963352162536473:Unit:=()
def tw16484660648182747666:Unit:=()
def tw16343915889555712914:Unit:=()
def tw16194989547036685069:Unit:=()
def tw15656403053919496684:Unit:=()
def tw1237657170910924843:Unit:=()
def tw12281269225080756037:Unit:=()
def tw11035658288408075226:Unit:=()
def tw11015021656932471069:Unit:=()
def tw10140217496821520476:Unit:=()
def tw16846823098600909062:Unit:=()
def tw15816187797649192576:Unit:=()
def tw10526736362525006005:Unit:=()
def tw8809399277316924265:Unit:=()
def tw1650007657355618857:Unit:=()
def tw16225431163569673548:Unit:=()
def tw13129866877862420379:Unit:=()
def tw1566611358575926344:Unit:=()
def tw10370278822481984081:Unit:=()
def tw6301993641160337058:Unit:=()
def tw15517108933576810836:Unit:=()
def tw11721971339119934408:Unit:=()
def tw2713393052130487692:Unit:=()
end PySem.W.Fast
set_option maxRecDepth 100000 in
set_option maxHeartbeats 0 in
theorem PySem.Challenge.cw_letterall_k57_counting_on_holds : PySem.Challenge.rw_letterall_k57_counting_on.Holds := by
 w_on; o_law; z_head; (case hw => w_witness2)
 k_fill
 refine DL.nF (λ_ => by kernel_rfl) (DL.Aet (l := PySem.Challenge.rw_letterall_k57_counting_on) (Tt := Lw.Tt) (I := Lw.eN) (x := "_law_script") Lw.depth Lw.sl0 rfl rfl (λw h Y => Y) ⟨rfl, by decide, by decide⟩ (by kernel_rfl) (by decide +kernel) ?T Lw.main)
 case T =>
  intro w mg h KX G;refine' Lw.tbN KX G ?qla0 ?qll0 ?qlx0 ?qlc0 ?qlv0 ?qlp0 ?qlh0 ?qlb ?qlm ?ql6 ?ql7 ?qnd ?rf ?rb ?rc ?qd0 ?qe0 ?qg0 ?qh0 ?qr0 ?qd1 ?qe1 ?qg1 ?qh1 ?qr1 ?qd2 ?qe2 ?qg2 ?qh2 ?qr2 ?qd3 ?qe3 ?qg3 ?qh3 ?qr3 ?qd4 ?qe4 ?qg4 ?qh4 ?qr4 ?qd5 ?qe5 ?qg5 ?qh5 ?qr5 ?C42a ?C42b ?C42c ?C42d ?C42e ?C121a ?C121b ?C121c ?C121d ?C121e ?C42f0 ?C121f0 ?C121f1 ?C121f2 ?a42_1 ?b42_1 ?l42_1 ?c42_1 ?k42_1 ?a121_1 ?Hs ?l121_1 ?c121_1 ?k121_1 ?a121_2 ?Ht ?l121_2 ?c121_2 ?k121_2 ?a121_3 ?Hu ?l121_3 ?c121_3 ?k121_3 ?a42_0 ?b42_0 ?l42_0 ?c42_0 ?k42_0 ?a121_0 ?b121_0 ?l121_0 ?c121_0 ?k121_0 ?C42m ?C42k ?C121m ?C121k
  (case qla0 | qll0 => k_is)
  (case qlx0 => exact rfl)
  (case qlc0 => k_is)
  (case qlv0 => exact rfl)
  (case qlp0 => k_is)
  (case qlh0 => (first | kernel_rfl | k_is))
  (case qlb | qlm => k_is)
  (case ql6 => decide)
  (case ql7 => decide)
  (case qnd => decide)
  (case rf => (repeat (apply DL.nG; (focus k_is); (focus k_is); (focus k_is); (focus k_is); (focus rfl))); exact trivial)
  (case rb => (repeat (apply DL.nJ; (focus k_is))); exact trivial)
  (case rc => (repeat (apply DL.nH; (focus k_is); (focus kernel_rfl))); exact trivial)
  (case qd0 | qe0 => k_is)
  (case qg0 => kernel_rfl)
  (case qh0 => kernel_rfl)
  (case qr0 => kernel_rfl)
  (case qd1 | qe1 => k_is)
  (case qg1 => kernel_rfl)
  (case qh1 => kernel_rfl)
  (case qr1 => kernel_rfl)
  (case qd2 | qe2 => k_is)
  (case qg2 => kernel_rfl)
  (case qh2 => kernel_rfl)
  (case qr2 => kernel_rfl)
  (case qd3 | qe3 => k_is)
  (case qg3 => kernel_rfl)
  (case qh3 => kernel_rfl)
  (case qr3 => kernel_rfl)
  (case qd4 | qe4 => k_is)
  (case qg4 => kernel_rfl)
  (case qh4 => kernel_rfl)
  (case qr4 => kernel_rfl)
  (case qd5 | qe5 => k_is)
  (case qg5 => kernel_rfl)
  (case qh5 => kernel_rfl)
  (case qr5 => kernel_rfl)
  (case C42a | C42b | C42c | C42d | C42e | C121a | C121b | C121c | C121d | C121e | C42f0 | C121f0 | C121f1 | C121f2 | a42_1 | b42_1 | l42_1 | c42_1 | k42_1 | a121_1 | Hs | l121_1 | c121_1 | k121_1 | a121_2 | Ht | l121_2 | c121_2 | k121_2 | a121_3 | Hu | l121_3 | c121_3 | k121_3 | a42_0 | b42_0 | l42_0 | c42_0 | k42_0 | a121_0 | b121_0 | l121_0 | c121_0 | k121_0 | C42m | C42k | C121m | C121k => k_is)
#print axioms PySem.Challenge.cw_letterall_k57_counting_on_holds
