import PyProof.Rows.All
import Wide.All
import OpenK.AllK
import Wide.FinOn
import Lean
import PyProof.EqAt
import PyProof.EqKinds
import PyProof.TupleCall
import KE.BitLaws
import PySem.Challenge.RW_letterall_k41_whole_renamed_worlds_move
open PySem.W renaming Frag→aj, nsIn→jo, emptyDict→tu, keepIn→ug, findIn→vm, instObj→vy, kia_one→yg, fnOf→zf, cellsFrom_some→BL, plainGet→GP, plainGet_of→HS, lookIn→HY, codeIn→IK, callWith_K→JD, methodObj→JV, hasDictIn→JX, takerIn→QG, methodCall_KW→QT, WalkO→RT, callWith_K0→RX, isFn→SX, plainOver→VH, kitx_list→VN
open List renaming length_map→ak, mem_singleton→ao, getElem?_eq_getElem→au, getElem?_eq_some_iff→cg, getElem?_map→cj, length_append→dg, mem_map→di, range→dm, size_toArray→dw, replicate→fj, mem_cons→gb, mem_of_getElem?→gn, mem_append_right→gw, length_range→ig, mem_range→ir, map_cons→iu, mem_cons_of_mem→iw, getElem?_set_ne→iy, mem_cons_self→jb, mem_flatMap→jg, map_append→ji, length_cons→jj, mem_append→jm, getElem?_append_left→ju, pairwise_singleton→jw, length_filter_le→jx, length_set→jz, map_map→kh, mem_filter→lq, mem_nil_iff→lu, getElem_mem→ni, getElem?_eq_none_iff→nj, getElem?_set_self→nq, nodup_nil→ou, nodup_cons→pq, length_take→qd, lookup_cons→qe, nodup_append→qj, take_add_one→ql, getElem?_append_right→qm, filterMap_cons→qt, replicate_succ→qu, length_singleton→qx, mem_append_left→qy, take_length→rz, idxOf_lt_length_iff→uf, getElem?_replicate→um, getElem?_range→uy, find?_cons→vz, flatten_cons→wj, nodup_range→xg, lookup→xj, getElem_idxOf→xu, append_nil→yc, length_replicate→yd, getElem?_set→yq, all_eq_true→zm, map_congr_left→zq, length_eq_zero_iff→zu, any_cons→zx, append_assoc→BV, length_drop→CJ, prefix_refl→CP, getElem_of_mem→CT, nil_append→DN, mem_or_eq_of_mem_set→DP, filter_append→FJ, map_replicate→FN, mem_replicate→FP, findIdx?_eq_some_iff_getElem→GF, all_cons→GK, ext_getElem→GR, getElem?_eq_none→GZ, flatMap_append→HW, mem_filterMap→JC, getD_eq_getElem?_getD→JT, take_sublist→JZ, getElem?_inj→KD, flatMap_cons→KJ, foldl→KY, map_nil→MF, zipWith→NK, filter_cons→NP, length_erase_of_mem→NQ, map_set→PB, all_map→PJ, getElem?_cons_succ→PX, forIn_cons→QD, of_mem_zip→QH, take_of_length_le→QL, perm_cons_erase→RB, mem_erase_of_ne→RG, map→RM, zip_cons_cons→UL, contains_cons→UW, ext_getElem?→WM, foldl_append→WN, map_id→WR
open PySem renaming wpAny_bind→aq, wpAny_pure→cu, mem_of_lookup→jt, sizeLine_eq→qp, wpAny_newObj_type→qw, wpAny_truthy_bool→sy, wpAny_callSpecial?_slot→uq, wpAny_holding→wu, wpAny_pyIter_tuple→xr, Spec→yr, wpAny_mono→yt, wpAny_Call_Name_kw→BJ, codeAny_builtin→BK, wpAny_field→BP, wpAny_call_entry→CK, wpAny_passesOwn→CW, wpAny_loadPart'→CZ, codeAny_mono→DQ, call_meets→FT, typeIs_int→GQ, pushCells_keeps→HD, tupleKind_room_in1→JF, wpAny_setItem_heap→JG, wpAny_standAt→JM, evalPart_some→JP, wpAny_pyIter_list→JW, wpAny_rule→KR, wpAny_binaryOp_repeat_ref→KZ, noFill_tuple_add→LQ, wpAny_typeOf→LR, wpAny_getItem_list_slice→MJ, wpAny_comprehension_free→MT, wpAny_execs_nil→QF, wpAny_seqItems→QS, seq_tuple_add→RP, plainId_quiet→RW, call_enumerate_list→SJ, Within→SQ, concat_meets→TJ, seqIndex_neg→TV, eqIsQuiet_byValue→VF, wpAny_sequenceKey→VJ, wpAny_storeSet_of→VP, fits_of_scanBound→VR, wpAny_pyIter_enum→WD, seqIndex_of→WQ, wpAny_Name→WT, wpAny_call→WX
open Bool renaming and_eq_true→bf, false_ne_true→kj, eq_iff_iff→qb, or_eq_true→wg, true_and→yj, false_eq_true→zy, not_eq_true'→BW, or_eq_false_iff→HJ, false_and→HX, false_or→JQ, and_self→JS, true_or→MN, not_true→RN, or_false→RQ
open Nat renaming le_refl→bh, le_trans→dz, lt_of_lt_of_le→fu, ne_of_lt→iz, zero_le→jy, lt_irrefl→mz, lt_succ_of_lt→qi, lt_succ_self→qz, eq_of_testBit_eq→uh, le_succ→vf, pow_le_pow_right→za, ge_two_pow_of_testBit→zb, ne_of_gt→BX, testBit_two_pow_mul_add→CG, testBit_or→FW, two_pow_pos→HN, mul_le_mul→IW, lt_of_le_of_lt→JK, lt_pow_two_of_testBit→LC, le_of_lt→LK, le_of_not_lt→MK, lt_or_ge→MP, zero_add→NZ, pow_lt_pow_iff_right→PK, lt_trans→UG, sub_self→VD, le_succ_of_le→VL
open PySem.Heap renaming get?_push_of_some→bw, get?_push_size→gq, size_push→mj, SameBut→vd, get?_update_self→GX, get?_update_other→QJ, get?_push_ne→WL
open LawfulBEq renaming eq_of_beq→dj
open Int renaming toNat_natCast→jh, natAbs_natCast→VB
open PySem.PyData renaming strOk→jq, eqv→lz, depthAll→uw, eqvAll→vg, canLay0→vq, canLayAll0→wk, int→xq, str→HF
open Array renaming length_toList→mq, getElem?_eq_some_iff→vh, getElem?_eq_getElem→yw, getElem?_toList→HB, forIn_toList→SN
open PySem.Builtin.Int renaming intBits→qg
open Option renaming map_eq_some_iff→su, map_some→ux, isSome_iff_exists→zc, isSome_map→KC, getD_some→NT, isSome_some→TY
open PySem.Builtin.SmallTypes renaming nextOf→uc
open PySem.Builtin.Tuple renaming tupleExact→ud, tupleTooMany→zj, tupleItemsOf→CQ, tupleHashOf→KQ
open PySem.F renaming plainAttrs_list→ur, slot_tuple_iterator_next→yp, slot_int_rmul→BZ, args_tuple_add_2→DR, slot_tuple_index→DY, plainAttrs_tuple→EY, entry_tuple_add→FZ, slot_tuple_add→GD, args_tuple_iterator_next_1→IV, entry_tuple_iterator_next→JH, args_tuple_mul_2→OD, type_tuple_index→OJ, args_int_rmul_2→QB, entry_tuple_mul→QC, entry_int_rmul→QM, slot_tuple_mul→QR, slot_enumerate_next→QV, fills_int_mul→QW, slot_list_pop→QX, type_list_pop→QZ, args_object_init_2→RJ, plain_list_iadd→WK
open PySem.Builtin.Range renaming rangeSize→wz, small→CV
open PySem.Builtin.Slice renaming slicePlaces→yu, sliceAdjust→DK, sliceApplied→JN
open PySem.Around renaming under_plainId→yx, under→TF
open PySem.Heap.SameBut renaming update→zp
open PyProof.Rows renaming subscriptTail_builtinR→BR, assignInOrder_cons→JB, firstMet_succ→RV, entry_tuple_getitem→RZ, args_tuple_getitem→TQ, assignInOrder_nil→VG, boot_range→WW, Subscript_→WY
open PySem.Obj renaming mapSeq→CN, data_mapFields→UJ
open PySem.Builtin.List renaming listTooLong→DX
open PySem.Builtin renaming bitAnd→FQ, bitOr→GJ
open PyProof.Rows.F renaming plain_set_update_loop→GC, entry_set_update_loop→PL
open PySem.Calls renaming Name_function_global→JL, callWith_builtin→QK
open Option.some renaming injEq→KH
set_option bootstrap.genMatcherCode false
set_option compiler.extract_closed false
noncomputable section
set_option Elab.async false
set_option linter.all false
set_option maxRecDepth 100000
set_option maxHeartbeats 8000000
namespace L2
open PySem PySem.Spec PyProof.Rows
mutual
noncomputable def kCl:PyData->Bool
 | .int _=>true
 | .str _=>true
 | .tuple xs=>Dl xs
 | _=>false
noncomputable def Dl:List PyData->Bool
 | []=>true
 | x::r=>kCl x&&Dl r
end
mutual
noncomputable def Tf (w:World):PyData->Int
 | .int i=>hashInt i
 | .str x=>hashStr w x
 | .tuple xs=>reduceHash (KQ (Li w xs))
 | _=>0
noncomputable def Li (w:World):List PyData->List Int
 | []=>[]
 | x::r=>Tf w x::Li w r
end
mutual
noncomputable def kDr:PyData->Nat
 | .tuple xs=>nP xs+1
 | _=>1
noncomputable def nP:List PyData->Nat
 | []=>0
 | x::r=>kDr x+nP r
end
section
variable {prog:Program}{w:World}{E:Value->Shared->Prop}
mutual
theorem cY:∀ (k:PyData) (v:Value) (as:List Addr) (A:Around) (s:Shared) (Q:Int->Shared->Prop),kCl k=true->Reads s.heap v k as->A.units+k.depth < cLine->Q (Tf w k) { s with toks:=s.toks+kDr k }->wpAny (model prog w) A (pyHash v) Q E s
 | .int i,_,_,A,s,Q,_,r,_,h=>by cases r;exact wpAny_pyHash_int (by simpa [Tf,kDr] using h)
 | .str x,_,_,A,s,Q,_,r,_,h=>by cases r;exact wpAny_pyHash_str (by simpa [Tf,kDr] using h)
 | .tuple xs,_,as,A,s,Q,hk,r,hu,h=>by
  cases r with
  | @tuple a o vs n _ _ e c d ra =>
   have hk:Dl xs=true:=by simpa [kCl] using hk
   simp only [PyData.depth] at hu
   refine PySem.W.pyHash_slot (T := "tuple") ⟨_,e,c⟩ F.slot_tuple_hash F.entry_tuple_hash (F.args_tuple_hash_1 _) (beq_builtin_none _) (.inr (by omega)) ?_;show wpAny _ _ (CQ (.ref a) >>= _) _ _ s;refine aq (wpAny_tupleItemsOf e d ?_);refine aq ?_;rw [← SN];refine cZ xs vs.toList as A.in1 s #[] _ hk ra (by simp only [Around.in1_units];omega) λb hb=>?_
   show wpAny _ _ (retInt (KQ b.toList)) _ _ _;rw [hb];refine aq (wpAny_mkInt (cu ⟨_,_,rfl,?_⟩))
   simpa [Tf,kDr,Nat.add_assoc] using h
 | .none,_,_,_,_,_,hk,_,_,_ | .bool _,_,_,_,_,_,hk,_,_,_ | .list _,_,_,_,_,_,hk,_,_,_ | .dict _,_,_,_,_,_,hk,_,_,_=>by simp [kCl] at hk
theorem cZ:∀ (xs:List PyData) (vs:List Value) (as:List Addr) (A:Around) (s:Shared) (b:Array Int) (Q:Array Int->Shared->Prop),Dl xs=true->ReadsAll s.heap vs xs as->A.units+uw xs < cLine ->
  (∀ b':Array Int,b'.toList=b.toList++Li w xs->Q b' { s with toks:=s.toks+nP xs }) ->
  wpAny (model prog w) A (forIn vs b λx r=>do let h ← pyHash x;pure PUnit.unit;pure (ForInStep.yield (r.push h))) Q E s
 | [],_,_,A,s,b,Q,_,r,_,h=>by cases r;exact cu (by simpa [nP] using h b (by simp [Li]))
 | x::xs,_,_,A,s,b,Q,hk,r,hu,h=>by
  cases r with
  | @cons v vs _ _ as bs r1 r2 =>
   have hk:(kCl x&&Dl xs)=true:=by simpa [Dl] using hk
   rw [bf] at hk;simp only [uw] at hu;rw [QD];refine aq (aq (cY x _ _ A s _ hk.1 r1 (by omega) ?_));refine aq (cu (cu ?_));refine cZ xs vs bs A { s with toks:=s.toks+kDr x } _ Q hk.2 r2 (by omega) λb' hb=>?_
   have:=h b' (by rw [hb];simp [Li])
   simpa [nP,Nat.add_assoc] using this
end
end
mutual
theorem nQ {h:Heap}:∀ (x y:PyData) (v:Value) (as bs:List Addr),kCl x=true->kCl y=true->Reads h v x as->Reads h v y bs->x=y
 | .int _,_,_,_,_,_,_,r,q=>by cases r;cases q;rfl
 | .str _,_,_,_,_,_,_,r,q=>by cases r;cases q;rfl
 | .tuple xs,y,_,_,_,c1,c2,r,q=>by
  cases r with
  | @tuple a o vs n _ as e c d ra =>
   cases q with
   | @tuple _ _ _ _ ys _ e' c' d' ra' =>
    rw [e] at e';cases e';rw [d] at d';cases d';have c1:Dl xs=true:=by simpa [kCl] using c1
    rw [dB xs ys _ _ _ c1 (by simpa [kCl] using c2) ra ra']
   | list e' c' d' ra'=>rw [e] at e';cases e';rw [c] at c';exact absurd c' (by decide)
   | dict e' c' d' ra' rb'=>rw [e] at e';cases e';rw [c] at c';exact absurd c' (by decide)
 | .none,_,_,_,_,hk,_,_,_ | .bool _,_,_,_,_,hk,_,_,_ | .list _,_,_,_,_,hk,_,_,_ | .dict _,_,_,_,_,hk,_,_,_=>by simp [kCl] at hk
theorem dB {h:Heap}:∀ (xs ys:List PyData) (vs:List Value) (as bs:List Addr),Dl xs=true->Dl ys=true->ReadsAll h vs xs as->ReadsAll h vs ys bs->xs=ys
 | [],_,_,_,_,_,_,r,q=>by cases r;cases q;rfl
 | x::xs,_,_,_,_,c1,c2,r,q=>by
  cases r with
  | cons r1 r2=>cases q with
   | @cons _ _ y ys _ _ q1 q2 =>
    have c1:(kCl x&&Dl xs)=true:=by simpa [Dl] using c1
    have c2:(kCl y&&Dl ys)=true:=by simpa [Dl] using c2
    rw [bf] at c1 c2;rw [nQ x y _ _ _ c1.1 c2.1 r1 q1,dB xs ys _ _ _ c1.2 c2.2 r2 q2]
end
mutual
theorem Ws {h h':Heap}{d:Addr}{o:Obj}{es ep}(hd:h.get? d=some o) (od:o.data=.dict es ep) (sb:vd d h h'):∀ (x:PyData) (v:Value) (as:List Addr),kCl x=true->Reads h v x as->Reads h' v x as
 | .int _,_,_,_,r=>by cases r;exact .int _ _
 | .str _,_,_,_,r=>by cases r;exact .str _ _
 | .tuple xs,_,_,c1,r=>by
  cases r with
  | @tuple a o' vs n _ as e c q ra =>
   have ne:a≠d:=λz=>by
    rw [z,hd] at e;cases e;rw [od] at q;cases q
   exact .tuple ((sb.2 a ne).trans e) c q (Tg hd od sb xs _ _ (by simpa [kCl] using c1) ra)
 | .none,_,_,hk,_ | .bool _,_,_,hk,_ | .list _,_,_,hk,_ | .dict _,_,_,hk,_=>by simp [kCl] at hk
theorem Tg {h h':Heap}{d:Addr}{o:Obj}{es ep}(hd:h.get? d=some o) (od:o.data=.dict es ep) (sb:vd d h h'):∀ (xs:List PyData) (vs:List Value) (as:List Addr),Dl xs=true->ReadsAll h vs xs as->ReadsAll h' vs xs as
 | [],_,_,_,r=>by cases r;exact .nil
 | x::xs,_,_,c1,r=>by
  have c1:(kCl x&&Dl xs)=true:=by simpa [Dl] using c1
  rw [bf] at c1;cases r with
  | cons r1 r2=>exact .cons (Ws hd od sb x _ _ c1.1 r1) (Tg hd od sb xs _ _ c1.2 r2)
end
mutual
theorem nR:∀ (x y:PyData),kCl x=true->kCl y=true->lz x y=true->x=y
 | .int _,y,_,c2,e=>by
  cases y <;> first | (simp [kCl] at c2;done) | (simp [lz] at e;done) | (simp [lz] at e;rw [e])
 | .str _,y,_,c2,e=>by
  cases y <;> first | (simp [kCl] at c2;done) | (simp [lz] at e;done) | (simp [lz] at e;rw [e])
 | .tuple xs,.tuple ys,c1,c2,e=>by
  rw [dD xs ys (by simpa [kCl] using c1) (by simpa [kCl] using c2) (by simpa [lz] using e)]
 | .tuple xs,.int _,_,_,e=>by simp [lz] at e
 | .tuple xs,.str _,_,_,e=>by simp [lz] at e
 | .tuple xs,.none,_,c2,_ | .tuple xs,.bool _,_,c2,_ | .tuple xs,.list _,_,c2,_ | .tuple xs,.dict _,_,c2,_=>by simp [kCl] at c2
 | .none,_,hk,_,_ | .bool _,_,hk,_,_ | .list _,_,hk,_,_ | .dict _,_,hk,_,_=>by simp [kCl] at hk
theorem dD:∀ (xs ys:List PyData),Dl xs=true->Dl ys=true->vg xs ys=true->xs=ys
 | [],[],_,_,_=>rfl
 | [],_::_,_,_,e=>by simp [vg] at e
 | _::_,[],_,_,e=>by simp [vg] at e
 | x::xs,y::ys,c1,c2,e=>by
  have c1:(kCl x&&Dl xs)=true:=by simpa [Dl] using c1
  have c2:(kCl y&&Dl ys)=true:=by simpa [Dl] using c2
  have e:(lz x y&&vg xs ys)=true:=by simpa [vg] using e
  rw [bf] at c1 c2 e;rw [nR x y c1.1 c2.1 e.1,dD xs ys c1.2 c2.2 e.2]
end
section
variable {prog:Program}{w:World}{E:Value->Shared->Prop}{A:Around}
mutual
theorem Wt:∀ (x:PyData) (n:Nat) (v:Value) (as:List Addr) (s:Shared) (Q:Bool->Shared->Prop),kCl x=true->Reads s.heap v x as->x.depth<=n->Q true s->wpAny (model prog w) A (eqIsQuiet n v) Q E s
 | .int _,n,_,_,s,Q,_,r,_,h=>by cases r;rw [VF n rfl];exact cu h
 | .str _,n,_,_,s,Q,_,r,_,h=>by cases r;rw [VF n rfl];exact cu h
 | .tuple xs,0,_,_,s,Q,c1,r,hn,h=>by simp [PyData.depth] at hn
 | .tuple xs,n+1,_,as,s,Q,c1,r,hn,h=>by
  cases r with
  | @tuple a o vs m _ _ e c q ra =>
   have hT:s.TypeIs (.ref a) "tuple":=⟨o,e,c⟩
   have hn:uw xs<=n:=by simpa [PyData.depth] using hn
   unfold eqIsQuiet;refine aq (wpAny_specialOf hT F.slot_tuple_eq.lookup ?_)
   show wpAny _ _ (isInstance (.ref a) (.type "tuple") >>= _) _ _ s;refine aq (wpAny_isInstance hT isSubtype_tuple_tuple ?_);simp only [RN,zy,if_false];refine aq (QS e q ?_);refine aq ?_;show wpAny _ _ (forIn vs _ _) _ _ s;rw [← SN];refine Ti xs n vs.toList as s _ (by simpa [kCl] using c1) ra hn ?_;exact cu h
 | .none,_,_,_,_,_,hk,_,_,_ | .bool _,_,_,_,_,_,hk,_,_,_ | .list _,_,_,_,_,_,hk,_,_,_ | .dict _,_,_,_,_,_,hk,_,_,_=>by simp [kCl] at hk
theorem Ti:∀ (xs:List PyData) (n:Nat) (vs:List Value) (as:List Addr) (s:Shared) (Q:Option Bool×Unit->Shared->Prop),Dl xs=true->ReadsAll s.heap vs xs as->uw xs<=n->Q (none,()) s ->
  wpAny (model prog w) A (forIn vs ((none,()):Option Bool×Unit) λy r=>do if !(← eqIsQuiet n y) then pure (ForInStep.done (some false,())) else pure (ForInStep.yield (none,()))) Q E s
 | [],_,_,_,s,Q,_,r,_,h=>by cases r;exact cu h
 | x::xs,n,_,_,s,Q,c1,r,hn,h=>by
  have c1:(kCl x&&Dl xs)=true:=by simpa [Dl] using c1
  rw [bf] at c1;simp only [uw] at hn;cases r with
  | @cons v vs _ _ as bs r1 r2 =>
   rw [QD];refine aq (aq (Wt x n v _ s _ c1.1 r1 (by omega) ?_));simp only [RN,zy,if_false];refine cu ?_;exact Ti xs n vs bs s Q c1.2 r2 (by omega) h
end
end
noncomputable instance:DecidableEq PyData:=λa b=>Classical.propDecidable (a=b)
noncomputable def IsK (h:Heap) (k:PyData) (a:Addr):Prop:=kCl k=true/\k.canLay0=true/\k.depth<=8/\∃ as,Reads h (.ref a) k as
noncomputable def Jl (prog:Program) (w:World):HeapKind prog w PyData where
 is:=IsK
 hash:=Tf w
 draws:=kDr
 room:=λA=>A.units+8 < cLine
 inj:=λx y=>by
  obtain ⟨c1,_,_,_,r1⟩:=x;obtain ⟨c2,_,_,_,r2⟩:=y;exact nQ _ _ _ _ _ c1 c2 r1 r2
 keeps:=λx ho hd hs=>by
  obtain ⟨c1,l1,d1,as,r1⟩:=x;exact ⟨c1,l1,d1,as,Ws ho hd hs _ _ _ c1 r1⟩
 pyHash:=λhu x h=>by
  obtain ⟨c1,l1,d1,as,r1⟩:=x;exact cY _ _ _ _ _ _ c1 r1 (by omega) h
 eqBool:=λ{A E s x y a b Q} hu hx hy h=>by
  obtain ⟨c1,l1,d1,as,r1⟩:=hx;obtain ⟨c2,l2,d2,bs,r2⟩:=hy;refine PySem.SeqAt.eqBoolOverData prog w A E s _ _ x y as bs Q r1 r2 l1 l2 (by omega) ?_;have e:lz x y=decide (x=y):=by
   by_cases z:x=y
   ·rw [decide_eq_true z,z];exact SeqAt.eqv_refl y l2
   ·rw [decide_eq_false z];cases q:lz x y with
    | false=>rfl
    | true=>exact absurd (nR x y c1 c2 q) z
  rw [e];exact h
 quiet:=λx h=>by
  obtain ⟨c1,l1,d1,as,r1⟩:=x;exact Wt _ _ _ _ _ _ c1 r1 d1 h
noncomputable abbrev Key:=Sum Int Str
noncomputable def Tj:Key->Value->Bool
 | .inl k,v=>Value.isInt k v
 | .inr x,v=>Value.isStrOf x v
noncomputable def Alm (w:World):Key->Int
 | .inl k=>hashInt k
 | .inr x=>hashStr w x
theorem Cu:∀ {k:Key}{v:Value},Tj k v=true->(∃ i t,k=Sum.inl i/\v=Value.int i t)\/(∃ x t,k=Sum.inr x/\v=Value.str x t)
 | .inl i,v,h=>by
  obtain ⟨t,e⟩:=Value.isInt_shape (k:=i) (v:=v) h;exact .inl ⟨i,t,rfl,e⟩
 | .inr x,v,h=>by
  obtain ⟨t,e⟩:=Value.isStrOf_shape (x:=x) (v:=v) h;exact .inr ⟨x,t,rfl,e⟩
theorem jB (i:Int) (t:Tok):Tj (.inl i) (.int i t)=true:=by simp [Tj,Value.isInt]
theorem jC (x:Str) (t:Tok):Tj (.inr x) (.str x t)=true:=by simp [Tj,Value.isStrOf]
theorem Adt (a b:Int):decide ((Sum.inl a:Key)=Sum.inl b)=(a==b):=by
 by_cases e:a=b
 ·subst e;simp
 ·have h:¬ (Sum.inl a:Key)=Sum.inl b:=λq=>e (Sum.inl.inj q)
  rw [decide_eq_false h];exact (beq_eq_false_iff_ne.mpr e).symm
theorem Adu (a b:Str):decide ((Sum.inr a:Key)=Sum.inr b)=decide (a=b):=by
 by_cases e:a=b
 ·subst e;simp
 ·have h:¬ (Sum.inr a:Key)=Sum.inr b:=λq=>e (Sum.inr.inj q)
  rw [decide_eq_false h,decide_eq_false e]
theorem Adv (a:Int) (b:Str):decide ((Sum.inl a:Key)=Sum.inr b)=false:=decide_eq_false (λq=>nomatch q)
theorem Adw (a:Str) (b:Int):decide ((Sum.inr a:Key)=Sum.inl b)=false:=decide_eq_false (λq=>nomatch q)
noncomputable def Df (prog:Program) (w:World):PySem.KeyKind prog w Key where
 is:=Tj
 hash:=Alm w
 inj:=λv a b ha hb=>by
  rcases Cu ha with ⟨i,t,rfl,rfl⟩|⟨x,t,rfl,rfl⟩
  ·rcases Cu hb with ⟨j,u,rfl,e⟩|⟨y,u,rfl,e⟩
   ·injection e with e1 _;rw [e1]
   ·exact nomatch e
  ·rcases Cu hb with ⟨j,u,rfl,e⟩|⟨y,u,rfl,e⟩
   ·exact nomatch e
   ·injection e with e1 _;rw [e1]
 byValue:=λk v h=>by
  rcases Cu h with ⟨i,t,rfl,rfl⟩ | ⟨x,t,rfl,rfl⟩ <;> rfl
 pyHash:=λhv h=>by
  rcases Cu hv with ⟨i,t,rfl,rfl⟩|⟨x,t,rfl,rfl⟩
  ·exact wpAny_pyHash_int h
  ·exact wpAny_pyHash_str h
 eqBool:=λhu hv h=>by
  rcases Cu hu with ⟨i,t,rfl,rfl⟩|⟨x,t,rfl,rfl⟩
  ·rcases Cu hv with ⟨j,u,rfl,rfl⟩|⟨y,u,rfl,rfl⟩
   ·rw [Adt] at h;exact wpAny_eqBool_int h
   ·rw [Adv] at h;exact SeqAt.EqAt.int_str i t y u _ _ _ _ h
  ·rcases Cu hv with ⟨j,u,rfl,rfl⟩|⟨y,u,rfl,rfl⟩
   ·rw [Adw] at h;exact SeqAt.EqAt.str_int x t j u _ _ _ _ h
   ·rw [Adu] at h;exact wpAny_eqBool_str h
 «strs»:=λk x t v h=>by
  rcases Cu h with ⟨i,u,rfl,e⟩|⟨y,u,rfl,e⟩
  ·exact nomatch e
  ·injection e with e1 _
   subst e1;cases v <;> rfl
theorem Wu (prog:Program) (w:World) (i:Int) (t:Tok):(Df prog w).is (.inl i) (.int i t)=true:=jB i t
theorem Wv (prog:Program) (w:World) (x:Str) (t:Tok):(Df prog w).is (.inr x) (.str x t)=true:=jC x t
inductive V where
 | non | bl (b:Bool) | int (i:Int) | str (x:Str) | byt (b:Array UInt8) | flt (b:UInt64) | ref (a:Addr) | ty (n:String)
 deriving DecidableEq
noncomputable def RelV:V->Value->Prop
 | .non,u=>u=Value.none
 | .bl b,u=>u=Value.bool b
 | .int i,u=>∃ t,u=Value.int i t
 | .str x,u=>∃ t,u=Value.str x t
 | .byt b,u=>∃ t,u=Value.bytes b t
 | .flt b,u=>∃ t,u=Value.float b t
 | .ref a,u=>u=Value.ref a
 | .ty n,u=>u=Value.type n
noncomputable abbrev Vals:List V->List Value->Prop:=Paired RelV
theorem Vals.length {xs:List V}{us:List Value}(r:Vals xs us):xs.length=us.length:=Paired.length r
theorem Vals.get:∀ {xs:List V}{us:List Value}{i:Nat}{x:V},Vals xs us->xs[i]?=some x->∃ u,us[i]?=some u/\RelV x u
 | _,_,_,_,.nil,e=>by simp at e
 | _,_,0,_,.cons r _,e=>by simp at e;subst e;exact ⟨_,rfl,r⟩
 | _,_,i+1,x,.cons _ t,e=>by
  obtain ⟨u,h1,h2⟩:=Vals.get (i:=i) (x:=x) t (by simpa using e);exact ⟨u,by simpa using h1,h2⟩
theorem Vals.set {x:V}{u:Value}(r:RelV x u):∀ {xs:List V}{us:List Value}(i:Nat),Vals xs us->Vals (xs.set i x) (us.set i u)
 | _,_,_,.nil=>.nil
 | _,_,0,.cons _ t=>.cons r t
 | _,_,i+1,.cons q t=>.cons q (Vals.set r i t)
theorem Vals.append:∀ {xs ys:List V}{us ws:List Value},Vals xs us->Vals ys ws->Vals (xs++ys) (us++ws)
 | _,_,_,_,.nil,s=>s
 | _,_,_,_,.cons r t,s=>.cons r (Vals.append t s)
theorem Vals.take:∀ {xs:List V}{us:List Value}(n:Nat),Vals xs us->Vals (xs.take n) (us.take n)
 | _,_,0,_=>.nil
 | _,_,_+1,.nil=>.nil
 | _,_,n+1,.cons r t=>.cons r (Vals.take n t)
theorem Vals.drop:∀ {xs:List V}{us:List Value}(n:Nat),Vals xs us->Vals (xs.drop n) (us.drop n)
 | _,_,0,r=>r
 | _,_,_+1,.nil=>.nil
 | _,_,n+1,.cons _ t=>Vals.drop n t
theorem Vals.none_of:∀ {xs:List V}{us:List Value}{i:Nat},Vals xs us->xs[i]?=none->us[i]?=none:=λ{xs us i} r e=>by
 have h1:=r.length;have h2:xs.length<=i:=nj.mp e;exact nj.mpr (by omega)
noncomputable def K5:Option V->Option Value->Prop
 | some v,some u=>RelV v u
 | none,none=>True
 | _,_=>False
noncomputable def KV {κ:Type}:List (κ×V)->List (κ×Value)->Prop:=Paired λ(p:κ×V) (q:κ×Value)=>p.1=q.1/\RelV p.2 q.2
noncomputable def kV:Key->V
 | .inl i=>.int i
 | .inr x=>.str x
inductive HO where
 | lst (xs:List V)
 | tup (xs:List V)
 | dK (kvs:List (Key×V)) | dT (kvs:List (List Key×V)) | dN (kvs:List (PyData×Addr×V))
 | set (S:Int->Bool) (n:Nat)
 | ins (C dx:Addr) (fs:List (Str×V))
 | own (x:Addr)
 | xd (fs:List (Str×V))
 | met (f x:Addr)
 | rng (lo hi:Int)
 | frz (o:Obj) (u:HO)
 | tbl (ps:Array Value)
 | ext (φ:Heap->Prop)
noncomputable abbrev Hp:=Addr->Option HO
noncomputable def upd (H:Hp) (a:Addr) (o:HO):Hp:=λb=>if b=a then some o else H b
theorem Bw {H:Hp}{a:Addr}{o:HO}:upd H a o a=some o:=by unfold upd;rw [if_pos rfl]
theorem Al {H:Hp}{a b:Addr}{o:HO}(h:b≠a):upd H a o b=H b:=by unfold upd;rw [if_neg h]
theorem yQ {H:Hp}{a:Addr}{o u:HO}:upd (upd H a o) a u=upd H a u:=by
 funext b;unfold upd;split <;> rfl
theorem Jm {H:Hp}{a b:Addr}{o u:HO}(h:H a=some o) (h':H b=some u) (d:o≠u):a≠b:=by
 intro e;subst e;rw [h] at h';exact d (Option.some.inj h')
theorem Bb {H:Hp}{a b:Addr}{o:HO}(h:H a=some o) (h':H b=none):a≠b:=by
 intro e;subst e;rw [h] at h';cases h'
section
variable (P:Program) (w:World)
noncomputable def O3 (h:Heap) (a:Addr) (its:Array Value):Prop:=∃ o,h.get? a=some o/\o.cls=.type "tuple"/\o.dict=none/\∃ n,o.data=.seq its n
theorem O3.to {h:Heap}{a:Addr}{its:Array Value}(x:O3 h a its):IsTup h a its:=let ⟨o,e,c,_,n,d⟩:=x;⟨o,e,c,n,d⟩
theorem O3.new (h:Heap) (its:Array Value):O3 (h.push { cls:=.type "tuple",data:=.seq its }) h.objs.size its:=⟨_,gq _ rfl,rfl,rfl,_,rfl⟩
noncomputable def Di (H:Hp) (h:Heap) (a:Addr):HO->Prop
 | .lst xs=>xs.length<=sizeLine/\∃ (its:List Value) (n:Nat),Vals xs its/\h.get? a=some { cls:=.type "list",data:=.seq its.toArray n }
 | .tup xs=>xs.length<=sizeLine/\∃ its:List Value,Vals xs its/\O3 h a its.toArray
 | .dK kvs=>kvs.length<=sizeLine/\(a==sysModules)=false/\∃ vs,KV kvs vs/\h.DictOf (Df P w) a vs
 | .dT kvs=>kvs.length<=sizeLine/\(a==sysModules)=false/\∃ xs:List (List Key×Addr×Value),
   Paired (λ(p:List Key×V) (q:List Key×Addr×Value)=>p.1=q.1/\H q.2.1=some (.tup (p.1.map kV))/\RelV p.2 q.2.2) kvs xs /\
   ∃ o es ep,h.get? a=some o/\o.ExactDict/\o.data=.dict es ep/\es.toList=xs.map (entryOfKey (tupleKind (Df P w)))/\(xs.map (·.1)).Nodup
 | .dN kvs=>kvs.length<=sizeLine/\(a==sysModules)=false/\∃ xs:List (PyData×Addr×Value),
   Paired (λ(p:PyData×Addr×V) (q:PyData×Addr×Value)=>p.1=q.1/\p.2.1=q.2.1/\RelV p.2.2 q.2.2) kvs xs /\
   ∃ o es ep,h.get? a=some o/\o.ExactDict/\o.data=.dict es ep/\es.toList=xs.map (entryOfKey (Jl P w))/\(xs.map (·.1)).Nodup
 | .set S n=>h.SetOf (intKind P w) a S n
 | .ins C dx fs=>H dx=some (.own a)/\fs.length<=1000/\dx≠a/\h.get? a=some (vy C dx) /\
   ∃ mA,h.Ns1 dx mA/\(∀ f,K5 (fs.lookup f) (mA f))/\SQ mA (fs.map (·.1))
 | .own _=>∃ o,h.get? a=some o
 | .xd fs=>∃ mA,h.Ns1 a mA/\∀ f,K5 (fs.lookup f) (mA f)
 | .rng lo hi=>∃ t u v,h.get? a=some { cls:=.type "range",data:=.fields #[.int lo t,.int hi u,.int 1 v] }
 | .frz o u=>h.get? a=some o/\Di H h a u
 | .tbl ps=>h.get? a=some { cls:=.none,data:=.fields ps }
 | .met f x=>h.get? a=some (JV (.ref f) (.ref x))
 | .ext φ=>φ h/\(∃ o,h.get? a=some o)/\∀ h1 h2:Heap,φ h1->(∀ o,h1.get? a=some o->h2.get? a=some o)->φ h2
noncomputable def HOk (H:Hp) (h:Heap):Prop:=∀ a o,H a=some o->Di P w H h a o
end
section
variable {P:Program}{w:World}{H H':Hp}{h h':Heap}{a:Addr}{o:HO}
theorem Di.lt (x:Di P w H h a o):a < h.objs.size:=by
 cases o with
 | lst xs=>obtain ⟨_,_,_,_,e⟩:=x;exact Heap.lt_size e
 | tup xs=>obtain ⟨_,_,_,p⟩:=x;exact p.to.lt
 | dK kvs=>obtain ⟨_,_,_,_,o,_,_,e,_⟩:=x;exact Heap.lt_size e
 | dT kvs=>obtain ⟨_,_,_,_,o,_,_,e,_⟩:=x;exact Heap.lt_size e
 | dN kvs=>obtain ⟨_,_,_,_,o,_,_,e,_⟩:=x;exact Heap.lt_size e
 | set S n=>obtain ⟨o,_,_,_,e,_⟩:=x;exact Heap.lt_size e
 | ins C dx fs=>obtain ⟨_,_,_,e,_⟩:=x;exact Heap.lt_size e
 | own y=>obtain ⟨_,e⟩:=x;exact Heap.lt_size e
 | xd fs=>obtain ⟨_,⟨_,_,_,e,_⟩,_⟩:=x;exact Heap.lt_size e
 | rng lo hi=>obtain ⟨_,_,_,e⟩:=x;exact Heap.lt_size e
 | frz ob u=>obtain ⟨e,_⟩:=x;exact Heap.lt_size e
 | tbl ps=>exact Heap.lt_size (show h.get? a=some _ from x)
 | met f y=>exact Heap.lt_size (show h.get? a=some _ from x)
 | ext φ=>obtain ⟨_,⟨_,e⟩,_⟩:=x;exact Heap.lt_size e
theorem Paired.mapP {α β:Type}{F G:α->β->Prop}:∀ {l₁:List α}{l₂:List β},Paired F l₁ l₂->(∀ a b,F a b->G a b)->Paired G l₁ l₂
 | _,_,.nil,_=>.nil
 | _,_,.cons r t,f=>.cons (f _ _ r) (Paired.mapP t f)
theorem Di.stay (x:Di P w H h a o) (k:∀ b u,(b=a\/H b=some (.own a))->h.get? b=some u->h'.get? b=some u)
  (ho:∀ b,H b=some (.own a)->H' b=some (.own a)) (ht:∀ b xs,H b=some (.tup xs)->H' b=some (.tup xs)):Di P w H' h' a o:=by
 induction o with
 | lst xs=>obtain ⟨z,its,n,r,e⟩:=x;exact ⟨z,its,n,r,k _ _ (.inl rfl) e⟩
 | tup xs=>obtain ⟨z,its,r,ob,e,c⟩:=x;exact ⟨z,its,r,ob,k _ _ (.inl rfl) e,c⟩
 | dK kvs=>obtain ⟨z,y,vs,r,ob,es,ep,e,c⟩:=x;exact ⟨z,y,vs,r,ob,es,ep,k _ _ (.inl rfl) e,c⟩
 | dT kvs =>
  obtain ⟨z,y,xs,r,ob,es,ep,e,c⟩:=x;exact ⟨z,y,xs,Paired.mapP r λp q z=>⟨z.1,ht _ _ z.2.1,z.2.2⟩,ob,es,ep,k _ _ (.inl rfl) e,c⟩
 | dN kvs=>obtain ⟨z,y,xs,r,ob,es,ep,e,c⟩:=x;exact ⟨z,y,xs,r,ob,es,ep,k _ _ (.inl rfl) e,c⟩
 | set S n=>obtain ⟨ob,es,ep,t,e,c⟩:=x;exact ⟨ob,es,ep,t,k _ _ (.inl rfl) e,c⟩
 | ins C dx fs =>
  obtain ⟨d,z,ne,e,mA,⟨od,es,ep,e2,c⟩,r⟩:=x;exact ⟨ho _ d,z,ne,k _ _ (.inl rfl) e,mA,⟨od,es,ep,k _ _ (.inr d) e2,c⟩,r⟩
 | own y=>obtain ⟨ob,e⟩:=x;exact ⟨ob,k _ _ (.inl rfl) e⟩
 | xd fs=>obtain ⟨mA,⟨od,es,ep,e,c⟩,r⟩:=x;exact ⟨mA,⟨od,es,ep,k _ _ (.inl rfl) e,c⟩,r⟩
 | rng lo hi=>obtain ⟨t,u,v,e⟩:=x;exact ⟨t,u,v,k _ _ (.inl rfl) e⟩
 | frz ob u ih=>obtain ⟨e,q⟩:=x;exact ⟨k _ _ (.inl rfl) e,ih q⟩
 | tbl ps =>
  have e:h.get? a=some { cls:=.none,data:=.fields ps }:=x;show h'.get? a=some { cls:=.none,data:=.fields ps };exact k a _ (.inl rfl) e
 | met f y =>
  have e:h.get? a=some (JV (.ref f) (.ref y)):=x;show h'.get? a=some (JV (.ref f) (.ref y));exact k a _ (.inl rfl) e
 | ext φ=>obtain ⟨p,⟨o,e⟩,st⟩:=x;exact ⟨st _ _ p λo q=>k _ _ (.inl rfl) q,⟨o,k _ _ (.inl rfl) e⟩,st⟩
theorem HOk.lt (x:HOk P w H h) (e:H a=some o):a < h.objs.size:=(x a o e).lt
theorem HOk.fresh (x:HOk P w H h) (e:h.objs.size<=a):H a=none:=by
 cases q:H a with
 | none=>rfl
 | some u=>exact absurd (fu (x.lt q) e) (mz _)
theorem HOk.kept (x:HOk P w H h) (k:∀ b u,h.get? b=some u->h'.get? b=some u):HOk P w H h':=λa o e =>
 (x a o e).stay (λb u _ q=>k b u q) (λ_ q=>q) λ_ _ q=>q
theorem HOk.laid (x:HOk P w H h) (k:∀ b u,h.get? b=some u->h'.get? b=some u) (hp:h.objs.size<=a) (new:Di P w (upd H a o) h' a o):HOk P w (upd H a o) h':=λb u e=>by
 have hn:=x.fresh hp
 by_cases hb:b=a
 ·subst hb;rw [Bw] at e;cases e;exact new
 ·rw [Al hb] at e;exact (x b u e).stay (λc v _ q=>k c v q) (λc q=>by rw [Al (Bb q hn)];exact q) λc xs q=>by rw [Al (Bb q hn)];exact q
end
noncomputable def Rd (H:Hp) (a:Addr) (u:HO):Prop:=H a=some u\/∃ o,H a=some (.frz o u)
theorem Rd.of {H:Hp}{a:Addr}{u:HO}(h:H a=some u):Rd H a u:=.inl h
theorem Rd.ok {P:Program}{w:World}{H:Hp}{h:Heap}{a:Addr}{u:HO}(r:Rd H a u) (x:HOk P w H h):Di P w H h a u:=by
 rcases r with r|⟨o,r⟩
 ·exact x a u r
 ·obtain ⟨_,q⟩:=x a _ r;exact q
noncomputable def Mut:Option HO->Prop
 | some (.lst _)=>True
 | some (.dK _)=>True
 | some (.dT _)=>True
 | some (.dN _)=>True
 | some (.set _ _)=>True
 | some (.ins _ _ _)=>True
 | some (.ext _)=>True
 | _=>False
section
variable {P:Program}{w:World}{H:Hp}{h h':Heap}{x e:Addr}{o':HO}
theorem HOk.write (ok:HOk P w H h) (mu:Mut (H x)) (he:e=x\/H e=some (.own x)) (k:∀ b u,b≠e->h.get? b=some u->h'.get? b=some u) (heo:∃ u,h'.get? e=some u)
  (new:Di P w (upd H x o') h' x o'):HOk P w (upd H x o') h':=λb u q=>by
 have nown:∀ c y,H c=some (.own y)->c≠x:=λc y r z=>by subst z;rw [r] at mu;exact mu
 have ntup:∀ c xs,H c=some (.tup xs)->c≠x:=λc xs r z=>by subst z;rw [r] at mu;exact mu
 by_cases hb:b=x
 ·subst hb;rw [Bw] at q;cases q;exact new
 ·rw [Al hb] at q
  by_cases hbe:b=e
  ·have q':H b=some (.own x):=by
    rcases he with z|z
    ·exact absurd (hbe.trans z) hb
    ·rw [hbe];exact z
   rw [q] at q';cases q';obtain ⟨v,hv⟩:=heo;exact ⟨v,by rw [hbe];exact hv⟩
  ·refine (ok b u q).stay (λc v hc r=>k c v ?_ r) (λc r=>by rw [Al (nown c b r)];exact r) λc xs r=>by rw [Al (ntup c xs r)];exact r
   rcases hc with rfl|hc
   ·exact hbe
   ·rintro rfl;rcases he with z|z
    ·exact nown c b hc z
    ·rw [hc] at z;cases z;exact hb rfl
end
structure Un (fs ex:List Addr) (H H':Hp) (h h':Heap):Prop where
 keep:∀ b o,h.get? b=some o->H b=none->b ∉ fs->b ∉ ex->h'.get? b=some o
 slot:∀ b o,h.get? b=some o->H b=none->b∈fs->b ∉ ex->∃ sl,h'.get? b=some { o with slots:=sl }
 free:∀ b o,h.get? b=some o->H b=none->b ∉ ex->H' b=none
 there:∀ b o,h.get? b=some o->b ∉ ex->∃ o',h'.get? b=some o'
 tups:∀ b xs,H b=some (.tup xs)->H' b=some (.tup xs)
 frzs:∀ b o u,H b=some (.frz o u)->H' b=some (.frz o u)
 tbls:∀ b ps,H b=some (.tbl ps)->∃ more,H' b=some (.tbl (ps++more))
section
variable {fs fs' ex ex':List Addr}{H H1 H2:Hp}{h h1 h2 h':Heap}{a x e:Addr}{o:HO}
theorem Un.any (u:Un fs ex H H1 h h1) {b:Addr}{ob:Obj}(q:h.get? b=some ob) (n:H b=none) (hx:b ∉ ex):∃ sl,h1.get? b=some { ob with slots:=sl }:=by
 by_cases hb:b∈fs
 ·exact u.slot b ob q n hb hx
 ·exact ⟨ob.slots,u.keep b ob q n hb hx⟩
theorem Un.kept (k:∀ b u,h.get? b=some u->h'.get? b=some u):Un fs ex H H h h' :=
 ⟨λb ob q _ _ _=>k b ob q,λb ob q _ _ _=>⟨ob.slots,k b ob q⟩,λ_ _ _ n _=>n,λb ob q _=>⟨ob,k b ob q⟩,λ_ _ q=>q,λ_ _ _ q=>q,λ_ ps q=>⟨#[],by rw [q];simp⟩⟩
theorem Un.refl:Un fs ex H H h h:=Un.kept λ_ _ q=>q
theorem Un.laid (k:∀ b u,h.get? b=some u->h'.get? b=some u) (hp:h.objs.size<=a) (hn:H a=none):Un fs ex H (upd H a o) h h' where
 keep:=λb u q _ _ _=>k b u q
 slot:=λb u q _ _ _=>⟨u.slots,k b u q⟩
 free:=λb u q n _=>by rw [Al (iz (fu (Heap.lt_size q) hp))];exact n
 there:=λb u q _=>⟨u,k b u q⟩
 tups:=λb xs q=>by rw [Al (Bb q hn)];exact q
 frzs:=λb u xs q=>by rw [Al (Bb q hn)];exact q
 tbls:=λb ps q=>⟨#[],by rw [Al (Bb q hn),q];simp⟩
theorem Un.write (mu:Mut (H x)) (he:e=x\/H e=some (.own x)) (k:∀ b u,b≠e->h.get? b=some u->h'.get? b=some u) (heo:∃ u,h'.get? e=some u):Un fs ex H (upd H x o) h h':=by
 have hx:∀ b,H b=none->b≠x:=λb n z=>by subst z;rw [n] at mu;exact mu
 have hb:∀ b,H b=none->b≠e:=λb n z=>by
  subst z;rcases he with r|r
  ·exact hx b n r
  ·rw [n] at r;cases r
 have hm:∀ b u,H b=some u->¬ Mut (some u)->b≠x:=λb u q nm z=>by subst z;rw [q] at mu;exact nm mu
 refine ⟨λb u q n _ _=>k b u (hb b n) q,λb u q n _ _=>⟨u.slots,k b u (hb b n) q⟩,λb u q n _=>by rw [Al (hx b n)];exact n,λb u q _=>?_,
  λb xs q=>by rw [Al (hm b _ q λz=>z)];exact q,λb u xs q=>by rw [Al (hm b _ q λz=>z)];exact q,λb ps q=>⟨#[],by rw [Al (hm b _ q λz=>z),q];simp⟩⟩
 by_cases hbe:b=e
 ·subst hbe;exact heo
 ·exact ⟨u,k b u hbe q⟩
end
noncomputable def trk (h:Heap) (H:Hp):List Addr:=(dm h.objs.size).filter λa=>(H a).isSome
noncomputable def U4 (h:Heap) (H:Hp):Heap:=PySem.W.hideAll h (trk h H)
theorem jD (h:Heap) (H:Hp):(U4 h H).objs.size=h.objs.size:=PySem.W.hideAll_size _ _
theorem nT {h:Heap}{H:Hp}{b:Addr}{o:Obj}(e:h.get? b=some o) (n:H b=none):(U4 h H).get? b=some o :=
 PySem.W.hideAll_get _ e λhm=>by
  have q:(H b).isSome=true:=(lq.mp hm).2;rw [n] at q;simp at q
theorem yR {h:Heap}{H:Hp}{b:Addr}{o:Obj}(e:(U4 h H).get? b=some o):h.get? b=some o/\H b=none:=by
 have e':h.get? b=some o:=PySem.W.of_hideAll (trk h H) e;refine ⟨e',?_⟩;cases q:H b with
 | none=>rfl
 | some x =>
  have hm:b∈trk h H:=lq.mpr ⟨ir.mpr (Heap.lt_size e'),by simp [q]⟩;have z:(U4 h H).get? b=none:=PySem.W.hideAll_none (trk h H) hm;rw [z] at e;cases e
structure Mod (K:aj) (mg:Str->Option Value) (base:Heap):Prop where
 kin:K.In base
 glob:base.Ns mainGlobals mg
 blt:∃ mb,base.Ns builtinsNs mb/\∀ x:Str,x ≠ "__name__"->mb x=bootBuiltins x
 nolimit:base.NoLimit
structure Cx where
 prog:Program
 w:World
 K:aj
 mg:Str->Option Value
 base:Heap
 A:Around
 N:List Str
 s₀:Shared
 H₀:Hp
 env:Env
 outer:List Env
 stack:List Env
 ex:List Addr
 fn:Str->Bool
 calm:Bool
 pn:List (Addr×Obj)
 xe:Value->Shared->Prop
noncomputable def frs (l:List Env):List Addr:=l.filterMap (·.frame)
noncomputable abbrev Cx.fs (X:Cx):List Addr:=frs X.outer
noncomputable def Vis (sc:Scope) (x:Str):Prop:=sc.names.lookup x=some .local\/sc.names.lookup x=some .cell\/sc.names.lookup x=some .free
noncomputable def Loc (sc:Scope) (x:Str):Prop:=sc.names.lookup x=some .local\/sc.names.lookup x=some .cell
noncomputable def Look (env:Env) (h:Heap) (m:Str->Option Value) (x:Str) (u:Value):Prop :=
 (env.kindOf x=some .local/\m x=some u)\/((env.kindOf x=some .cell\/env.kindOf x=some .free)/\∃ c,env.cells.lookup x=some c/\h.IsCell c (some u))
structure Cx.Ok (X:Cx):Prop where
 mod:Mod X.K X.mg X.base
 kind:X.env.scope.kind=.function
 glob:X.env.globals=mainGlobals
 blt:X.env.builtins=builtinsNs
 above:X.s₀.heap.objs.size<=X.env.locals
 inj:∀ x y c,X.env.cells.lookup x=some c->X.env.cells.lookup y=some c->x=y
 has:∀ x,(X.env.kindOf x=some .cell\/X.env.kindOf x=some .free)->∃ c,X.env.cells.lookup x=some c
 cab:∀ x c,X.fn x=true->X.env.cells.lookup x=some c->X.s₀.heap.objs.size<=c
 hd:X.calm=true->X.A.handled=none
 frames:X.A.frames=some X.stack
 stk:X.stack=X.outer\/(X.stack=X.env::X.outer/\X.env.frame=some X.env.locals)
 exf:∀ b∈X.ex,b≠X.env.locals/\∀ x c,X.env.cells.lookup x=some c->c≠b
 bs:∀ b o,X.base.get? b=some o->X.s₀.heap.get? b=some o/\X.H₀ b=none
 bsz:X.base.objs.size<=X.s₀.heap.objs.size
 noex:∀ b o,X.base.get? b=some o->b ∉ X.ex
 exfs:∀ b∈X.ex,b ∉ X.fs
 funs:X.s₀.heap.FunFrames X.base X.outer
 frf:∀ b∈X.fs,X.H₀ b=none
structure Inv (X:Cx) (pins:List (Addr×Obj)) (σ:List (Option V)) (H:Hp) (s:Shared):Prop where
 ok:X.Ok
 os:s.os=X.s₀.os
 bare:AllBare s.gens
 base:Un X.fs X.ex X.H₀ H X.s₀.heap s.heap
 loc:∃ m,s.heap.Ns X.env.locals m/\∀ (i:Nat) (x:Str) (v:V),X.N[i]?=some x->σ[i]?=some (some v)->Vis X.env.scope x->∃ u,RelV v u/\Look X.env s.heap m x u
 cell:∀ x c,X.env.cells.lookup x=some c->∃ v,s.heap.IsCell c v
 free:H X.env.locals=none
 freeC:∀ x c,X.env.cells.lookup x=some c->H c=none\/(X.fn x=false/\∃ o u,H c=some (.frz o u))
 pin:∀ p∈X.pn++pins,s.heap.get? p.1=some p.2/\H p.1=none/\p.1≠X.env.locals/\p.1 ∉ X.fs/\∀ v,p.2.data≠.cell v
 hok:HOk X.prog X.w H s.heap
 len:σ.length=X.N.length
section
variable {X:Cx}{pins:List (Addr×Obj)}{σ:List (Option V)}{H H':Hp}{s:Shared}{h':Heap}
theorem Cx.Ok.nofr (ok:X.Ok) {b:Addr}{o:Obj}(e:X.base.get? b=some o):b ∉ X.fs:=λhb=>by
 have:=(ok.funs.mem hb).1;rw [e] at this;cases this
theorem Inv.bs (I:Inv X pins σ H s):∀ b o,X.base.get? b=some o->s.heap.get? b=some o/\H b=none:=λb o e =>
 ⟨I.base.keep b o (I.ok.bs b o e).1 (I.ok.bs b o e).2 (I.ok.nofr e) (I.ok.noex b o e),I.base.free b o (I.ok.bs b o e).1 (I.ok.bs b o e).2 (I.ok.noex b o e)⟩
theorem Inv.bk (I:Inv X pins σ H s):∀ b o,X.base.get? b=some o->s.heap.get? b=some o:=λb o e=>(I.bs b o e).1
theorem Inv.mod (I:Inv X pins σ H s):Mod X.K X.mg X.base:=I.ok.mod
theorem Inv.kIn (I:Inv X pins σ H s):X.K.In s.heap:=I.ok.mod.kin.keeps I.bk
theorem Inv.lt (I:Inv X pins σ H s):X.env.locals < s.heap.objs.size:=let ⟨_,hn,_⟩:=I.loc;hn.lt
theorem Inv.sz (I:Inv X pins σ H s):X.s₀.heap.objs.size<=s.heap.objs.size:=dz I.ok.above (LK I.lt)
theorem Inv.nofs (I:Inv X pins σ H s) {a:Addr}(h:s.heap.objs.size<=a):a ∉ X.fs:=λhb=>by
 obtain ⟨_,o,ho,_⟩:=I.ok.funs.mem hb;exact absurd (fu (Heap.lt_size ho) (dz I.sz h)) (mz _)
theorem Inv.cne (I:Inv X pins σ H s):∀ x c,X.env.cells.lookup x=some c->c≠X.env.locals:=λx c e z=>by
 obtain ⟨v,o,ho,hd⟩:=I.cell x c e;obtain ⟨m,⟨o',es,ep,ho',hd',_⟩,_⟩:=I.loc;rw [z,ho'] at ho;cases ho;rw [hd'] at hd;cases hd
theorem Inv.funs (I:Inv X pins σ H s):s.heap.FunFrames X.base X.outer:=by
 have all:∀ (l:List Env),(∀ b∈frs l,b∈X.fs)->X.s₀.heap.FunFrames X.base l->s.heap.FunFrames X.base l:=by
  intro l
  induction l with
  | nil=>intro _ _;trivial
  | cons env r ih =>
   intro hs hl;obtain ⟨hk,⟨L,o,hf,hn,ho,hd⟩,hr⟩:=hl;have hL:L∈X.fs:=hs L (by unfold frs;rw [qt,hf];exact jb);obtain ⟨sl,e⟩:=I.base.slot L o ho (I.ok.frf L hL) hL λz=>I.ok.exfs L z hL
   exact ⟨hk,⟨L,_,hf,hn,e,hd⟩,ih (λb hb=>hs b (by unfold frs;rw [qt,hf];exact iw _ hb)) hr⟩
 exact all X.outer (λ_ hb=>hb) I.ok.funs
theorem Inv.stack (I:Inv X pins σ H s):s.heap.FunFrames X.base X.stack:=by
 rcases I.ok.stk with e|⟨e,hf⟩
 ·rw [e];exact I.funs
 ·rw [e];obtain ⟨m,hn,_⟩:=I.loc;refine .cons (by rw [I.ok.kind];decide) hf hn ?_ I.funs;exact Heap.get?_none_of_le (dz I.ok.bsz I.ok.above)
theorem Inv.stkSub (I:Inv X pins σ H s):∀ b∈frs X.stack,b∈X.env.locals::X.fs:=λb hb=>by
 rcases I.ok.stk with e|⟨e,hf⟩
 ·rw [e] at hb;exact iw _ hb
 ·rw [e] at hb;unfold frs at hb;rw [qt,hf] at hb;exact hb
theorem Inv.stkFree (I:Inv X pins σ H s):∀ b∈frs X.stack,H b=none:=λb hb=>by
 rcases gb.mp (I.stkSub b hb) with e|hb
 ·rw [e];exact I.free
 ·obtain ⟨_,o,ho,_⟩:=I.ok.funs.mem hb;exact I.base.free b o ho (I.ok.frf b hb) λz=>I.ok.exfs b z hb
theorem Inv.step {g':Array GenState}{t':Nat}{d':Drawn}{ch:List Addr}(I:Inv X pins σ H s)
  (hch:∀ b∈ch,(b∈X.ex\/X.s₀.heap.objs.size<=b)/\b≠X.env.locals/\(∀ x c,X.env.cells.lookup x=some c->c≠b)/\∀ p∈X.pn++pins,p.1≠b)
  (keep:∀ b o,b≠X.env.locals->b ∉ X.fs->b ∉ ch->s.heap.get? b=some o->H b=none->h'.get? b=some o)
  (slot:∀ b o,b≠X.env.locals->b∈X.fs->b ∉ ch->s.heap.get? b=some o->H b=none->∃ sl,h'.get? b=some { o with slots:=sl }) (free:∀ b o,b ∉ ch->s.heap.get? b=some o->H b=none->H' b=none)
  (there:∀ b o,b ∉ ch->s.heap.get? b=some o->∃ o',h'.get? b=some o')
  (tups:∀ b xs,H b=some (.tup xs)->H' b=some (.tup xs)) (frzs:∀ b o u,H b=some (.frz o u)->H' b=some (.frz o u)) (tbls:∀ b ps,H b=some (.tbl ps)->∃ more,H' b=some (.tbl (ps++more)))
  (ns:∀ m,s.heap.Ns X.env.locals m->h'.Ns X.env.locals m) (hok:HOk X.prog X.w H' h') (hg:AllBare g') :
  Inv X pins σ H' { s with heap:=h',gens:=g',drawn:=d',toks:=t' }:=by
 have neL:∀ b o,X.s₀.heap.get? b=some o->b≠X.env.locals:=λb o e=>iz (fu (Heap.lt_size e) I.ok.above)
 have neC:∀ b o,X.s₀.heap.get? b=some o->b ∉ X.ex->b ∉ ch:=λb o e hx hb=>by
  rcases (hch b hb).1 with z|z
  ·exact hx z
  ·exact absurd (fu (Heap.lt_size e) z) (mz _)
 have cellK:∀ x c,X.env.cells.lookup x=some c->∀ v,s.heap.IsCell c v->h'.IsCell c v:=by
  rintro x c e v ⟨o,ho,hd⟩;have nch:c ∉ ch:=λz=>(hch c z).2.2.1 x c e rfl
  rcases I.freeC x c e with fc|⟨_,oz,uz,fz⟩
  ·by_cases hc:c∈X.fs
   ·obtain ⟨sl,q⟩:=slot c o (I.cne x c e) hc nch ho fc;exact ⟨_,q,hd⟩
   ·exact ⟨o,keep c o (I.cne x c e) hc nch ho fc,hd⟩
  ·obtain ⟨e1,_⟩:=I.hok c _ fz;obtain ⟨e2,_⟩:=hok c _ (frzs c _ _ fz);rw [ho] at e1;cases e1;exact ⟨_,e2,hd⟩
 refine ⟨I.ok,I.os,hg,⟨λb o e n hb hx=>?_,λb o e n hb hx=>?_,λb o e n hx=>?_,λb o e hx=>?_,λb xs e=>tups b xs (I.base.tups b xs e),λb o xs e=>frzs b o xs (I.base.frzs b o xs e),λb ps e=>?_⟩,?_,λx c e=>?_,?_,λx c e=>?_,λp hp=>?_,hok,I.len⟩
 ·exact keep b o (neL b o e) hb (neC b o e hx) (I.base.keep b o e n hb hx) (I.base.free b o e n hx)
 ·obtain ⟨sl,e1⟩:=I.base.slot b o e n hb hx;obtain ⟨sl',e2⟩:=slot b _ (neL b o e) hb (neC b o e hx) e1 (I.base.free b o e n hx);exact ⟨sl',e2⟩
 ·obtain ⟨o',e1⟩:=I.base.there b o e hx;exact free b o' (neC b o e hx) e1 (I.base.free b o e n hx)
 ·obtain ⟨o',e1⟩:=I.base.there b o e hx;exact there b o' (neC b o e hx) e1
 ·obtain ⟨m1,e1⟩:=I.base.tbls b ps e;obtain ⟨m2,e2⟩:=tbls b _ e1;exact ⟨m1++m2,by rw [e2,Array.append_assoc]⟩
 ·obtain ⟨m,hn,hl⟩:=I.loc;refine ⟨m,ns m hn,λi x v e1 e2 e3=>?_⟩;obtain ⟨u,r,l⟩:=hl i x v e1 e2 e3;refine ⟨u,r,?_⟩;rcases l with l|⟨k,c,e,z⟩
  ·exact .inl l
  ·exact .inr ⟨k,c,e,cellK x c e _ z⟩
 ·obtain ⟨v,z⟩:=I.cell x c e;exact ⟨v,cellK x c e v z⟩
 ·obtain ⟨m,⟨o,_,_,ho,_⟩,_⟩:=I.loc;exact free _ o (λz=>(hch _ z).2.1 rfl) ho I.free
 ·obtain ⟨v,o,ho,hd⟩:=I.cell x c e;rcases I.freeC x c e with fc|⟨fx,oz,uz,fz⟩
  ·exact .inl (free c o (λz=>(hch c z).2.2.1 x c e rfl) ho fc)
  ·exact .inr ⟨fx,oz,uz,frzs c _ _ fz⟩
 ·obtain ⟨e,n,ne,nf,d⟩:=I.pin p hp;have nch:p.1 ∉ ch:=λz=>(hch p.1 z).2.2.2 p hp rfl
  exact ⟨keep p.1 p.2 ne nf nch e n,free p.1 p.2 nch e n,ne,nf,d⟩
theorem Inv.un {t':Nat}(I:Inv X pins σ H s) (u:Un X.fs [] H H' s.heap h') (hok:HOk X.prog X.w H' h'):Inv X pins σ H' { s with heap:=h',toks:=t' }:=by
 obtain ⟨m,⟨o,es,ep,ho,r⟩,_⟩:=id I.loc;obtain ⟨sl,hL⟩:=u.any ho I.free (by simp)
 exact I.step (g':=s.gens) (d':=s.drawn) (ch:=[]) (λ_ z=>nomatch z) (λb o _ hb _ e n=>u.keep b o e n hb (by simp)) (λb o _ hb _ e n=>u.slot b o e n hb (by simp)) (λb o _ e n=>u.free b o e n (by simp)) (λb o _ e=>u.there b o e (by simp)) u.tups u.frzs u.tbls (λm' hm=>by
  obtain ⟨o',es',ep',ho',r'⟩:=hm;rw [ho] at ho';cases ho'
  exact ⟨_,es',ep',hL,r'⟩) hok I.bare
theorem Inv.call {g':Array GenState}{t':Nat}{d':Drawn}{ch:List Addr}(I:Inv X pins σ H s) (u:Un (frs X.stack) ch H H' s.heap h') (hok:HOk X.prog X.w H' h') (hg:AllBare g')
  (hch:∀ b∈ch,(b∈X.ex\/X.s₀.heap.objs.size<=b)/\b≠X.env.locals/\(∀ x c,X.env.cells.lookup x=some c->c≠b)/\∀ p∈X.pn++pins,p.1≠b) :
  Inv X pins σ H' { s with heap:=h',gens:=g',drawn:=d',toks:=t' }:=by
 obtain ⟨m,⟨o,es,ep,ho,r⟩,_⟩:=id I.loc;obtain ⟨sl,hL⟩:=u.any ho I.free λz=>(hch _ z).2.1 rfl
 exact I.step (ch:=ch) hch (λb o hL hb hc e n=>u.keep b o e n (λz=>(gb.mp (I.stkSub b z)).elim hL hb) hc) (λb o _ _ hc e n=>u.any e n hc) (λb o hc e n=>u.free b o e n hc) (λb o hc e=>u.there b o e hc) u.tups u.frzs u.tbls (λm' hm=>by
  obtain ⟨o',es',ep',ho',r'⟩:=hm;rw [ho] at ho';cases ho'
  exact ⟨_,es',ep',hL,r'⟩) hok hg
theorem Inv.turned {t':Nat}{it:Addr}(I:Inv X pins σ H s) (k:∀ b o,b≠it->s.heap.get? b=some o->h'.get? b=some o) (hn:H it=none) (hL:it≠X.env.locals)
  (h1:it∈X.ex\/X.s₀.heap.objs.size<=it) (h2:∀ x c,X.env.cells.lookup x=some c->c≠it) (h3:∀ p∈X.pn++pins,p.1≠it):Inv X pins σ H { s with heap:=h',toks:=t' }:=by
 have nit:∀ b u,H b=some u->b≠it:=λb u e z=>by rw [z,hn] at e;cases e
 refine I.step (g':=s.gens) (d':=s.drawn) (ch:=[it]) (λb hb=>?_) (λb o _ _ hc e _=>k b o (λz=>hc (by simp [z])) e) (λb o _ _ hc e _=>⟨o.slots,k b o (λz=>hc (by simp [z])) e⟩) (λ_ _ _ _ n=>n)
  (λb o hc e=>⟨o,k b o (λz=>hc (by simp [z])) e⟩) (λ_ _ e=>e) (λ_ _ _ e=>e) (λb ps e=>⟨#[],by rw [e];simp⟩) (λm hm=>?_) (λb u e=>?_) I.bare
 ·have e:b=it:=by simpa using hb
  subst e;exact ⟨h1,hL,h2,h3⟩
 ·obtain ⟨o,es,ep,ho,r⟩:=hm;exact ⟨o,es,ep,k _ o (Ne.symm hL) ho,r⟩
 ·refine (I.hok b u e).stay (λc v hc q=>k c v ?_ q) (λ_ q=>q) λ_ _ q=>q
  rcases hc with z|z
  ·rw [z];exact nit b u e
  ·exact nit c _ z
theorem Inv.tok (I:Inv X pins σ H s) (t:Nat):Inv X pins σ H { s with toks:=t }:=I.un (h':=s.heap) (t':=t) Un.refl I.hok
theorem Inv.kept {t':Nat}(I:Inv X pins σ H s) (k:∀ b u,s.heap.get? b=some u->h'.get? b=some u):Inv X pins σ H { s with heap:=h',toks:=t' }:=I.un (Un.kept k) (I.hok.kept k)
theorem Inv.laid {a:Addr}{o:HO}{t':Nat}(I:Inv X pins σ H s) (k:∀ b u,s.heap.get? b=some u->h'.get? b=some u) (hp:s.heap.objs.size<=a) (new:Di X.prog X.w (upd H a o) h' a o) :
  Inv X pins σ (upd H a o) { s with heap:=h',toks:=t' }:=I.un (Un.laid k hp (I.hok.fresh hp)) (I.hok.laid k hp new)
theorem Inv.write {x e:Addr}{o:HO}{t':Nat}(I:Inv X pins σ H s) (mu:Mut (H x)) (he:e=x\/H e=some (.own x)) (k:∀ b u,b≠e->s.heap.get? b=some u->h'.get? b=some u) (heo:∃ u,h'.get? e=some u)
  (new:Di X.prog X.w (upd H x o) h' x o):Inv X pins σ (upd H x o) { s with heap:=h',toks:=t' }:=I.un (Un.write mu he k heo) (I.hok.write mu he k heo new)
theorem Inv.weak {σ':List (Option V)}(I:Inv X pins σ H s) (hl:σ'.length=σ.length) (w:∀ (i:Nat) v,σ'[i]?=some (some v)->σ[i]?=some (some v)):Inv X pins σ' H s :=
 ⟨I.ok,I.os,I.bare,I.base,let ⟨m,hn,hl'⟩:=I.loc;⟨m,hn,λi x v e1 e2 e3=>hl' i x v e1 (w i v e2) e3⟩,I.cell,I.free,I.freeC,I.pin,I.hok,hl.trans I.len⟩
theorem Inv.pins_of {pins':List (Addr×Obj)}(I:Inv X pins σ H s) (h:∀ p∈pins',s.heap.get? p.1=some p.2/\H p.1=none/\p.1≠X.env.locals/\p.1 ∉ X.fs/\∀ v,p.2.data≠.cell v):Inv X pins' σ H s :=
 ⟨I.ok,I.os,I.bare,I.base,I.loc,I.cell,I.free,I.freeC,λp hp=>(jm.mp hp).elim (λz=>I.pin p (qy _ z)) (h p),I.hok,I.len⟩
theorem Ww {N:List Str}(hN:N.Nodup) {i j:Nat}{x:Str}(a:N[i]?=some x) (b:N[j]?=some x):i=j:=by
 obtain ⟨h1,e1⟩:=cg.mp a;obtain ⟨h2,e2⟩:=cg.mp b;exact (List.getElem_inj hN).mp (e1.trans e2.symm)
theorem jE {M:Model}{A:Around}{E:Value->Shared->Prop}{i:Nat}{x:Str}{v:V}{u:Value}{Q:Unit->Shared->Prop}(I:Inv X pins σ H s) (hN:X.N.Nodup) (hi:X.N[i]?=some x) (hx:Loc X.env.scope x) (r:RelV v u)
  (h:∀ s',Inv X pins (σ.set i (some v)) H s'->(∃ a,vd a s.heap s'.heap/\(a=X.env.locals\/X.env.cells.lookup x=some a))->Q () s') (hf:X.fn x=true\/X.env.scope.names.lookup x=some .local:=by first | exact .inl rfl | exact .inr rfl | assumption):wpAny M A (storeName X.env x u) Q E s:=by
 obtain ⟨m,hn,hl⟩:=id I.loc;have hcls:(X.env.scope.kind==.class || (X.env.scope.kind==.module&&X.env.locals != X.env.globals))=false:=by rw [I.ok.kind];rfl
 have hiσ:i < σ.length:=by rw [I.len];exact (cg.mp hi).1
 have cne:=I.cne;have tracked:∀ {a:Addr} {h':Heap},(∃ o,s.heap.get? a=some o/\H a=none)->vd a s.heap h'->HOk X.prog X.w H h':=λ{a h'} ha hs b ob e=>by
  obtain ⟨_,_,hfree⟩:=ha;refine (I.hok b ob e).stay (λc w' hc q=>(hs.2 c ?_).trans q) (λ_ q=>q) λ_ _ q=>q
  rintro rfl;rcases hc with rfl|hc
  ·rw [hfree] at e;cases e
  ·rw [hfree] at hc;cases hc
 rcases hx with hk|hk
 ·refine wpAny_storeName_local hk hn (λh' hn' hs=>?_) hcls;obtain ⟨oL,_,_,hoL,_⟩:=id hn;refine h _ ⟨I.ok,I.os,I.bare,⟨λb o e n hb hx=>?_,λb o e n hb hx=>?_,I.base.free,λb o e hx=>?_,I.base.tups,I.base.frzs,I.base.tbls⟩,⟨_,hn',λj y v' e1 e2 e3=>?_⟩,λy c e=>?_,I.free,I.freeC,λp hp=>?_,tracked ⟨oL,hoL,I.free⟩ hs,by simpa using I.len⟩ ⟨_,hs,.inl rfl⟩
  ·exact (hs.2 b (iz (fu (Heap.lt_size e) I.ok.above))).trans (I.base.keep b o e n hb hx)
  ·obtain ⟨sl,e1⟩:=I.base.slot b o e n hb hx;exact ⟨sl,(hs.2 b (iz (fu (Heap.lt_size e) I.ok.above))).trans e1⟩
  ·obtain ⟨o',e1⟩:=I.base.there b o e hx;exact ⟨o',(hs.2 b (iz (fu (Heap.lt_size e) I.ok.above))).trans e1⟩
  ·by_cases hj:j=i
   ·subst hj;rw [hi] at e1;cases e1;rw [nq hiσ] at e2;cases e2;exact ⟨u,r,.inl ⟨hk,by simp⟩⟩
   ·rw [iy (Ne.symm hj)] at e2;obtain ⟨u',r',q⟩:=hl j y v' e1 e2 e3;refine ⟨u',r',?_⟩;rcases q with ⟨k,e⟩|⟨k,c,e,z⟩
    ·refine .inl ⟨k,?_⟩;have:y≠x:=λe=>hj (Ww hN e1 (e ▸ hi))
     simp [this,e]
    ·exact .inr ⟨k,c,e,z.sameBut hs (cne y c e)⟩
  ·obtain ⟨w',z⟩:=I.cell y c e;exact ⟨w',z.sameBut hs (cne y c e)⟩
  ·obtain ⟨e,n,ne,nf,d⟩:=I.pin p hp;exact ⟨(hs.2 p.1 ne).trans e,n,ne,nf,d⟩
 ·have hfn:X.fn x=true:=by
   rcases hf with z|z
   ·exact z
   ·rw [z] at hk;cases hk
  obtain ⟨c,hc⟩:=I.ok.has x (.inl hk);obtain ⟨w',z⟩:=I.cell x c hc;refine wpAny_storeName_cell I.ok.kind hk hc z (λh' hc' hs=>?_);obtain ⟨oc,hoc,hocd⟩:=id z;refine h { s with heap:=h' } ⟨I.ok,I.os,I.bare,⟨λb o e n hb hx=>?_,λb o e n hb hx=>?_,I.base.free,λb o e hx=>?_,I.base.tups,I.base.frzs,I.base.tbls⟩,⟨m,hn.sameBut hs (Ne.symm (cne x c hc)),λj y v' e1 e2 e3=>?_⟩,λy c' e=>?_,I.free,I.freeC,λp hp=>?_,tracked ⟨oc,hoc,(I.freeC x c hc).resolve_right λz=>by rw [hfn] at z;cases z.1⟩ hs,by simpa using I.len⟩ ⟨c,hs,.inr hc⟩
  ·exact (hs.2 b (iz (fu (Heap.lt_size e) (I.ok.cab x c hfn hc)))).trans (I.base.keep b o e n hb hx)
  ·obtain ⟨sl,e1⟩:=I.base.slot b o e n hb hx;exact ⟨sl,(hs.2 b (iz (fu (Heap.lt_size e) (I.ok.cab x c hfn hc)))).trans e1⟩
  ·obtain ⟨o',e1⟩:=I.base.there b o e hx;exact ⟨o',(hs.2 b (iz (fu (Heap.lt_size e) (I.ok.cab x c hfn hc)))).trans e1⟩
  ·by_cases hj:j=i
   ·subst hj;rw [hi] at e1;cases e1;rw [nq hiσ] at e2;cases e2;exact ⟨u,r,.inr ⟨.inl hk,c,hc,hc'⟩⟩
   ·rw [iy (Ne.symm hj)] at e2;obtain ⟨u',r',q⟩:=hl j y v' e1 e2 e3;refine ⟨u',r',?_⟩;rcases q with q|⟨k,c',e,z'⟩
    ·exact .inl q
    ·refine .inr ⟨k,c',e,z'.sameBut hs ?_⟩;rintro rfl;exact hj (Ww hN e1 (I.ok.inj _ _ _ e hc ▸ hi))
  ·by_cases hcc:c'=c
   ·subst hcc;exact ⟨_,hc'⟩
   ·obtain ⟨w2,z2⟩:=I.cell y c' e;exact ⟨w2,z2.sameBut hs hcc⟩
  ·obtain ⟨e,n,ne,nf,d⟩:=I.pin p hp;refine ⟨(hs.2 p.1 ?_).trans e,n,ne,nf,d⟩;intro q;rw [q,hoc] at e;have q':oc=p.2:=Option.some.inj e;exact d w' (by rw [← q'];exact hocd)
theorem Qj {M:Model}{A:Around}{E:Value->Shared->Prop}{i:Nat}{x:Str}{v:V}{u:Value}{Q:Unit->Shared->Prop}(I:Inv X pins σ H s) (hN:X.N.Nodup) (hi:X.N[i]?=some x) (hx:Loc X.env.scope x) (r:RelV v u)
  (h:∀ s',Inv X pins (σ.set i (some v)) H s'->Q () s') (hf:X.fn x=true\/X.env.scope.names.lookup x=some .local:=by first | exact .inl rfl | exact .inr rfl | assumption):wpAny M A (storeName X.env x u) Q E s :=
 jE I hN hi hx r (λs' I' _=>h s' I') hf
theorem Inv.call' {s':Shared}{ch:List Addr}(I:Inv X pins σ H s) (ho:s'.os=s.os) (u:Un (frs X.stack) ch H H' s.heap s'.heap) (hok:HOk X.prog X.w H' s'.heap) (hg:AllBare s'.gens)
  (hch:∀ b∈ch,(b∈X.ex\/X.s₀.heap.objs.size<=b)/\b≠X.env.locals/\(∀ x c,X.env.cells.lookup x=some c->c≠b)/\∀ p∈X.pn++pins,p.1≠b):Inv X pins σ H' s':=by
 obtain ⟨h',g',d',t',o'⟩:=s';have e:o'=s.os:=ho;subst e;exact I.call (g':=g') (t':=t') (d':=d') u hok hg hch
end
noncomputable abbrev XK:=Value->Option Addr->Hp->Prop
noncomputable abbrev St:=List (Option V)
noncomputable abbrev VK:=V->Hp->Prop
noncomputable abbrev TE:=St->Hp->VK->Prop
noncomputable abbrev TT:=St->Hp->(Bool->Hp->Prop)->Prop
noncomputable abbrev TA:=St->Hp->(List V->Hp->Prop)->Prop
structure Ends where
 nx:St->Hp->Prop
 rt:VK
 bk:St->Hp->Prop:=λ_ _=>False
 ct:St->Hp->Prop:=λ_ _=>False
noncomputable abbrev TS:=Ends->St->Hp->Prop
noncomputable def EP (X:Cx) (pins:List (Addr×Obj)) (σ:St) (Q:VK) (u:Value) (s':Shared):Prop:=∃ v H',Inv X pins σ H' s'/\RelV v u/\Q v H'
noncomputable def TP (X:Cx) (pins:List (Addr×Obj)) (σ:St) (Q:Bool->Hp->Prop) (b:Bool) (s':Shared):Prop:=∃ H',Inv X pins σ H' s'/\Q b H'
noncomputable def AP (X:Cx) (pins:List (Addr×Obj)) (σ:St) (Q:List V->Hp->Prop) (us:List Value) (s':Shared):Prop:=∃ vs H',Inv X pins σ H' s'/\Vals vs us/\Q vs H'
noncomputable def SP (X:Cx) (pins:List (Addr×Obj)) (D:Ends) (f:Flow) (s':Shared):Prop :=
 match f with
 | .next=>∃ σ' H',Inv X pins σ' H' s'/\D.nx σ' H'
 | .brk=>∃ σ' H',Inv X pins σ' H' s'/\D.bk σ' H'
 | .cont=>∃ σ' H',Inv X pins σ' H' s'/\D.ct σ' H'
 | .ret u=>∃ v σ' H',Inv X pins σ' H' s'/\RelV v u/\D.rt v H'
noncomputable def PE (X:Cx) (e:Expr) (t:TE):Prop :=
 ∀ (pins:List (Addr×Obj)) (s:Shared) (σ:St) (H:Hp) (Q:VK),Inv X pins σ H s->t σ H Q->wpAny (model X.prog X.w) X.A (eval e X.env) (EP X pins σ Q) X.xe s
noncomputable def PT (X:Cx) (e:Expr) (t:TT):Prop :=
 ∀ (pins:List (Addr×Obj)) (s:Shared) (σ:St) (H:Hp) (Q:Bool->Hp->Prop),Inv X pins σ H s->t σ H Q->wpAny (model X.prog X.w) X.A (isTrue e X.env (eval e X.env)) (TP X pins σ Q) X.xe s
noncomputable def PW (X:Cx) (e:Expr) (t:TT):Prop :=
 ∀ (whole:Sem Value) (pins:List (Addr×Obj)) (s:Shared) (σ:St) (H:Hp) (Q:Bool->Hp->Prop),Inv X pins σ H s->t σ H Q->wpAny (model X.prog X.w) X.A (isTrue e X.env whole) (TP X pins σ Q) X.xe s
theorem PW.pt {X:Cx}{e:Expr}{t:TT}(h:PW X e t):PT X e t:=h _
noncomputable def PA (X:Cx) (es:List Expr) (t:TA):Prop :=
 ∀ (pos:Pos) (pins:List (Addr×Obj)) (s:Shared) (σ:St) (H:Hp) (Q:List V->Hp->Prop),Inv X pins σ H s->t σ H Q->wpAny (model X.prog X.w) X.A (spliced (backTo pos (starEach es X.env))) (AP X pins σ Q) X.xe s
noncomputable def PS (X:Cx) (st:Stmt) (t:TS):Prop :=
 ∀ (pins:List (Addr×Obj)) (s:Shared) (σ:St) (H:Hp) (D:Ends),Inv X pins σ H s->t D σ H->wpAny (model X.prog X.w) X.A (exec st X.env) (SP X pins D) X.xe s
noncomputable def PSs (X:Cx) (st:List Stmt) (t:TS):Prop :=
 ∀ (pins:List (Addr×Obj)) (s:Shared) (σ:St) (H:Hp) (D:Ends),Inv X pins σ H s->t D σ H->wpAny (model X.prog X.w) X.A (execs st X.env) (SP X pins D) X.xe s
theorem thn {α:Type}{t:Sem α}{Q Q':α->Shared->Prop}{M:Model}{A:Around}{E:Value->Shared->Prop}{s:Shared}(h:wpAny M A t Q E s) (hQ:∀ a s,Q a s->Q' a s):wpAny M A t Q' E s:=yt h hQ λ_ _ x=>x
section
variable {X:Cx}
noncomputable def Aln (i:Nat):TE:=λσ H Q=>∃ v,σ[i]?=some (some v)/\Q v H
noncomputable def tC (v:V):TE:=λ_ H Q=>Q v H
theorem Zx {i:Nat}{x:Str}{pos:Pos}(hN:X.N[i]?=some x) (hv:Vis X.env.scope x) (hd:(x==("__debug__":Str))=false:=by decide) (hcd:(x==("__classdict__":Str))=false:=by decide):PE X (.Name x pos) (Aln i):=by
 intro pins s σ H Q I h;obtain ⟨v,e,h⟩:=h;obtain ⟨m,hn,hl⟩:=I.loc;obtain ⟨u,r,l⟩:=hl i x v hN e hv;have fin:EP X pins σ Q u s:=⟨v,H,I,r,h⟩;rcases l with ⟨hk,hm⟩|⟨hk,c,hc,hcell⟩
 ·exact WT (wpAny_loadName_local I.ok.kind hk hn hm fin) hd
 ·rcases hk with hk|hk
  ·exact WT (wpAny_loadName_cell I.ok.kind hk hc hcell fin) hd
  ·exact WT (wpAny_loadName_free I.ok.kind hk hc hcell fin hcd) hd
theorem Adx {i j pos}:PE X (.Constant (.int i) j pos) (tC (.int i)):=λ_ _ _ H _ I h=>wpAny_Constant_int ⟨.int i,H,I.tok _,⟨_,rfl⟩,h⟩
theorem Ai4 {b j pos}:PE X (.Constant (.bool b) j pos) (tC (.bl b)):=λ_ _ _ H _ I h=>Constant_bool ⟨.bl b,H,I,rfl,h⟩
theorem Ady {j pos}:PE X (.Constant .none j pos) (tC .non):=λ_ _ _ H _ I h=>Constant_none ⟨.non,H,I,rfl,h⟩
theorem Adz {x j pos}:PE X (.Constant (.str x) j pos) (tC (.str x)):=λ_ _ _ H _ I h=>Calls.Constant_str ⟨.str x,H,I.tok _,⟨_,rfl⟩,h⟩
noncomputable def Gl (X:Cx) (x:Str):Prop:=X.env.kindOf x=some .globalImplicit
theorem Pa {E:Value->Shared->Prop}{pins:List (Addr×Obj)}{s:Shared}{σ:St}{H:Hp}{x:Str}{u:Value}{pos:Pos}{Q:Value->Shared->Prop}(I:Inv X pins σ H s) (hg:Gl X x) (hm:X.mg x=some u) (h:Q u s)
  (hd:(x==("__debug__":Str))=false:=by decide):wpAny (model X.prog X.w) X.A (eval (.Name x pos) X.env) Q E s :=
 JL I.ok.kind hg (Calls.loadGlobal_global (by rw [I.ok.glob];exact I.mod.glob.keeps I.bk) hm h) hd
theorem Qk {E:Value->Shared->Prop}{pins:List (Addr×Obj)}{s:Shared}{σ:St}{H:Hp}{x:Str}{u:Value}{pos:Pos}{Q:Value->Shared->Prop}(I:Inv X pins σ H s) (hg:Gl X x) (hm:X.mg x=none) (hv:bootBuiltins x=some u) (h:Q u s)
  (hn:x ≠ "__name__":=by decide) (hd:(x==("__debug__":Str))=false:=by decide):wpAny (model X.prog X.w) X.A (eval (.Name x pos) X.env) Q E s:=by
 obtain ⟨mb,h1,h2⟩:=I.mod.blt;exact JL I.ok.kind hg (Calls.loadGlobal_builtin (by rw [I.ok.glob];exact I.mod.glob.keeps I.bk) hm (by rw [I.ok.blt];exact h1.keeps I.bk) ((h2 x hn).trans hv) h) hd
theorem yS {x:Str}{v:V}{u:Value}{pos:Pos}(hg:Gl X x) (hm:X.mg x=some u) (r:RelV v u) (hd:(x==("__debug__":Str))=false:=by decide):PE X (.Name x pos) (tC v) :=
 λ_ _ _ H _ I h=>Pa I hg hm ⟨v,H,I,r,h⟩ hd
theorem yU {x:Str}{v:V}{u:Value}{pos:Pos}(hg:Gl X x) (hm:X.mg x=none) (hv:bootBuiltins x=some u) (r:RelV v u) (hn:x ≠ "__name__":=by decide) (hd:(x==("__debug__":Str))=false:=by decide):PE X (.Name x pos) (tC v) :=
 λ_ _ _ H _ I h=>Qk I hg hm hv ⟨v,H,I,r,h⟩ hn hd
variable {a b:Expr}{ta tb:TE}{pos:Pos}
theorem RelV.none_iff {x:V}{v:Value}(r:RelV x v):(v==Value.none)=decide (x=.non):=by
 cases x with
 | non=>cases r;rfl
 | bl _=>cases r;rfl
 | int _=>obtain ⟨t,rfl⟩:=r;rfl
 | str _=>obtain ⟨t,rfl⟩:=r;rfl
 | byt _=>obtain ⟨t,rfl⟩:=r;rfl
 | flt _=>obtain ⟨t,rfl⟩:=r;rfl
 | ref _=>cases r;rfl
 | ty _=>cases r;rfl
variable {tA tB':TT}{rest:List Expr}
noncomputable def Alo (t u:TT):TT:=λσ H Q=>t σ H λc H1=>if c=true then u σ H1 Q else Q false H1
noncomputable def tOr (t u:TT):TT:=λσ H Q=>t σ H λc H1=>if c=true then Q true H1 else u σ H1 Q
noncomputable def Alp (t:TT):TT:=λσ H Q=>t σ H λc H1=>Q (!c) H1
theorem yV (ha:PT X a tA):PW X (.BoolOp .And [a] pos) tA:=by
 intro wh pins s σ H Q I h;refine isTrue_and (thn (ha pins s σ H Q I h) λc s1 e=>?_);cases c with
 | true=>exact isTrue_and_nil e
 | false=>exact e
theorem Ad0 (ha:PT X a tA):PW X (.BoolOp .Or [a] pos) tA:=by
 intro wh pins s σ H Q I h;refine isTrue_or (thn (ha pins s σ H Q I h) λc s1 e=>?_);cases c with
 | false=>exact isTrue_or_nil e
 | true=>exact e
theorem Ad1 (ha:PT X a tA) (hb:PW X (.BoolOp .And (b::rest) pos) tB'):PW X (.BoolOp .And (a::b::rest) pos) (Alo tA tB'):=by
 intro wh pins s σ H Q I h;refine isTrue_and (thn (ha pins s σ H _ I h) ?_);rintro c s1 ⟨H1,I1,q1⟩;cases c with
 | true=>exact hb wh pins s1 σ H1 Q I1 q1
 | false=>exact ⟨H1,I1,q1⟩
theorem Ai5 (ha:PT X a tA) (hb:PW X (.BoolOp .Or (b::rest) pos) tB'):PW X (.BoolOp .Or (a::b::rest) pos) (tOr tA tB'):=by
 intro wh pins s σ H Q I h;refine isTrue_or (thn (ha pins s σ H _ I h) ?_);rintro c s1 ⟨H1,I1,q1⟩;cases c with
 | true=>exact ⟨H1,I1,q1⟩
 | false=>exact hb wh pins s1 σ H1 Q I1 q1
theorem Ad2 (ha:PT X a tA):PT X (.UnaryOp .Not a pos) (Alp tA):=by
 intro pins s σ H Q I h;exact isTrue_not (ha pins s σ H (λc H1=>Q (!c) H1) I h)
noncomputable def Ai6 (ta tb:TE):TE:=λσ H Q=>ta σ H λx H1=>∃ c,x=.bl c/\if c=true then tb σ H1 Q else Q (.bl false) H1
noncomputable def Alq (ta tb:TE):TE:=λσ H Q=>ta σ H λx H1=>∃ c,x=.bl c/\if c=true then Q (.bl true) H1 else tb σ H1 Q
noncomputable def Ai7 (ta:TE):TE:=λσ H Q=>ta σ H λx H1=>∃ c,x=.bl c/\Q (.bl (!c)) H1
theorem Ad3 {op}{t:TE}(h:PE X a t):PE X (.BoolOp op [a] pos) t:=λpins s σ H Q I hw=>BoolOp_one (h pins s σ H Q I hw)
theorem Ad4 (ha:PE X a ta) (hb:PE X (.BoolOp .And (b::rest) pos) tb):PE X (.BoolOp .And (a::b::rest) pos) (Ai6 ta tb):=by
 intro pins s σ H Q I h;refine BoolOp_and (thn (ha pins s σ H _ I h) ?_);rintro v s1 ⟨x,H1,I1,r1,q1⟩;obtain ⟨c,rfl,q1⟩:=q1;cases r1;refine sy ?_;cases c with
 | true=>exact hb pins s1 σ H1 Q I1 q1
 | false=>exact ⟨.bl false,H1,I1,rfl,q1⟩
theorem Ai8 (ha:PE X a ta) (hb:PE X (.BoolOp .Or (b::rest) pos) tb):PE X (.BoolOp .Or (a::b::rest) pos) (Alq ta tb):=by
 intro pins s σ H Q I h;refine BoolOp_or (thn (ha pins s σ H _ I h) ?_);rintro v s1 ⟨x,H1,I1,r1,q1⟩;obtain ⟨c,rfl,q1⟩:=q1;cases r1;refine sy ?_;cases c with
 | false=>exact hb pins s1 σ H1 Q I1 q1
 | true=>exact ⟨.bl true,H1,I1,rfl,q1⟩
theorem Ad5 (ha:PE X a ta):PE X (.UnaryOp .Not a pos) (Ai7 ta):=by
 intro pins s σ H Q I h;refine UnaryOp_ (thn (ha pins s σ H _ I h) ?_);rintro v s1 ⟨x,H1,I1,r1,q1⟩;obtain ⟨c,rfl,q1⟩:=q1;cases r1;exact not_of (sy ⟨.bl (!c),H1,I1,rfl,q1⟩)
noncomputable def tIf (t:TT) (ta tb:TE):TE:=λσ H Q=>t σ H λc H1=>if c=true then ta σ H1 Q else tb σ H1 Q
theorem nU {c:Expr}(hc:PT X c tA) (ha:PE X a ta) (hb:PE X b tb):PE X (.IfExp c a b pos) (tIf tA ta tb):=by
 intro pins s σ H Q I h;refine wpAny_IfExp (thn (hc pins s σ H _ I h) ?_);rintro d s1 ⟨H1,I1,q1⟩;cases d with
 | true=>exact ha pins s1 σ H1 Q I1 q1
 | false=>exact hb pins s1 σ H1 Q I1 q1
end
noncomputable def SqL (K:aj) (H:Hp) (a:Addr) (xs:List V):Prop :=
 Rd H a (.lst xs) \/
  ∃ (o:Obj) (its:Array Value) (n:Nat),K.lookup a=some o/\o.cls=.type "list"/\o.dict=none/\o.data=.seq its n/\its.size<=sizeLine/\Vals xs its.toList
noncomputable def SqT (K:aj) (H:Hp) (a:Addr) (xs:List V):Prop :=
 Rd H a (.tup xs) \/
  ∃ (o:Obj) (its:Array Value) (n:Nat),K.lookup a=some o/\o.cls=.type "tuple"/\o.dict=none/\o.data=.seq its n/\its.size<=sizeLine/\Vals xs its.toList
noncomputable def Alr:Value->Option V
 | .none=>some .non
 | .bool b=>some (.bl b)
 | .int i _=>some (.int i)
 | .str x _=>some (.str x)
 | .bytes b _=>some (.byt b)
 | .float b _=>some (.flt b)
 | .ref a=>some (.ref a)
 | .type n=>some (.ty n)
 | _=>none
theorem RelV.abs {x:V}{u:Value}(r:RelV x u):Alr u=some x:=by
 cases x with
 | non=>cases r;rfl
 | bl _=>cases r;rfl
 | int _=>obtain ⟨t,rfl⟩:=r;rfl
 | str _=>obtain ⟨t,rfl⟩:=r;rfl
 | byt _=>obtain ⟨t,rfl⟩:=r;rfl
 | flt _=>obtain ⟨t,rfl⟩:=r;rfl
 | ref _=>cases r;rfl
 | ty _=>cases r;rfl
theorem RelV.inj {x y:V}{u:Value}(r:RelV x u) (q:RelV y u):x=y:=Option.some.inj (r.abs.symm.trans q.abs)
theorem Vals.inj {xs ys:List V}{us:List Value}(a:Vals xs us) (b:Vals ys us):xs=ys:=by
 induction a generalizing ys with
 | nil=>cases b;rfl
 | cons r t ih =>
  cases b with
  | cons r' t'=>rw [r.inj r',ih t']
section
variable {X:Cx}{pins:List (Addr×Obj)}{σ:St}{H:Hp}{s:Shared}{a:Addr}{xs ys:List V}
theorem Inv.list (I:Inv X pins σ H s) (h:SqL X.K H a xs):∃ its:List Value,Vals xs its/\PlainL s.heap a its.toArray/\xs.length<=sizeLine:=by
 rcases h with h|⟨o,its,n,hk,hc,hd,hs,hz,r⟩
 ·obtain ⟨z,its,n,r,e⟩:=h.ok I.hok;exact ⟨its,r,⟨_,n,e,rfl,rfl,rfl⟩,z⟩
 ·refine ⟨its.toList,r,⟨o,n,I.kIn a o hk,hc,hd,by simpa using hs⟩,?_⟩;have e:=r.length;simp only [mq] at e;omega
theorem Inv.tuple (I:Inv X pins σ H s) (h:SqT X.K H a xs):∃ its:List Value,Vals xs its/\IsTup s.heap a its.toArray/\xs.length<=sizeLine:=by
 rcases h with h|⟨o,its,n,hk,hc,hd,hs,hz,r⟩
 ·obtain ⟨z,its,r,p⟩:=h.ok I.hok;exact ⟨its,r,p.to,z⟩
 ·refine ⟨its.toList,r,⟨o,I.kIn a o hk,hc,n,by simpa using hs⟩,?_⟩;have e:=r.length;simp only [mq] at e;omega
theorem Inv.tupleP (I:Inv X pins σ H s) (h:SqT X.K H a xs):∃ its:List Value,Vals xs its/\O3 s.heap a its.toArray/\xs.length<=sizeLine:=by
 rcases h with h|⟨o,its,n,hk,hc,hd,hs,hz,r⟩
 ·obtain ⟨z,its,r,p⟩:=h.ok I.hok;exact ⟨its,r,p,z⟩
 ·refine ⟨its.toList,r,⟨o,I.kIn a o hk,hc,hd,n,by simpa using hs⟩,?_⟩;have e:=r.length;simp only [mq] at e;omega
theorem Inv.list_inj (I:Inv X pins σ H s) (h:SqL X.K H a xs) (h':SqL X.K H a ys):xs=ys:=by
 obtain ⟨its,r,⟨o,n,e,_,_,d⟩,_⟩:=I.list h;obtain ⟨its',r',⟨o',n',e',_,_,d'⟩,_⟩:=I.list h';rw [e] at e';cases e';rw [d] at d';injection d' with d1 _
 have:its=its':=by simpa using congrArg Array.toList d1
 subst this;exact r.inj r'
theorem Inv.tuple_inj (I:Inv X pins σ H s) (h:SqT X.K H a xs) (h':SqT X.K H a ys):xs=ys:=by
 obtain ⟨its,r,⟨o,e,_,n,d⟩,_⟩:=I.tuple h;obtain ⟨its',r',⟨o',e',_,n',d'⟩,_⟩:=I.tuple h';rw [e] at e';cases e';rw [d] at d';injection d' with d1 _
 have:its=its':=by simpa using congrArg Array.toList d1
 subst this;exact r.inj r'
end
noncomputable abbrev Cx.wish (X:Cx) (E:Value->Shared->Prop):Cx:={ X with xe:=E }
noncomputable abbrev Cx.nox (X:Cx):Cx:=X.wish λ_ _=>False
theorem Cx.Ok.wish {X:Cx}(ok:X.Ok) (E:Value->Shared->Prop):(X.wish E).Ok :=
 ⟨ok.mod,ok.kind,ok.glob,ok.blt,ok.above,ok.inj,ok.has,ok.cab,ok.hd,ok.frames,ok.stk,ok.exf,ok.bs,ok.bsz,ok.noex,ok.exfs,ok.funs,ok.frf⟩
theorem Cx.Ok.unwish {X:Cx}{E:Value->Shared->Prop}(ok:(X.wish E).Ok):X.Ok :=
 ⟨ok.mod,ok.kind,ok.glob,ok.blt,ok.above,ok.inj,ok.has,ok.cab,ok.hd,ok.frames,ok.stk,ok.exf,ok.bs,ok.bsz,ok.noex,ok.exfs,ok.funs,ok.frf⟩
section
variable {X:Cx}{pins:List (Addr×Obj)}{σ:St}{H:Hp}{s:Shared}{E:Value->Shared->Prop}
theorem Inv.wish (I:Inv X pins σ H s) (E:Value->Shared->Prop):Inv (X.wish E) pins σ H s:=⟨I.ok.wish E,I.os,I.bare,I.base,I.loc,I.cell,I.free,I.freeC,I.pin,I.hok,I.len⟩
theorem Inv.unwish (I:Inv (X.wish E) pins σ H s):Inv X pins σ H s:=⟨I.ok.unwish,I.os,I.bare,I.base,I.loc,I.cell,I.free,I.freeC,I.pin,I.hok,I.len⟩
theorem SP.unwish {D:Ends}{f:Flow}{s':Shared}(h:SP (X.wish E) pins D f s'):SP X pins D f s':=by
 cases f with
 | next=>obtain ⟨σ',H',I,q⟩:=h;exact ⟨σ',H',I.unwish,q⟩
 | brk=>obtain ⟨σ',H',I,q⟩:=h;exact ⟨σ',H',I.unwish,q⟩
 | cont=>obtain ⟨σ',H',I,q⟩:=h;exact ⟨σ',H',I.unwish,q⟩
 | ret u=>obtain ⟨v,σ',H',I,r,q⟩:=h;exact ⟨v,σ',H',I.unwish,r,q⟩
theorem PSs.nox {st:List Stmt}{t:TS}(h:PSs X.nox st t):PSs X st t:=λpins s σ H D I hw =>
 yt (h pins s σ H D (I.wish _) hw) (λ_ _ q=>q.unwish) λ_ _ z=>False.elim z
end
section
variable {X:Cx}{st:Stmt}{rest:List Stmt}{t u:TS}{e:Expr}{te:TE}{pos:Pos}
noncomputable def Ac2:TS:=λD σ H=>D.nx σ H
noncomputable def Als (t u:TS):TS:=λD σ H=>t { D with nx:=u D } σ H
theorem yW:PSs X [] Ac2:=λ_ _ σ H _ I h=>QF ⟨σ,H,I,h⟩
theorem nW (h1:PS X st t) (h2:PSs X rest u):PSs X (st::rest) (Als t u):=by
 intro pins s σ H D I h;refine wpAny_execs_cons (thn (h1 pins s σ H { D with nx:=u D } I h) λf s1 q=>?_);cases f with
 | next =>
  obtain ⟨σ',H',I',q⟩:=q;exact h2 pins s1 σ' H' D I' q
 | ret v=>exact q
 | brk=>exact q
 | cont=>exact q
theorem yX (h1:PS X st t):PSs X [st] t:=by
 intro pins s σ H D I h;refine wpAny_execs_cons (thn (h1 pins s σ H D I h) λf s1 q=>?_);cases f with
 | next=>exact QF q
 | ret v=>exact q
 | brk=>exact q
 | cont=>exact q
noncomputable def Ad6:TS:=λD σ H=>D.bk σ H
noncomputable def Ai9:TS:=λD σ H=>D.ct σ H
theorem yZ:PS X (.Pass pos) Ac2:=λ_ _ σ H _ I h=>wpAny_Pass ⟨σ,H,I,h⟩
theorem nY:PS X (.Break pos) Ad6:=λ_ _ σ H _ I h=>wpAny_Break ⟨σ,H,I,h⟩
theorem Wx:PS X (.Continue pos) Ai9:=λ_ _ σ H _ I h=>wpAny_Continue ⟨σ,H,I,h⟩
theorem Inv.quiet {pins:List (Addr×Obj)}{σ:St}{H:Hp}{s:Shared}(I:Inv X pins σ H s):interactive X.env=false:=by simp [interactive,I.ok.kind]
noncomputable def Aja (te:TE):TS:=λD σ H=>te σ H λ_ H1=>D.nx σ H1
theorem zA (he:PE X e te) (hs:swapsWith e none pos.line X.env=pure false:=by rfl):PS X (.Expr e pos) (Aja te):=by
 intro pins s σ H D I h;exact wpAny_Expr_any (thn (he pins s σ H _ I h) λv s1 ⟨x,H1,I1,r1,q1⟩=>⟨σ,H1,I1,q1⟩) I.quiet hs
noncomputable def Alu (te:TE):TS:=λD σ H=>te σ H D.rt
theorem Ad7 (he:PE X e te):PS X (.Return (some e) pos) (Alu te):=by
 intro pins s σ H D I h;refine wpAny_Return_some (thn (he pins s σ H _ I h) ?_);rintro v s1 ⟨x,H1,I1,r1,q1⟩;exact ⟨x,σ,H1,I1,r1,q1⟩
noncomputable def Ajb:TS:=λD _ H=>D.rt .non H
theorem zB:PS X (.Return none pos) Ajb:=λ_ _ σ H _ I h=>wpAny_Return_none ⟨.non,σ,H,I,rfl,h⟩
noncomputable def Alv (c:TT) (t u:TS):TS:=λD σ H=>c σ H λb H1=>if b=true then t D σ H1 else u D σ H1
theorem Ajc {c:Expr}{a b:List Stmt}{tc:TT}(hc:PT X c tc) (ha:PSs X a t) (hb:PSs X b u):PS X (.If c a b pos) (Alv tc t u):=by
 intro pins s σ H D I h;refine wpAny_If (thn (hc pins s σ H _ I h) ?_);rintro d s1 ⟨H1,I1,q1⟩;cases d with
 | true=>exact ha pins s1 σ H1 D I1 q1
 | false=>exact hb pins s1 σ H1 D I1 q1
end
noncomputable abbrev TG:=V->St->Hp->(St->Hp->Prop)->Prop
noncomputable abbrev TGs:=List V->St->Hp->(St->Hp->Prop)->Prop
noncomputable def PG (X:Cx) (target:Expr) (t:TG):Prop :=
 ∀ (pins:List (Addr×Obj)) (s:Shared) (σ:St) (H:Hp) (v:V) (u:Value) (Q:St->Hp->Prop),Inv X pins σ H s->RelV v u->t v σ H Q ->
  wpAny (model X.prog X.w) X.A (assign target X.env u) (λ_ s'=>∃ σ' H',Inv X pins σ' H' s'/\Q σ' H') X.xe s
noncomputable def PGs (X:Cx) (ts:List Expr) (t:TGs):Prop :=
 ∀ (pins:List (Addr×Obj)) (s:Shared) (σ:St) (H:Hp) (vs:List V) (us:List Value) (Q:St->Hp->Prop),Inv X pins σ H s->Vals vs us->t vs σ H Q ->
  wpAny (model X.prog X.w) X.A (assignInOrder ((assignEach ts X.env).map (·.2)) us) (λ_ s'=>∃ σ' H',Inv X pins σ' H' s'/\Q σ' H') X.xe s
noncomputable abbrev Ad8:=V->V->V->Hp->(Hp->Prop)->Prop
noncomputable def Ajd (X:Cx) (t:Ad8):Prop :=
 ∀ (pins:List (Addr×Obj)) (s:Shared) (σ:St) (H:Hp) (o i v:V) (ov iv u:Value) (Q:Hp->Prop),Inv X pins σ H s->RelV o ov->RelV i iv->RelV v u->t o i v H Q ->
  wpAny (model X.prog X.w) X.A (setItem ov iv u) (λ_ s'=>∃ H',Inv X pins σ H' s'/\Q H') X.xe s
section
variable {X:Cx}{pos:Pos}
noncomputable def nZ (i:Nat):TG:=λv σ H Q=>Q (σ.set i (some v)) H
theorem dF {i:Nat}{x:Str}(hN:X.N.Nodup) (hi:X.N[i]?=some x) (hx:Loc X.env.scope x) (hf:X.fn x=true\/X.env.scope.names.lookup x=some .local:=by first | exact .inl rfl | exact .inr rfl | assumption):PG X (.Name x pos) (nZ i):=by
 intro pins s σ H v u Q I r h;exact wpAny_assign_Name (Qj I hN hi hx r (λs' I'=>⟨_,H,I',h⟩) hf)
noncomputable def Aje:TGs:=λvs σ H Q=>vs=[]/\Q σ H
noncomputable def Ac3 (t:TG) (u:TGs):TGs:=λvs σ H Q=>∃ v r,vs=v::r/\t v σ H λσ' H'=>u r σ' H' Q
theorem zE:PGs X [] Aje:=by
 intro pins s σ H vs us Q I r h;obtain ⟨e,h⟩:=h;subst e;cases r;exact VG ⟨σ,H,I,h⟩
theorem oA {e:Expr}{es:List Expr}{t:TG}{u:TGs}(h1:PG X e t) (h2:PGs X es u)
  (hs:(assignEach (e::es) X.env).map (·.2)=assign e X.env::(assignEach es X.env).map (·.2):=by rfl):PGs X (e::es) (Ac3 t u):=by
 intro pins s σ H vs us Q I r h;obtain ⟨v,vr,e1,h⟩:=h;subst e1;cases r with
 | cons r rr =>
  rw [hs];refine JB (thn (h1 pins s σ H _ _ _ I r h) ?_);rintro _ s1 ⟨σ1,H1,I1,q1⟩;exact h2 pins s1 σ1 H1 _ _ Q I1 rr q1
noncomputable def Alw (K:aj) (n:Nat) (t:TGs):TG:=λv σ H Q=>∃ a xs,v=.ref a/\SqT K H a xs/\xs.length=n/\t xs σ H Q
theorem Ad9 {es:List Expr}{k:Nat}{t:TGs}{n:Nat}(hc:X.calm=true) (h:PGs X es t)
  (hn:(assignEach es X.env).length=n:=by rfl) (hst:(assignEach es X.env).findIdx? (·.1)=none:=by rfl):PG X (.Tuple es k pos) (Alw X.K n t):=by
 intro pins s σ H v u Q I r hw;obtain ⟨a,xs,e1,hq,hl,hw⟩:=hw;subst e1;cases r;obtain ⟨its,rv,ht,hz⟩:=I.tuple hq;refine assign_Tuple_tuple (I.ok.hd hc) ht (by simp [hn,← hl,rv.length]) hst λh' hx=>?_
 have I1:Inv X pins σ H { s with heap:=h' }:=I.kept (t':=s.toks) λb o e=>hx b o (iz (Heap.lt_size e)) e
 exact h pins _ σ H xs _ Q I1 (by simpa using rv) hw
noncomputable def Alx (to ti:TE) (t:Ad8):TG:=λv σ H Q=>to σ H λo H1=>ti σ H1 λi H2=>t o i v H2 λH3=>Q σ H3
theorem Aea {o i:Expr}{to ti:TE}{t:Ad8}(ho:PE X o to) (hi:PE X i ti) (hs:Ajd X t)
  (ha:∀ v,assign (.Subscript o i pos) X.env v=(do
   let ov ← holding [v] (eval o X.env)
   let iv ← holding [v,ov] (eval i X.env)
   standAt pos
   holding [v,ov,iv] (setItem ov iv v)
   release [v,ov,iv] []):=by intro _;rfl):PG X (.Subscript o i pos) (Alx to ti t):=by
 intro pins s σ H v u Q I r h;rw [ha];refine aq (wu (thn (ho pins s σ H _ I h) ?_));rintro ov s1 ⟨x,H1,I1,r1,q1⟩;refine aq (wu (thn (hi pins s1 σ H1 _ I1 q1) ?_));rintro iv s2 ⟨y,H2,I2,r2,q2⟩;refine aq (JM (aq (wu (thn (hs pins s2 σ H2 x y v ov iv u _ I2 r1 r2 r q2) ?_))));rintro _ s3 ⟨H3,I3,q3⟩;exact wpAny_release ⟨σ,H3,I3,q3⟩
noncomputable def Aeb (te:TE) (g:TG):TS:=λD σ H=>te σ H λx H1=>g x σ H1 D.nx
theorem Aec {tg e:Expr}{te:TE}{g:TG}(he:PE X e te) (hg:PG X tg g) (hs:swapsWithSole [tg] e pos.line X.env=pure false:=by rfl) (hw:swappedStores [tg] e X.env=pure none:=by rfl)
  (h1:(assignEach [tg] X.env).map (·.2)=[assign tg X.env]:=by rfl):PS X (.Assign [tg] e pos) (Aeb te g):=by
 intro pins s σ H D I h;refine wpAny_Assign_stores (thn (he pins s σ H _ I h) ?_) hs hw;rintro v s1 ⟨x,H1,I1,r1,q1⟩;rw [h1];exact thn (hg pins s1 σ H1 x v _ I1 r1 q1) λ_ s2 q=>q
noncomputable def Aly (i j:Nat) (ta:TA):TS:=λD σ H=>ta σ H λvs H1=>∃ v w,vs=[v,w]/\D.nx ((σ.set i (some v)).set j (some w)) H1
theorem Aed {i j:Nat}{x y:Str}{a b:Expr}{ta:TA}{px py pt:Pos}{kt k2 pt2}(hc:X.calm=true) (hN:X.N.Nodup) (hi:X.N[i]?=some x) (hj:X.N[j]?=some y) (hij:i≠j)
  (hx:X.env.scope.names.lookup x=some .local) (hy:X.env.scope.names.lookup y=some .local) (ha:PA X [a,b] ta)
  (hw:swappedStores [.Tuple [.Name x px,.Name y py] kt pt] (.Tuple [a,b] k2 pt2) X.env=pure (some [x,y]))
  (hs:swapsWithSole [.Tuple [.Name x px,.Name y py] kt pt] (.Tuple [a,b] k2 pt2) pos.line X.env=pure false:=by rfl) :
  PS X (.Assign [.Tuple [.Name x px,.Name y py] kt pt] (.Tuple [a,b] k2 pt2) pos) (Aly i j ta):=by
 intro pins s σ H D I h;rw [exec_Assign_arm];refine aq (JM ?_);rw [hs];refine aq (cu ?_);rw [if_neg (by decide)];refine aq (Tuple_ (thn (ha _ pins s σ H _ I h) ?_));rintro us s1 ⟨vs,H1,I1,r1,q1⟩;obtain ⟨v,w,e1,q1⟩:=q1;subst e1;obtain ⟨u1,u2,rfl,rv,rw'⟩:∃ u1 u2,us=[u1,u2]/\RelV v u1/\RelV w u2:=by
  cases r1 with
  | cons p q =>
   cases q with
   | cons p' q' =>
    cases q';exact ⟨_,_,rfl,p,p'⟩
 refine qw ?_ (by show 2<=sizeLine;decide)
 have I2:Inv X pins σ H1 { s1 with heap:=s1.heap.push { cls:=.type "tuple",data:=.seq [u1,u2].toArray } }:=I1.kept (t':=s1.toks) λb o e=>bw _ e
 rw [hw];refine aq (cu ?_)
 show wpAny (model X.prog X.w) X.A (do rule "assign.swapped-stores";let items ← unpackItems (.ref s1.heap.objs.size) 2 none;assignInOrder [λv=>bindName X.env y v,λv=>bindName X.env x v] items.reverse;pure Flow.next) _ _ _;refine aq (KR (aq (unpackItems_tuple (items:=#[u1,u2]) (I.ok.hd hc) (IsTup.new s1.heap _) λh' hx'=>?_)));have I3:=I2.kept (h':=h') (t':=s1.toks) λb o e=>hx' b o (iz (Heap.lt_size e)) e
 show wpAny _ _ (assignInOrder [λv=>bindName X.env y v,λv=>bindName X.env x v] [u2,u1] >>= λ_=>pure Flow.next) _ _ _;refine aq (JB (wpAny_bindName (Qj I3 hN hj (.inl hy) rw' (λs2 I4=>?_) (.inr hy))));refine JB (wpAny_bindName (Qj I4 hN hi (.inl hx) rv (λs3 I5=>VG (cu ?_)) (.inr hx)));rw [List.set_comm _ _ (Ne.symm hij)] at I5;exact ⟨_,H1,I5,q1⟩
end
section
variable {X:Cx}{pos:Pos}
end
structure It where
 go:Nat->Hp->Prop
 yld:Nat->Hp->V->Hp->Prop
 stop:Nat->Hp->Prop
noncomputable def Lj (X:Cx) (pins:List (Addr×Obj)) (H:Hp) (b:Addr):Prop :=
 H b=none/\b≠X.env.locals/\b ∉ X.fs/\(b∈X.ex\/X.s₀.heap.objs.size<=b)/\(∀ x c,X.env.cells.lookup x=some c->c≠b)/\∀ p∈X.pn++pins,p.1≠b
theorem Inv.fpOk {X:Cx}{pins:List (Addr×Obj)}{σ:St}{H H':Hp}{s:Shared}{b:Addr}(I:Inv X pins σ H s) (hb:s.heap.objs.size<=b) (hn:H' b=none):Lj X pins H' b:=by
 refine ⟨hn,BX (fu I.lt hb),I.nofs hb,.inr (dz I.sz hb),λx c e z=>?_,λp hp z=>?_⟩
 ·obtain ⟨v,q⟩:=I.cell x c e;exact absurd (fu q.lt (by rw [z];exact hb)) (mz _)
 ·exact absurd (fu (Heap.lt_size (I.pin p hp).1) (by rw [z];exact hb)) (mz _)
structure Turn (P:Program) (w:World) (K:aj) (tg:Expr) (J:It) (fp:List Addr) (it:Addr) (tn:Nat->Heap->Prop):Prop where
 mem:it∈fp
 obj:∀ i h,tn i h->∀ b∈fp,∃ o,h.get? b=some o/\∀ v,o.data≠.cell v
 keep:∀ i h h',tn i h->(∀ b∈fp,∀ o,h.get? b=some o->h'.get? b=some o)->tn i h'
 item:∀ (X:Cx),X.prog=P->X.w=w->X.K=K->X.calm=true->∀ (i:Nat) (pins:List (Addr×Obj)) (s:Shared) (σ:St) (H:Hp) (E:Value->Shared->Prop),Inv X pins σ H s->(∀ b∈fp,Lj X pins H b)->tn i s.heap->J.go i H ->
  wpAny (model P w) X.A (pyNext (.ref it)) (λr s1=>∃ u,r=some u /\
   wpAny (model P w) X.A (letOwnedTupleGo tg (.ref it) u) (λ_ s2=>∃ x H',Inv X pins σ H' s2/\RelV x u/\J.yld i H x H'/\tn (i+1) s2.heap/\∀ b∈fp,H' b=none) E s1) E s
 done:∀ (X:Cx),X.prog=P->X.w=w->X.K=K->X.calm=true->∀ (i:Nat) (pins:List (Addr×Obj)) (s:Shared) (σ:St) (H:Hp) (E:Value->Shared->Prop),Inv X pins σ H s->(∀ b∈fp,Lj X pins H b)->tn i s.heap->J.stop i H ->
  wpAny (model P w) X.A (pyNext (.ref it)) (λr s1=>r=none/\Inv X pins σ H s1) E s
 self:∀ (A:Around) (i:Nat) (s:Shared) (Q:Value->Shared->Prop) (E:Value->Shared->Prop),tn i s.heap->Q (.ref it) s->wpAny (model P w) A (pyIter (.ref it)) Q E s
noncomputable abbrev TI:=St->Hp->(It->Hp->Prop)->Prop
noncomputable def PIE (X:Cx) (pins:List (Addr×Obj)) (σ:St) (tg:Expr) (R:It->Hp->Prop) (itv:Value) (s2:Shared):Prop :=
 ∃ (it:Addr) (fp:List Addr) (tn:Nat->Heap->Prop) (J:It) (H':Hp),itv=.ref it/\Inv X pins σ H' s2/\Turn X.prog X.w X.K tg J fp it tn/\tn 0 s2.heap/\(∀ b∈fp,Lj X pins H' b)/\R J H'
noncomputable def PI (X:Cx) (tg iter:Expr) (wi:TI):Prop :=
 ∀ (pins:List (Addr×Obj)) (s:Shared) (σ:St) (H:Hp) (R:It->Hp->Prop),Inv X pins σ H s->wi σ H R ->
  wpAny (model X.prog X.w) X.A (eval iter X.env) (λv s1=>wpAny (model X.prog X.w) X.A (pyIter v) (PIE X pins σ tg R) X.xe s1) X.xe s
theorem oE {M:Model}{A:Around}{E:Value->Shared->Prop}{s:Shared}{tg:Expr}{it:Addr}{u:Value}{o:Obj}{n:String}{vs:Array Value}{Q:Unit->Shared->Prop}(ho:s.heap.get? it=some o) (hc:o.cls=.type n) (hd:o.data=.fields vs)
    (hn:["enumerate", "zip", "dict_itemiterator", "dict_reverseitemiterator", "odict_iterator", "itertools.zip_longest", "itertools.pairwise"].contains n=false) (hQ:Q () s):wpAny M A (letOwnedTupleGo tg (.ref it) u) Q E s:=by
  unfold letOwnedTupleGo;cases tg <;> first
    | exact cu hQ
    | (cases u <;> first
        | exact cu hQ
        | (refine aq (wpAny_load ho ?_)
           rw [hc,hd]
           show wpAny M A (if (["enumerate", "zip", "dict_itemiterator", "dict_reverseitemiterator", "odict_iterator", "itertools.zip_longest", "itertools.pairwise"].contains n&&vs[0]?==some (rawInt _))=true then _ else _) Q E s;rw [if_neg (by intro h;rw [hn,HX] at h;cases h)]
           exact cu hQ))
noncomputable def Itl (K:aj) (a:Addr):It :=
 ⟨λi H=>∃ xs x,SqL K H a xs/\xs[i]?=some x,λi H x H'=>H'=H/\∀ xs,SqL K H a xs->xs[i]?=some x,λi H=>∃ xs,SqL K H a xs/\xs.length<=i⟩
noncomputable def Itt (K:aj) (a:Addr):It :=
 ⟨λi H=>∃ xs x,SqT K H a xs/\xs[i]?=some x,λi H x H'=>H'=H/\∀ xs,SqT K H a xs->xs[i]?=some x,λi H=>∃ xs,SqT K H a xs/\xs.length<=i⟩
noncomputable def Itr (lo:Int) (n:Nat):It:=⟨λi _=>i < n,λi H x H'=>H'=H/\x=.int (lo+i),λi _=>n<=i⟩
theorem jF {P:Program}{w:World}{K:aj}{tg:Expr}(a it:Addr):Turn P w K tg (Itl K a) [it] it (λi h=>h.IsListIter it a i) where
 mem:=by simp
 obj:=λi h st b hb=>by
  have e:b=it:=by simpa using hb
  subst e;obtain ⟨o,e,c,d⟩:=st;exact ⟨o,e,λv z=>by rw [d] at z;cases z⟩
 keep:=λi h h' st k=>st.at λo e=>k it (by simp) o e
 item:=by
  intro X hP hw hK hc i pins s σ H E I hf st hg;subst hP hw hK;obtain ⟨xs,x,hq,hx⟩:=hg;obtain ⟨its,rv,p,hz⟩:=I.list hq;obtain ⟨u,hu,ru⟩:=rv.get hx;obtain ⟨f0,f1,f2,f3,f4,f5⟩:=hf it (by simp);refine wpAny_pyNext_list_item st p.isList (x:=u) (by simpa using hu) λh' st' sb=>?_
  have I1:Inv X pins σ H { s with heap:=h' }:=I.turned (t':=s.toks) (λb o hb e=>(sb.2 b hb).trans e) f0 f1 f3 f4 f5;obtain ⟨o,e,c,d⟩:=id st';exact ⟨u,rfl,oE (s:={ s with heap:=h' }) e c d (by decide) ⟨x,H,I1,ru,⟨rfl,λys hy=>by rw [I.list_inj hy hq];exact hx⟩,st',λb hb=>(hf b hb).1⟩⟩
 done:=by
  intro X hP hw hK hc i pins s σ H E I hf st hg;subst hP hw hK;obtain ⟨xs,hq,hx⟩:=hg;obtain ⟨its,rv,p,hz⟩:=I.list hq;obtain ⟨f0,f1,f2,f3,f4,f5⟩:=hf it (by simp);have hl:=rv.length;exact wpAny_pyNext_list_end (I.ok.hd hc) st p.isList (by simp;omega) λh' eb=>⟨rfl,I.turned (t':=s.toks) (λb o hb e=>eb b o hb e) f0 f1 f3 f4 f5⟩
 self:=λ_ _ _ _ _ st h=>wpAny_pyIter_listiter st h
theorem Zy {P:Program}{w:World}{K:aj}{tg:Expr}(a it:Addr):Turn P w K tg (Itt K a) [it] it (λi h=>h.IsTupleIter it a i) where
 mem:=by simp
 obj:=λi h st b hb=>by
  have e:b=it:=by simpa using hb
  subst e;obtain ⟨o,e,c,d⟩:=st;exact ⟨o,e,λv z=>by rw [d] at z;cases z⟩
 keep:=λi h h' st k=>st.at λo e=>k it (by simp) o e
 item:=by
  intro X hP hw hK hc i pins s σ H E I hf st hg;subst hP hw hK;obtain ⟨xs,x,hq,hx⟩:=hg;obtain ⟨its,rv,p,hz⟩:=I.tuple hq;obtain ⟨u,hu,ru⟩:=rv.get hx;obtain ⟨f0,f1,f2,f3,f4,f5⟩:=hf it (by simp);refine wpAny_pyNext_tuple_item st (show s.heap.IsTuple a its.toArray from p) (x:=u) (by simpa using hu) λh' st' sb=>?_
  have I1:Inv X pins σ H { s with heap:=h' }:=I.turned (t':=s.toks) (λb o hb e=>(sb.2 b hb).trans e) f0 f1 f3 f4 f5;obtain ⟨o,e,c,d⟩:=id st';exact ⟨u,rfl,oE (s:={ s with heap:=h' }) e c d (by decide) ⟨x,H,I1,ru,⟨rfl,λys hy=>by rw [I.tuple_inj hy hq];exact hx⟩,st',λb hb=>(hf b hb).1⟩⟩
 done:=by
  intro X hP hw hK hc i pins s σ H E I hf st hg;subst hP hw hK;obtain ⟨xs,hq,hx⟩:=hg;obtain ⟨its,rv,p,hz⟩:=I.tuple hq;obtain ⟨f0,f1,f2,f3,f4,f5⟩:=hf it (by simp);have hl:=rv.length;exact wpAny_pyNext_tuple_end (I.ok.hd hc) st (show s.heap.IsTuple a its.toArray from p) (by simp;omega) λh' eb=>⟨rfl,I.turned (t':=s.toks) (λb o hb e=>eb b o hb e) f0 f1 f3 f4 f5⟩
 self:=λ_ _ _ _ _ st h=>wpAny_pyIter_tupleiter st h
theorem Zz {P:Program}{w:World}{K:aj}{tg:Expr}(it:Addr) (lo:Int) (n:Nat):Turn P w K tg (Itr lo n) [it] it (λi h=>IsRangeIter h it (lo+(i:Nat) * 1) ((n:Int) - (i:Nat)) 1) where
 mem:=by simp
 obj:=λi h st b hb=>by
  have e:b=it:=by simpa using hb
  subst e
  exact ⟨_,st,λv z=>by
   have z':Data.fields _=Data.cell v:=z
   cases z'⟩
 keep:=λi h h' st k=>k it (by simp) _ st
 item:=by
  intro X hP hw hK hc i pins s σ H E I hf st hg;subst hP hw hK;obtain ⟨f0,f1,f2,f3,f4,f5⟩:=hf it (by simp);have W:=Walks.range (prog:=X.prog) (w:=X.w) (I.ok.hd hc) it lo 1 n;refine W.item i s _ _ hg st λv h' tk hv st' kk=>?_
  obtain ⟨t,rfl⟩:=hv;have I1:Inv X pins σ H { s with heap:=h',toks:=tk }:=I.turned (λb o hb e=>kk b o (by simpa using hb) e) f0 f1 f3 f4 f5
  refine ⟨_,rfl,oE (s:={ s with heap:=h',toks:=tk }) (n := "range_iterator") st' rfl rfl (by decide) ⟨.int (lo+i),H,I1,⟨t,?_⟩,⟨rfl,rfl⟩,st',λb hb=>(hf b hb).1⟩⟩;rw [Int.mul_one]
 done:=by
  intro X hP hw hK hc i pins s σ H E I hf st hg;subst hP hw hK;obtain ⟨f0,f1,f2,f3,f4,f5⟩:=hf it (by simp);exact wpAny_pyNext_range_end (I.ok.hd hc) st (by have:n<=i:=hg;omega) λh' eb=>⟨rfl,I.turned (t':=s.toks) (λb o hb e=>eb b o hb e) f0 f1 f3 f4 f5⟩
 self:=λ_ _ _ _ _ st h=>wpAny_pyIter_rangeiter st h
section
variable {X:Cx}{tg:Expr}
noncomputable def Ajf (K:aj) (tl:TE):TI:=λσ H R=>tl σ H λx H1=>∃ a,x=.ref a/\(∃ xs,SqL K H1 a xs)/\R (Itl K a) H1
noncomputable def Alz (K:aj) (tl:TE):TI:=λσ H R=>tl σ H λx H1=>∃ a,x=.ref a/\(∃ xs,SqT K H1 a xs)/\R (Itt K a) H1
theorem dG {l:Expr}{tl:TE}(hl:PE X l tl):PI X tg l (Ajf X.K tl):=by
 intro pins s σ H R I h;refine thn (hl pins s σ H _ I h) ?_;rintro v s1 ⟨x,H1,I1,r1,q1⟩;obtain ⟨a,e,⟨xs,hq⟩,q⟩:=q1;subst e;cases r1;obtain ⟨its,rv,p,hz⟩:=I1.list hq;refine JW p.isList ?_;refine ⟨s1.heap.objs.size,[s1.heap.objs.size],_,_,H1,rfl,I1.kept (t':=s1.toks) λb o e=>bw _ e,jF a _,⟨_,gq _ rfl,rfl,rfl⟩,λb hb=>?_,q⟩;have e:b=s1.heap.objs.size:=by simpa using hb
 subst e;exact I1.fpOk (bh _) (I1.hok.fresh (bh _))
theorem Aee {l:Expr}{tl:TE}(hl:PE X l tl):PI X tg l (Alz X.K tl):=by
 intro pins s σ H R I h;refine thn (hl pins s σ H _ I h) ?_;rintro v s1 ⟨x,H1,I1,r1,q1⟩;obtain ⟨a,e,⟨xs,hq⟩,q⟩:=q1;subst e;cases r1;obtain ⟨its,rv,p,hz⟩:=I1.tuple hq;refine xr (show s1.heap.IsTuple a its.toArray from p) ?_;refine ⟨s1.heap.objs.size,[s1.heap.objs.size],_,_,H1,rfl,I1.kept (t':=s1.toks) λb o e=>bw _ e,Zy a _,⟨_,gq _ rfl,rfl,rfl⟩,λb hb=>?_,q⟩;have e:b=s1.heap.objs.size:=by simpa using hb
 subst e;exact I1.fpOk (bh _) (I1.hok.fresh (bh _))
theorem oF {pins:List (Addr×Obj)}{σ:St}{H:Hp}{s:Shared}{R:It->Hp->Prop}{E:Value->Shared->Prop}{lo hi:Int}{t u v:Tok}{tk:Nat}(I:Inv X pins σ H s) (h1:-(2 ^ 62)<=lo) (h2:lo < 2 ^ 62) (h3:-(2 ^ 62)<=hi) (h4:hi < 2 ^ 62)
  (q:R (Itr lo (hi - lo).toNat) H):wpAny (model X.prog X.w) X.A (pyIter (.ref s.heap.objs.size)) (PIE X pins σ tg R) E { s with heap:=s.heap.push { cls:=.type "range",data:=.fields #[.int lo t,.int hi u,.int 1 v] },toks:=tk }:=by
 refine wpAny_pyIter_range (IsRange.new ..) (small_one h1 h2 h3 h4) ?_
 have I1:Inv X pins σ H { s with heap:=s.heap.push { cls:=.type "range",data:=.fields #[.int lo t,.int hi u,.int 1 v] },toks:=tk }:=I.kept λb o e=>bw _ e
 refine ⟨(s.heap.push { cls:=.type "range",data:=.fields #[.int lo t,.int hi u,.int 1 v] }).objs.size,[(s.heap.push { cls:=.type "range",data:=.fields #[.int lo t,.int hi u,.int 1 v] }).objs.size],_,_,H,rfl,
  I1.kept (t':=tk) λb o e=>bw _ e,Zz _ lo (hi - lo).toNat,?_,λb hb=>?_,q⟩
 ·have e1:lo+((0:Nat):Int) * 1=lo:=by simp
  have e2:(((hi - lo).toNat:Nat):Int) - ((0:Nat):Int)=wz lo hi 1:=by rw [rangeSize_one];split <;> omega
  show IsRangeIter _ _ (lo+((0:Nat):Int) * 1) ((((hi - lo).toNat:Nat):Int) - ((0:Nat):Int)) 1;rw [e1,e2];exact gq _ rfl
 ·have e:b=(s.heap.push { cls:=.type "range",data:=.fields #[.int lo t,.int hi u,.int 1 v] }).objs.size:=by simpa using hb
  subst e;exact I1.fpOk (bh _) (I1.hok.fresh (bh _))
noncomputable def Ajg (ta:TA):TI:=λσ H R=>ta σ H λvs H1=>∃ j:Int,vs=[.int j]/\-(2 ^ 62)<=j/\j < 2 ^ 62/\R (Itr 0 j.toNat) H1
theorem jG {a:Expr}{ta:TA}{p pos:Pos}(hg:Gl X "range") (hm:X.mg "range"=none) (ha:PA X [a] ta) (hs:starEach [a] X.env=[(false,eval a X.env)]:=by rfl):PI X tg (.Call (.Name "range" p) [a] [] pos) (Ajg ta):=by
 intro pins s σ H R I h;refine Call_ (Qk I hg hm WW (PyProof.Rows.callWith_type1 (thn (ha pos pins s σ H _ I h) ?_) hs rfl));rintro us s1 ⟨vs,H1,I1,r1,q1⟩;obtain ⟨j,e,q1,q2,q⟩:=q1;subst e;cases r1 with
 | cons r rr =>
  cases rr;obtain ⟨t,rfl⟩:=r;exact call_range_1 (oF I1 (by omega) (by omega) q1 q2 (by simpa using q))
noncomputable def Al0 (wi:TI) (g:TG) (tb:TS):TS:=λD σ H=>wi σ H λJ H1=>∃ W:Nat->Nat->St->Hp->Prop,(∃ m,W 0 m σ H1)/\∀ i m σ H,W i m σ H ->
 (J.stop i H/\D.nx σ H)\/(J.go i H/\∃ N:St->Hp->Prop,(∀ σ' H',N σ' H'->∃ m',m' < m/\W (i+1) m' σ' H')/\∀ x H',J.yld i H x H'->g x σ H' λσ2 H2=>tb { D with nx:=N,ct:=N,bk:=D.nx } σ2 H2)
noncomputable def K6 (fp:List Addr) (h:Heap):List (Addr×Obj):=fp.filterMap λb=>(h.get? b).map λo=>(b,o)
theorem Ie {fp:List Addr}{h:Heap}{b:Addr}{o:Obj}(hb:b∈fp) (e:h.get? b=some o):(b,o)∈K6 fp h:=JC.mpr ⟨b,hb,by rw [e];rfl⟩
theorem Tn {fp:List Addr}{h:Heap}{p:Addr×Obj}(hp:p∈K6 fp h):p.1∈fp/\h.get? p.1=some p.2:=by
 obtain ⟨b,hb,e⟩:=JC.mp hp;cases q:h.get? b with
 | none=>rw [q] at e;cases e
 | some o =>
  rw [q] at e;have e':(b,o)=p:=Option.some.inj e;subst e';exact ⟨hb,q⟩
theorem Inv.pinned {pins:List (Addr×Obj)}{σ:St}{H:Hp}{s:Shared}{fp:List Addr}(I:Inv X pins σ H s) (hf:∀ b∈fp,Lj X pins H b) (ho:∀ b∈fp,∃ o,s.heap.get? b=some o/\∀ v,o.data≠.cell v):Inv X (pins++K6 fp s.heap) σ H s :=
 I.pins_of λp hp=>(jm.mp hp).elim (λz=>I.pin p (gw _ z)) λz=>by
  obtain ⟨hb,e⟩:=Tn z;obtain ⟨f0,f1,f2,_⟩:=hf p.1 hb;obtain ⟨o,e',d⟩:=ho p.1 hb;rw [e] at e';cases e';exact ⟨e,f0,f1,f2,d⟩
theorem Inv.unpinned {pins pl:List (Addr×Obj)}{σ:St}{H:Hp}{s:Shared}(I:Inv X (pins++pl) σ H s):Inv X pins σ H s:=I.pins_of λp hp=>I.pin p (gw _ (qy _ hp))
theorem Aef {iter:Expr}{body:List Stmt}{wi:TI}{g:TG}{tb:TS}{pos:Pos}(hp:PassesOwn (model X.prog X.w) X.A X.env X.xe) (hc:X.calm=true) (hi:PI X tg iter wi) (hg:PG X tg g) (hb:PSs X body tb)
  (hs:∀ x,foldedSetIterable iter X.env x=pure x:=by intro _;rfl):PS X (.For tg iter body [] pos) (Al0 wi g tb):=by
 intro pins s σ H D I h;refine wpAny_For (thn (hi pins s σ H _ I h) λv s1 h1=>thn h1 λitv s2 h2=>?_) hs;obtain ⟨it,fp,tn,J,H2,e,I2,T,st2,f2,W,⟨m0,w0⟩,turn⟩:=h2;subst e
 -- what stays true of the iterator's objects through the loop
 have stat:∀ {H':Hp},(∀ b∈fp,H' b=none)->∀ b∈fp,Lj X pins H' b:=λhn b hb=>⟨hn b hb,(f2 b hb).2⟩
 refine codeAny_forLoop_any (λn s'=>∃ i σ' H',Inv X pins σ' H' s'/\tn i s'.heap/\(∀ b∈fp,H' b=none)/\W i n σ' H') ?_ m0 ⟨0,σ,H2,I2,st2,λb hb=>(f2 b hb).1,w0⟩;rintro n s3 ⟨i,σ3,H3,I3,st3,fr3,w3⟩;rcases turn i n σ3 H3 w3 with ⟨stop,qn⟩|⟨go,N,hN,step⟩
 ·refine CW hp (thn (T.done X rfl rfl rfl hc i pins s3 σ3 H3 X.xe I3 (stat fr3) st3 stop) ?_);rintro r s4 ⟨hr,I4⟩;subst hr;exact QF ⟨σ3,H3,I4,qn⟩
 ·refine CW hp (thn (T.item X rfl rfl rfl hc i pins s3 σ3 H3 X.xe I3 (stat fr3) st3 go) ?_);rintro r s4 ⟨u,hr,h4⟩;subst hr;refine CW hp (thn h4 ?_);rintro _ s5 ⟨x,H5,I5,r5,y5,st5,fr5⟩;have I5':=I5.pinned (stat fr5) (T.obj _ _ st5);refine CW hp (thn (hg _ s5 σ3 H5 x u _ I5' r5 (step x H5 y5)) ?_);rintro _ s6 ⟨σ6,H6,I6,q6⟩;refine CW hp (thn (hb _ s6 σ6 H6 _ I6 q6) λf s7 q7=>?_);have again:∀ {σ7:St} {H7:Hp},Inv X (pins++K6 fp s5.heap) σ7 H7 s7->N σ7 H7->∃ m,m < n/\∃ i σ' H',Inv X pins σ' H' s7/\tn i s7.heap/\(∀ b∈fp,H' b=none)/\W i m σ' H':=λ{σ7 H7} I7 n7=>by
   obtain ⟨m',hm,w7⟩:=hN σ7 H7 n7;refine ⟨m',hm,i+1,σ7,H7,I7.unpinned,T.keep _ _ _ st5 λb hb o e=>(I7.pin (b,o) (gw _ (gw _ (Ie hb e)))).1,λb hb=>?_,w7⟩;obtain ⟨o,e,d⟩:=T.obj _ _ st5 b hb;exact (I7.pin (b,o) (gw _ (gw _ (Ie hb e)))).2.1
  cases f with
  | next=>obtain ⟨σ7,H7,I7,n7⟩:=q7;exact again I7 n7
  | cont=>obtain ⟨σ7,H7,I7,n7⟩:=q7;exact again I7 n7
  | brk=>obtain ⟨σ7,H7,I7,q7⟩:=q7;exact ⟨σ7,H7,I7.unpinned,q7⟩
  | ret v=>obtain ⟨x7,σ7,H7,I7,r7,q7⟩:=q7;exact ⟨x7,σ7,H7,I7.unpinned,r7,q7⟩
end
noncomputable abbrev R2:=V->V->Hp->VK->Prop
noncomputable def OpR (X:Cx) (f:Value->Value->Sem Value) (r:R2):Prop :=
 ∀ (pins:List (Addr×Obj)) (s:Shared) (σ:St) (H:Hp) (x y:V) (v u:Value) (Q:VK),Inv X pins σ H s->RelV x v->RelV y u->r x y H Q ->
  wpAny (model X.prog X.w) X.A (f v u) (EP X pins σ Q) X.xe s
noncomputable def UnR (X:Cx) (f:Value->Sem Value) (r:V->Hp->VK->Prop):Prop :=
 ∀ (pins:List (Addr×Obj)) (s:Shared) (σ:St) (H:Hp) (x:V) (v:Value) (Q:VK),Inv X pins σ H s->RelV x v->r x H Q ->
  wpAny (model X.prog X.w) X.A (f v) (EP X pins σ Q) X.xe s
noncomputable def Bt (X:Cx) (f:Value) (r:List V->Hp->VK->Prop):Prop :=
 ∀ (pins:List (Addr×Obj)) (s:Shared) (σ:St) (H:Hp) (xs:List V) (us:List Value) (Q:VK),Inv X pins σ H s->Vals xs us->r xs H Q ->
  wpAny (model X.prog X.w) X.A (call f us) (EP X pins σ Q) X.xe s
noncomputable def Al1 (X:Cx) (r:V->Hp->(Bool->Hp->Prop)->Prop):Prop :=
 ∀ (pins:List (Addr×Obj)) (s:Shared) (σ:St) (H:Hp) (x:V) (v:Value) (Q:Bool->Hp->Prop),Inv X pins σ H s->RelV x v->r x H Q ->
  wpAny (model X.prog X.w) X.A (truthy v) (TP X pins σ Q) X.xe s
noncomputable def tOp (r:R2) (ta tb:TE):TE:=λσ H Q=>ta σ H λx H1=>tb σ H1 λy H2=>r x y H2 Q
noncomputable def tUn (r:V->Hp->VK->Prop) (ta:TE):TE:=λσ H Q=>ta σ H λx H1=>r x H1 Q
noncomputable def rI (C:Int->Int->Prop) (g:Int->Int->V):R2:=λx y H Q=>∃ i j,x=.int i/\y=.int j/\C i j/\Q (g i j) H
noncomputable def rI0 (g:Int->Int->V):R2:=λx y H Q=>∃ i j,x=.int i/\y=.int j/\Q (g i j) H
noncomputable def rU (g:Int->V):V->Hp->VK->Prop:=λx H Q=>∃ i,x=.int i/\Q (g i) H
section
variable {X:Cx}{a b c:Expr}{ta tb tc:TE}{pos:Pos}
theorem Aeg (ha:PE X a ta) (hb:PE X b tb) {pins:List (Addr×Obj)}{s:Shared}{σ:St}{H:Hp}{R:V->V->Hp->Prop}(I:Inv X pins σ H s)
  (h:ta σ H λx H1=>tb σ H1 λy H2=>R x y H2) {Q:Value->Shared->Prop} {f:Value->Value->Sem Value}
  (hf:∀ v u s2 x y H2,Inv X pins σ H2 s2->RelV x v->RelV y u->R x y H2->wpAny (model X.prog X.w) X.A (f v u) Q X.xe s2) :
  wpAny (model X.prog X.w) X.A (eval a X.env) (λv s₁=>wpAny (model X.prog X.w) X.A (eval b X.env) (λu s₂=>wpAny (model X.prog X.w) X.A (f v u) Q X.xe s₂) X.xe s₁) X.xe s:=by
 refine thn (ha pins s σ H _ I h) ?_;rintro v s1 ⟨x,H1,I1,r1,q1⟩;refine thn (hb pins s1 σ H1 _ I1 q1) ?_;rintro u s2 ⟨y,H2,I2,r2,q2⟩;exact hf v u s2 x y H2 I2 r1 r2 q2
theorem Ajh {op:Operator}{r:R2}(ho:OpR X (binaryOp op) r) (ha:PE X a ta) (hb:PE X b tb):PE X (.BinOp a op b pos) (tOp r ta tb):=by
 intro pins s σ H Q I h;exact wpAny_BinOp (Aeg ha hb I h λv u s2 x y H2 I2 rx ry q=>ho pins s2 σ H2 x y v u Q I2 rx ry q)
theorem Aji {op:UnaryOp}{r:V->Hp->VK->Prop}(ho:UnR X (unaryOp op) r) (ha:PE X a ta):PE X (.UnaryOp op a pos) (tUn r ta):=by
 intro pins s σ H Q I h;refine UnaryOp_ (thn (ha pins s σ H _ I h) ?_);rintro v s1 ⟨x,H1,I1,r1,q1⟩;exact ho pins s1 σ H1 x v Q I1 r1 q1
theorem opI {f:Value->Value->Sem Value}{C:Int->Int->Prop}{g:Int->Int->Int}
  (rule:∀ (i j:Int) (t u:Tok) (s:Shared) (Q:Value->Shared->Prop) (E:Value->Shared->Prop),C i j->Q (.int (g i j) s.toks) { s with toks:=s.toks+1 }->wpAny (model X.prog X.w) X.A (f (.int i t) (.int j u)) Q E s) :
  OpR X f (rI C λi j=>.int (g i j)):=by
 intro pins s σ H x y v u Q I rx ry h;obtain ⟨i,j,rfl,rfl,hc,q⟩:=h;obtain ⟨t,rfl⟩:=rx;obtain ⟨t',rfl⟩:=ry;exact rule i j t t' s _ _ hc ⟨.int (g i j),H,I.tok _,⟨_,rfl⟩,q⟩
theorem zF {f:Value->Value->Sem Value}{g:Int->Int->Int}
  (rule:∀ (i j:Int) (t u:Tok) (s:Shared) (Q:Value->Shared->Prop) (E:Value->Shared->Prop),Q (.int (g i j) s.toks) { s with toks:=s.toks+1 }->wpAny (model X.prog X.w) X.A (f (.int i t) (.int j u)) Q E s) :
  OpR X f (rI0 λi j=>.int (g i j)):=by
 intro pins s σ H x y v u Q I rx ry h;obtain ⟨i,j,rfl,rfl,q⟩:=h;obtain ⟨t,rfl⟩:=rx;obtain ⟨t',rfl⟩:=ry;exact rule i j t t' s _ _ ⟨.int (g i j),H,I.tok _,⟨_,rfl⟩,q⟩
theorem zG {f:Value->Value->Sem Value}{g:Int->Int->Bool}
  (rule:∀ (i j:Int) (t u:Tok) (s:Shared) (Q:Value->Shared->Prop) (E:Value->Shared->Prop),Q (.bool (g i j)) s->wpAny (model X.prog X.w) X.A (f (.int i t) (.int j u)) Q E s) :
  OpR X f (rI0 λi j=>.bl (g i j)):=by
 intro pins s σ H x y v u Q I rx ry h;obtain ⟨i,j,rfl,rfl,q⟩:=h;obtain ⟨t,rfl⟩:=rx;obtain ⟨t',rfl⟩:=ry;exact rule i j t t' s _ _ ⟨.bl (g i j),H,I,rfl,q⟩
noncomputable def Al2 (i j:Int):Prop:=0<=j/\j<=1000000/\i.natAbs < 2 ^ 64
noncomputable def Aeh (i j:Int):Prop:=(-(2 ^ 64) < i/\i < 2 ^ 64)\/(-(2 ^ 64) < j/\j < 2 ^ 64)
theorem Aeh.ok {i j:Int}(h:Aeh i j):IntMulOk i j:=by
 rcases h with ⟨h1,h2⟩|⟨h1,h2⟩
 ·exact .of_left (intBits_le_64 h1 h2)
 ·exact .of_right (intBits_le_64 h1 h2)
theorem Z0 (k:Nat):(0:Int)<=2 ^ k:=by
 rw [two_pow_cast];exact Int.natCast_nonneg _
theorem Aei:OpR X (binaryOp .Add) (rI0 λi j=>.int (i+j)):=zF λ_ _ _ _ _ _ _ q=>add_int q
theorem Aej:OpR X (binaryOp .Sub) (rI0 λi j=>.int (i - j)):=zF λ_ _ _ _ _ _ _ q=>sub_int q
theorem Aek:OpR X (binaryOp .Mult) (rI Aeh λi j=>.int (i * j)):=opI λ_ _ _ _ _ _ _ hc q=>mul_int q hc.ok
theorem zH:OpR X (binaryOp .Mod) (rI (λ_ j=>j≠0) λi j=>.int (i.fmod j)):=opI λ_ _ _ _ _ _ _ hc q=>mod_int' hc q
theorem Ael:OpR X (binaryOp .LShift) (rI Al2 λi j=>.int (i * 2 ^ j.toNat)):=opI λ_ _ _ _ _ _ _ hc q=>lshift_int_small hc.1 hc.2.1 hc.2.2 q
theorem Aem:OpR X (binaryOp .RShift) (rI (λ_ j=>0<=j) λi j=>.int (i / 2 ^ j.toNat)):=opI λi j _ _ _ _ _ hc q =>
 rshift_int hc (by rw [Int.fdiv_eq_ediv_of_nonneg i (Z0 _)];exact q)
theorem Aen:OpR X (binaryOp .BitAnd) (rI0 λi j=>.int (FQ i j)):=zF λ_ _ _ _ _ _ _ q=>and_int q
theorem Ajj:OpR X (binaryOp .BitOr) (rI0 λi j=>.int (GJ i j)):=zF λ_ _ _ _ _ _ _ q=>or_int q
theorem unI {f:Value->Sem Value}{g:Int->Int}
  (rule:∀ (i:Int) (t:Tok) (s:Shared) (Q:Value->Shared->Prop) (E:Value->Shared->Prop),Q (.int (g i) s.toks) { s with toks:=s.toks+1 }->wpAny (model X.prog X.w) X.A (f (.int i t)) Q E s) :
  UnR X f (rU λi=>.int (g i)):=by
 intro pins s σ H x v Q I rx h;obtain ⟨i,rfl,q⟩:=h;obtain ⟨t,rfl⟩:=rx;exact rule i t s _ _ ⟨.int (g i),H,I.tok _,⟨_,rfl⟩,q⟩
theorem Aeo:UnR X (unaryOp .USub) (rU λi=>.int (-i)):=unI λ_ _ _ _ _ q=>neg_int q
end
section
variable {X:Cx}{a b c:Expr}{ta tb tc:TE}{pos:Pos}
theorem Ajk:OpR X (compareOp .Lt) (rI0 λi j=>.bl (decide (i < j))):=zG λ_ _ _ _ _ _ _ q=>lt_int q
theorem Ajl:OpR X (compareOp .LtE) (rI0 λi j=>.bl (decide (i<=j))):=zG λ_ _ _ _ _ _ _ q=>le_int q
theorem Ajm:OpR X (compareOp .Gt) (rI0 λi j=>.bl (decide (j < i))):=zG λ_ _ _ _ _ _ _ q=>gt_int q
theorem Ajn:OpR X (compareOp .GtE) (rI0 λi j=>.bl (decide (j<=i))):=zG λ_ _ _ _ _ _ _ q=>ge_int q
theorem OpR.or {f:Value->Value->Sem Value}{r r':R2}(h:OpR X f r) (h':OpR X f r'):OpR X f (λx y H Q=>r x y H Q\/r' x y H Q):=by
 intro pins s σ H x y v u Q I rx ry q;rcases q with q|q
 ·exact h pins s σ H x y v u Q I rx ry q
 ·exact h' pins s σ H x y v u Q I rx ry q
theorem zJ {op:CmpOp}{r:R2}(ho:OpR X (compareOp op) r) (ha:PE X a ta) (hb:PE X b tb) (hm:behindInMarks op b=false):PE X (.Compare a [op] [b] pos) (tOp r ta tb):=by
 intro pins s σ H Q I h;exact wpAny_Compare1 (Aeg ha hb I h λv u s2 x y H2 I2 rx ry q=>ho pins s2 σ H2 x y v u Q I2 rx ry q) hm
noncomputable def oG (t:TE):TT:=λσ H Q=>t σ H λx H'=>∃ k,x=.bl k/\Q k H'
theorem zK {op:CmpOp}{r:R2}(ho:OpR X (compareOp op) r) (ha:PE X a ta) (hb:PE X b tb) (hm:behindInMarks op b=false):PT X (.Compare a [op] [b] pos) (oG (tOp r ta tb)):=by
 intro pins s σ H Q I h
 refine wpAny_isTrue_Compare1 (thn (ha pins s σ H _ I h) λv s1 ⟨x,H1,I1,r1,q1⟩=>thn (hb pins s1 σ H1 _ I1 q1) λu s2 ⟨y,H2,I2,r2,q2⟩ =>
  thn (ho pins s2 σ H2 x y v u _ I2 r1 r2 q2) λc s3 ⟨z,H3,I3,r3,k,e,q3⟩=>?_) hm
 subst e;cases r3;exact sy ⟨H3,I3,q3⟩
noncomputable def Z1 (r r':R2) (ta tb tc:TE):TE:=λσ H Q=>ta σ H λx H1=>tb σ H1 λy H2=>r x y H2 λz H3=>∃ k,z=.bl k /\
 (if k=true then tc σ H3 λw' H4=>r' y w' H4 Q else Q (.bl false) H3)
theorem oH {op op':CmpOp}{r r':R2}(ho:OpR X (compareOp op) r) (ho':OpR X (compareOp op') r') (ha:PE X a ta) (hb:PE X b tb) (hc:PE X c tc)
  (hm:lastMarks [op,op'] [b,c]=false:=by with_unfolding_all rfl):PE X (.Compare a [op,op'] [b,c] pos) (Z1 r r' ta tb tc):=by
 intro pins s σ H Q I h
 refine Compare_chain (thn (ha pins s σ H _ I h) λv s1 ⟨x,H1,I1,r1,q1⟩=>chain_link (thn (hb pins s1 σ H1 _ I1 q1) λu s2 ⟨y,H2,I2,r2,q2⟩ =>
  thn (ho pins s2 σ H2 x y v u _ I2 r1 r2 q2) λd s3 ⟨z,H3,I3,r3,k,e,q3⟩=>?_)) hm
 subst e;cases r3;refine sy ?_;cases k with
 | false=>exact ite_ff ⟨.bl false,H3,I3,rfl,q3⟩
 | true=>exact ite_tt (chain_last (thn (hc pins s3 σ H3 _ I3 q3) λw' s4 ⟨z',H4,I4,r4,q4⟩=>ho' pins s4 σ H4 y z' u w' Q I4 r2 r4 q4))
theorem oJ {op op':CmpOp}{r r':R2}(ho:OpR X (compareOp op) r) (ho':OpR X (compareOp op') r') (ha:PE X a ta) (hb:PE X b tb) (hc:PE X c tc)
  (hm:lastMarks [op,op'] [b,c]=false:=by with_unfolding_all rfl):PT X (.Compare a [op,op'] [b,c] pos) (oG (Z1 r r' ta tb tc)):=by
 intro pins s σ H Q I h
 refine isTrue_chain (thn (ha pins s σ H _ I h) λv s1 ⟨x,H1,I1,r1,q1⟩=>test_link (thn (hb pins s1 σ H1 _ I1 q1) λu s2 ⟨y,H2,I2,r2,q2⟩ =>
  thn (ho pins s2 σ H2 x y v u _ I2 r1 r2 q2) λd s3 ⟨z,H3,I3,r3,k,e,q3⟩=>?_)) hm
 subst e;cases r3;refine sy ?_;cases k with
 | false =>
  obtain ⟨k',e',q'⟩:=q3;cases e';exact ite_ff ⟨H3,I3,q'⟩
 | true =>
  refine ite_tt (test_last (thn (hc pins s3 σ H3 _ I3 q3) ?_));rintro w' s4 ⟨z',H4,I4,r4,q4⟩;refine thn (ho' pins s4 σ H4 y z' u w' _ I4 r2 r4 q4) ?_;rintro d' s5 ⟨z2,H5,I5,r5,k2,e2,q5⟩;subst e2;cases r5;exact sy ⟨H5,I5,q5⟩
noncomputable def Aep (K:aj) (x:V) (H:Hp) (k:Bool):Prop :=
 match x with
 | .non=>k=false
 | .bl b=>k=b
 | .int i=>k=(i != 0)
 | .str y=>y.length<=sizeLine/\k=((y.length:Int) != 0)
 | .byt y=>y.size<=sizeLine/\k=((y.size:Int) != 0)
 | .ref p=>(∃ xs,SqL K H p xs/\k=!xs.isEmpty)\/(∃ xs,SqT K H p xs/\k=!xs.isEmpty)\/∃ kvs,H p=some (.dK kvs)/\k=!kvs.isEmpty
 | _=>False
theorem Z2 {κ:Type}{kvs:List (κ×V)}{vs:List (κ×Value)}(r:KV kvs vs):(!vs.isEmpty)=!kvs.isEmpty:=by
 cases r <;> rfl
theorem Ql {xs:List V}{its:List Value}(r:Vals xs its):(!its.toArray.isEmpty)=!xs.isEmpty:=by
 cases r <;> simp
theorem K7:(sizeLine:Nat) < 2 ^ 63:=by rw [qp];decide
theorem Aeq:Al1 X (λx H Q=>∃ k,Aep X.K x H k/\Q k H):=by
 intro pins s σ H x v Q I rx h;obtain ⟨k,e,q⟩:=h;have hl:=K7;have hs:sizeLine=16777216:=qp;cases x with
 | non =>
  cases rx;have e':k=false:=e;subst e';exact truthy_none ⟨H,I,q⟩
 | bl b =>
  cases rx;have e':k=b:=e;subst e';exact sy ⟨H,I,q⟩
 | int i =>
  obtain ⟨t,rfl⟩:=rx;have e':k=(i != 0):=e;subst e';exact PySem.P.truthy_int ⟨H,I,q⟩
 | str y =>
  obtain ⟨t,rfl⟩:=rx;obtain ⟨hy,e'⟩:y.length<=sizeLine/\k=((y.length:Int) != 0):=e;subst e';exact PySem.P.truthy_str (by omega) ⟨H,I.tok _,q⟩
 | byt y =>
  obtain ⟨t,rfl⟩:=rx;obtain ⟨hy,e'⟩:y.size<=sizeLine/\k=((y.size:Int) != 0):=e;subst e';exact PySem.W.truthy_bytes (by omega) ⟨H,I.tok _,q⟩
 | ref p =>
  cases rx;have e':(∃ xs,SqL X.K H p xs/\k=!xs.isEmpty)\/(∃ xs,SqT X.K H p xs/\k=!xs.isEmpty)\/∃ kvs,H p=some (.dK kvs)/\k=!kvs.isEmpty:=e;rcases e' with ⟨xs,hx,e'⟩|⟨xs,hx,e'⟩|⟨kvs,hx,e'⟩
  ·subst e';obtain ⟨its,r,pl,hz⟩:=I.list hx;have hlen:=r.length;exact wpAny_truthy_list pl.isList (by simp only [dw];omega) ⟨H,I.tok _,by rw [Ql r];exact q⟩
  ·subst e';obtain ⟨its,r,pl,hz⟩:=I.tuple hx;have hlen:=r.length;exact truthy_tuple pl (by simp only [dw];omega) ⟨H,I.tok _,by rw [Ql r];exact q⟩
  ·subst e';obtain ⟨hz,hS,vs,r,m⟩:kvs.length<=sizeLine/\(p==sysModules)=false/\∃ vs,KV kvs vs/\s.heap.DictOf (Df X.prog X.w) p vs:=I.hok p _ hx;have hlen:kvs.length=vs.length:=Paired.length r;exact wpAny_truthy_dict hS m (by omega) ⟨H,I.tok _,by rw [Z2 r];exact q⟩
 | _=>exact (show False from e).elim
theorem oK (ha:PE X a ta) (he:∀ whole,isTrue a X.env whole=(do let v ← whole;standAt a.pos;holding [v] (truthy v))) :
  PT X a (λσ H Q=>ta σ H λx H'=>∃ k,Aep X.K x H' k/\Q k H'):=by
 intro pins s σ H Q I h;exact isTrue_plain (thn (ha pins s σ H _ I h) λv s1 ⟨x,H1,I1,r1,q1⟩=>Aeq pins s1 σ H1 x v Q I1 r1 q1) (he _)
theorem Z3:OpR X (binaryOp .Add) (λx y H Q=>∃ i j,x=.str i/\y=.str j/\i.length+j.length<=sizeLine/\Q (.str (i++j)) H):=by
 intro pins s σ H x y v u Q I rx ry h;obtain ⟨i,j,rfl,rfl,hz,q⟩:=h;obtain ⟨t,rfl⟩:=rx;obtain ⟨t',rfl⟩:=ry;exact add_str (λt' tk=>⟨.str (i++j),H,I.tok _,⟨_,rfl⟩,q⟩) hz
theorem vals1 {x:V}{us:List Value}(r:Vals [x] us):∃ u,us=[u]/\RelV x u:=by
 cases r with
 | cons r1 r2=>cases r2;exact ⟨_,rfl,r1⟩
theorem vals2 {x y:V}{us:List Value}(r:Vals [x,y] us):∃ u w',us=[u,w']/\RelV x u/\RelV y w':=by
 cases r with
 | cons r1 r2 =>
  cases r2 with
  | cons r3 r4=>cases r4;exact ⟨_,_,rfl,r1,r3⟩
theorem jH (hc:X.calm=true):Bt X (.builtin "max") (λxs H Q=>∃ i j,xs=[.int i,.int j]/\Q (.int (if j > i then j else i)) H):=by
 intro pins s σ H xs us Q I r h;obtain ⟨i,j,rfl,q⟩:=h;obtain ⟨u,w',rfl,⟨t,rfl⟩,⟨t',rfl⟩⟩:=vals2 r;refine max_two_ints (I.ok.hd hc) λh' tk k=>⟨_,H,I.kept k,?_,q⟩
 by_cases hj:j > i
 ·rw [if_pos hj,if_pos hj];exact ⟨_,rfl⟩
 ·rw [if_neg hj,if_neg hj];exact ⟨_,rfl⟩
theorem Tp:Bt X (.type "int") (λxs H Q=>(∃ i,xs=[.int i]/\Q (.int i) H)\/∃ k,xs=[.bl k]/\Q (.int (if k then 1 else 0)) H):=by
 intro pins s σ H xs us Q I r h;rcases h with ⟨i,rfl,q⟩|⟨k,rfl,q⟩
 ·obtain ⟨u,rfl,t,rfl⟩:=vals1 r;exact call_int_int ⟨.int i,H,I,⟨_,rfl⟩,q⟩
 ·obtain ⟨u,rfl,r1⟩:=vals1 r;cases r1;exact call_int_bool ⟨.int (if k then 1 else 0),H,I.tok _,⟨_,rfl⟩,q⟩
end
structure ObjM (h:Heap) (x dx C:Addr) (mA:Str->Option Value):Prop where
 obj:h.get? x=some (vy C dx)
 ns:h.Ns1 dx mA
 ne:dx≠x
theorem jJ {h:Heap}{dx:Addr}{mA:Str->Option Value}(n:h.Ns1 dx mA):∃ od,h.get? dx=some od/\∀ name,HY name od=some (mA name):=by
 obtain ⟨o,es,ep,ho,hd,hk,_,hm⟩:=n;refine ⟨o,ho,λname=>?_⟩;have e:=hm name;unfold nsFind findBy at e;rw [← Array.find?_toList] at e;unfold HY;rw [hd];dsimp only;split
 ·rename_i y q;rw [q] at e;exact congrArg some e
 ·rename_i q;rw [q] at e;have a:es.toList.any (·.refKey)=false:=by
   rw [List.any_eq_false];intro y hy;obtain ⟨z,t,hkey⟩:=hk y (Array.mem_toList_iff.mp hy);simp [DictEntry.refKey,hkey]
  have a':¬ es.toList.any (·.refKey)=true:=by rw [a];exact kj
  rw [if_neg a'];exact congrArg some e
theorem ObjM.look {h:Heap}{x dx C:Addr}{mA:Str->Option Value}(I:ObjM h x dx C mA):∃ od,PySem.W.InstAt h x (vy C dx) C (some od)/\∀ name,HY name od=some (mA name) :=
 let ⟨od,ho,hl⟩:=jJ I.ns
 ⟨od,⟨I.obj,rfl,rfl,ho⟩,hl⟩
section
variable {prog:Program}{w:World}{A:Around}{E:Value->Shared->Prop}{s:Shared}{K:aj}{x dx C f:Addr}{mA:Str->Option Value}{name:Str}{v:Value}
theorem get_map {expr:Bool}{Q:Value->Shared->Prop}(X:K.In s.heap) (I:ObjM s.heap x dx C mA) (hg:GP K C name=true) (hh:JX K C=true)
  (ha:vm K (.ref C) name=some none) (hv:mA name=some v) (hv':PySem.W.handedIn v=true) (h:Q v { s with toks:=s.toks+1 }) :
  wpAny (model prog w) A (getAttr (.ref x) name expr) Q E s:=by
 obtain ⟨od,J,hl⟩:=I.look;exact PySem.W.get_value X J (HS hg).1 (PySem.W.findObj_own hh ha rfl (by rw [hl,hv])) hv' h
theorem oM {pl:Sem Bool}{Q:Value×List Value->Shared->Prop}(X:K.In s.heap) (I:ObjM s.heap x dx C mA) (hg:GP K C name=true)
  (hf:vm K (.ref C) name=some (some (.ref f))) (ht:SX K (.ref f)=true) (hv:mA name=none) (h:Q (.ref f,[.ref x]) s) :
  wpAny (model prog w) A (getMethod (.ref x) name pl) Q E s:=by
 obtain ⟨od,J,hl⟩:=I.look;exact PySem.W.method_fn X J (HS hg).1 (HS hg).2 hf (beq_iff_eq.mp ht) (by show (HY name od).map (·.isSome)=some false;rw [hl,hv];rfl) h
theorem zL {ns:List Str}{Q:Unit->Shared->Prop}(X:K.In s.heap) (I:ObjM s.heap x dx C mA)
  (hs:vm K (.ref C) "__setattr__"=some (some (.builtin "object.__setattr__"))) (hp:VH K C=true) (ht:QG K C name=some none) (hh:JX K C=true)
  (hw:SQ mA ns) (hsz:ns.length<=sizeLine)
  (h:∀ h',ObjM h' x dx C (λy=>if y=name then some v else mA y)->vd dx s.heap h'->Q () { s with heap:=h',toks:=s.toks+2 }) :
  wpAny (model prog w) A (setAttr (.ref x) name v) Q E s:=by
 obtain ⟨od,J,hl⟩:=I.look;refine PySem.W.set_plain X J hs (PySem.W.osa_open (s:={ s with toks:=s.toks+1 }) (r:=none) X J hp ht λb=>?_);obtain ⟨cd,hc,hd'⟩:=PySem.W.any_some hh;have hx:s.heap.get? x=some ⟨.ref C,some dx,.plain,#[]⟩:=I.obj;refine aq (cu (aq (aq (wpAny_loadPart hx (aq (PySem.W.Looks.here (s:={ s with toks:=s.toks+1 }) (PySem.W.looks_clsIn X hc) ?_))))));rw [hd'];refine cu (a:=some dx) (aq (cu (aq ?_)));refine wpAny_nsSet1 (s:={ s with toks:=s.toks+1 }) I.ns λh' hn2 hs2=>?_
 obtain ⟨oD,esD,epD,hoD,hdD,hcD⟩:=hn2.count (PySem.Within.cons name v hw);refine aq (wpAny_lookBehind hoD (by rw [hdD];exact pastItsLine_dict (dz hcD (by rw [jj];omega))) ?_);exact cu (h _ ⟨(hs2.2 _ (Ne.symm I.ne)).trans I.obj,hn2,I.ne⟩ hs2)
theorem oN {R:Result->Shared->Prop}{vs:List Value}{kw:List (Str×Value)}(X:K.In s.heap) (hm:PySem.W.makesIn K C=true)
    (hi:vm K (.ref C) "__init__"=some (some (.ref f))) (hf:PySem.W.typeIn K (.ref f)=some (.type "function"))
    (h:codeAny (model prog w) (A.under (.builtin "type.__call__" ⟨.ref C::vs,kw⟩)) (.call (.ref f) ⟨.ref (s.heap.objs.size+1)::vs,kw⟩) (PySem.W.InitBack (s.heap.objs.size+1) R)
      { s with heap:=(s.heap.push tu).push (vy C s.heap.objs.size) }) :
    codeAny (model prog w) A (.call (.ref C) ⟨vs,kw⟩) R s:=by
  obtain ⟨hh,g,d,t,os⟩:=s;exact PySem.W.make_core (PySem.W.makes_of X hm) (PySem.W.looks_findIn X hi) (λself=>PySem.W.bind_fn X self hf) (.inl rfl) h
end
noncomputable def Kq (f:Str) (v:V):List (Str×V)->List (Str×V)
 | []=>[(f,v)]
 | (g,x)::r=>if g=f then (g,v)::r else (g,x)::Kq f v r
theorem Od (f g:Str) (v:V):∀ fs:List (Str×V),(Kq f v fs).lookup g=if g=f then some v else fs.lookup g
 | []=>by
  show xj g [(f,v)]=_
  by_cases h:g=f
  ·have hb:(g==f)=true:=beq_iff_eq.mpr h;simp only [xj,hb,if_pos h]
  ·have hb:(g==f)=false:=beq_eq_false_iff_ne.mpr h;simp only [xj,hb,if_neg h]
 | (k,x)::r=>by
  have ih:=Od f g v r;rw [show Kq f v ((k,x)::r)=(if k=f then (k,v)::r else (k,x)::Kq f v r) from rfl]
  by_cases hk:k=f
  ·rw [if_pos hk]
   by_cases h:g=k
   ·have hb:(g==k)=true:=beq_iff_eq.mpr h;simp only [xj,hb,if_pos (h.trans hk)]
   ·have hb:(g==k)=false:=beq_eq_false_iff_ne.mpr h;simp only [xj,hb,if_neg (λe:g=f=>h (e.trans hk.symm))]
  ·rw [if_neg hk]
   by_cases h:g=k
   ·have hb:(g==k)=true:=beq_iff_eq.mpr h;simp only [xj,hb,if_neg (λe:g=f=>hk (h.symm.trans e))]
   ·have hb:(g==k)=false:=beq_eq_false_iff_ne.mpr h;simp only [xj,hb];exact ih
theorem Ng (f:Str) (v:V):∀ fs:List (Str×V),f∈(Kq f v fs).map (·.1)/\∀ g,g∈fs.map (·.1)->g∈(Kq f v fs).map (·.1)
 | []=>⟨by simp [Kq],λg h=>by simp at h⟩
 | (k,x)::r=>by
  obtain ⟨i1,i2⟩:=Ng f v r;rw [show Kq f v ((k,x)::r)=(if k=f then (k,v)::r else (k,x)::Kq f v r) from rfl]
  by_cases hk:k=f
  ·rw [if_pos hk];subst hk;exact ⟨by simp,λg h=>by simpa using h⟩
  ·rw [if_neg hk];refine ⟨?_,λg h=>?_⟩
   ·rw [iu];exact iw _ i1
   ·rw [iu] at h ⊢;rcases gb.mp h with e|e
    ·exact gb.mpr (.inl e)
    ·exact iw _ (i2 g e)
theorem Oe (f:Str) (v:V):∀ fs:List (Str×V),(Kq f v fs).length<=fs.length+1
 | []=>by simp [Kq]
 | (k,x)::r=>by
  have ih:=Oe f v r;rw [show Kq f v ((k,x)::r)=(if k=f then (k,v)::r else (k,x)::Kq f v r) from rfl]
  by_cases hk:k=f
  ·rw [if_pos hk,jj,jj];omega
  ·rw [if_neg hk,jj,jj];omega
theorem K5.some_of {v:V}{o:Option Value}(r:K5 (some v) o):∃ u,o=some u/\RelV v u:=by
 cases o with
 | none=>exact (show False from r).elim
 | some u=>exact ⟨u,rfl,r⟩
theorem K5.none_of {o:Option Value}(r:K5 none o):o=none:=by
 cases o with
 | none=>rfl
 | some u=>exact (show False from r).elim
theorem jK {v:V}{u:Value}(r:RelV v u):PySem.W.handedIn u=true:=by
 cases v with
 | non=>cases (show u=Value.none from r);rfl
 | bl b=>cases (show u=Value.bool b from r);rfl
 | int i=>obtain ⟨t,e⟩:=(show ∃ t,u=Value.int i t from r);cases e;rfl
 | str x=>obtain ⟨t,e⟩:=(show ∃ t,u=Value.str x t from r);cases e;rfl
 | byt b=>obtain ⟨t,e⟩:=(show ∃ t,u=Value.bytes b t from r);cases e;rfl
 | flt b=>obtain ⟨t,e⟩:=(show ∃ t,u=Value.float b t from r);cases e;rfl
 | ref a=>cases (show u=Value.ref a from r);rfl
 | ty n=>cases (show u=Value.type n from r);rfl
section
variable {P:Program}{w:World}{H H':Hp}{h h':Heap}{a C dx:Addr}{fs fs':List (Str×V)}
theorem U5 (hok:HOk P w H h) (e:H a=some (.ins C dx fs)):∃ mA,ObjM h a dx C mA/\(∀ f,K5 (fs.lookup f) (mA f))/\SQ mA (fs.map (·.1))/\fs.length<=1000/\H dx=some (.own a):=by
 obtain ⟨d,z,ne,ob,mA,n,r,q⟩:=(show Di P w H h a (.ins C dx fs) from hok a _ e);exact ⟨mA,⟨ob,n,ne⟩,r,q,z,d⟩
end
structure Cls (K:aj) (C:Addr):Prop where
 pg:GP K C Str.empty=true
 hd:JX K C=true
 po:VH K C=true
 sa:vm K (.ref C) "__setattr__"=some (some (.builtin "object.__setattr__"))
theorem Cls.get {K:aj}{C:Addr}(c:Cls K C) (f:Str):GP K C f=true:=c.pg
noncomputable def Ga (K:aj) (C:Addr) (f:Str):Prop:=vm K (.ref C) f=some none
theorem Ga.taker {K:aj}{C:Addr}{f:Str}(n:Ga K C f):QG K C f=some none:=by
 unfold QG;rw [show vm K (.ref C) f=some none from n];rfl
structure Meth (K:aj) (C:Addr) (m:Str) (f:Addr):Prop where
 at_:vm K (.ref C) m=some (some (.ref f))
 fn:SX K (.ref f)=true
 kp:ug K (.ref f)=true
section
variable {X:Cx}{pins:List (Addr×Obj)}{σ:St}{H:Hp}{s:Shared}{a C dx:Addr}{fs:List (Str×V)}{f:Str}{v:V}{A:Around}{E:Value->Shared->Prop}
theorem Z4 {b:Bool}{Q:Value->Shared->Prop}(I:Inv X pins σ H s) (e:H a=some (.ins C dx fs)) (c:Cls X.K C) (n:Ga X.K C f) (l:fs.lookup f=some v)
  (h:∀ u s',Inv X pins σ H s'->RelV v u->Q u s'):wpAny (model X.prog X.w) A (getAttr (.ref a) f b) Q E s:=by
 obtain ⟨mA,O,r,_,_,_⟩:=U5 I.hok e;obtain ⟨u,hu,ru⟩:=K5.some_of (v:=v) (o:=mA f) (by rw [← l];exact r f);exact get_map I.kIn O (c.get f) c.hd n hu (jK ru) (h u _ (I.tok _) ru)
theorem Qm {m:Str}{g:Addr}{pl:Sem Bool}{Q:Value×List Value->Shared->Prop}(I:Inv X pins σ H s) (e:H a=some (.ins C dx fs)) (c:Cls X.K C) (k:Meth X.K C m g) (l:fs.lookup m=none)
  (h:Q (.ref g,[.ref a]) s):wpAny (model X.prog X.w) A (getMethod (.ref a) m pl) Q E s:=by
 obtain ⟨mA,O,r,_,_,_⟩:=U5 I.hok e;have hn:mA m=none:=K5.none_of (by rw [← l];exact r m);exact oM I.kIn O (c.get m) k.at_ k.fn hn h
theorem Z5 {y:V}{u:Value}{Q:Unit->Shared->Prop}(I:Inv X pins σ H s) (e:H a=some (.ins C dx fs)) (c:Cls X.K C) (n:Ga X.K C f) (hl:fs.length < 1000) (ry:RelV y u)
  (h:∀ s',Inv X pins σ (upd H a (.ins C dx (Kq f y fs))) s'->Q () s'):wpAny (model X.prog X.w) A (setAttr (.ref a) f u) Q E s:=by
 obtain ⟨mA,O,r,wi,_,ho⟩:=U5 I.hok e;have hz:(fs.map (·.1)).length<=sizeLine:=by rw [ak,qp];omega
 refine zL I.kIn O c.sa c.po n.taker c.hd wi hz λh' O' sb=>h _ ?_
 have hd:∃ o,h'.get? dx=some o:=let ⟨o,_,_,e',_⟩:=O'.ns;⟨o,e'⟩;refine I.write (x:=a) (e:=dx) (by rw [e];exact True.intro) (.inr ho) (λb q hb z=>(sb.2 b hb).trans z) hd ?_;refine ⟨by rw [Al O.ne];exact ho,?_,O.ne,O'.obj,_,O'.ns,λg=>?_,λg hg=>?_⟩
 ·have:=Oe f y fs;omega
 ·show K5 ((Kq f y fs).lookup g) (if g=f then some u else mA g);rw [Od]
  by_cases q:g=f
  ·rw [if_pos q,if_pos q];exact ry
  ·rw [if_neg q,if_neg q];exact r g
 ·by_cases q:g=f
  ·rw [q];exact (Ng f y fs).1
  ·refine (Ng f y fs).2 g (wi g λz=>hg ?_);show (if g=f then some u else mA g)=none;rw [if_neg q];exact z
theorem Inv.made (I:Inv X pins σ H s):Inv X pins σ (upd (upd H s.heap.objs.size (.own (s.heap.objs.size+1))) (s.heap.objs.size+1) (.ins C s.heap.objs.size []))
    { s with heap:=(s.heap.push tu).push (vy C s.heap.objs.size) }:=by
  have e1:(s.heap.push tu).get? s.heap.objs.size=some tu:=gq s.heap rfl;have e2:((s.heap.push tu).push (vy C s.heap.objs.size)).get? (s.heap.objs.size+1)=some (vy C s.heap.objs.size):=by
    have:=gq (s.heap.push tu) (o:=vy C s.heap.objs.size) rfl
    rwa [mj] at this
  have e3:(s.heap.push tu).Ns s.heap.objs.size (λ_=>none):=⟨tu,#[],_,e1,rfl,(λe he=>absurd he (by simp)),λ_=>rfl⟩;have I1:=I.laid (a:=s.heap.objs.size) (o:=.own (s.heap.objs.size+1)) (h':=s.heap.push tu) (t':=s.toks) (λb u q=>bw _ q) (bh _) ⟨_,e1⟩;refine I1.laid (a:=s.heap.objs.size+1) (o:=.ins C s.heap.objs.size []) (t':=s.toks) (λb u q=>bw _ q) (Nat.le_of_eq (mj _ _)) ?_;have ne:s.heap.objs.size≠s.heap.objs.size+1:=iz (qz _);refine ⟨by rw [Al ne,Bw],jy _,ne,e2,λ_=>none,(Heap.Ns1.of_empty e3).at λo q=>bw _ q,λ_=>True.intro,λy hy=>absurd rfl hy⟩
theorem zM {prog:Program}{w:World}{env:Env}{e:Expr}{f:Str}{pos:Pos}{s:Shared}{Q:Value->Shared->Prop}(hb:attributeBase e f env (eval e env)=eval e env)
  (h:wpAny (model prog w) A (eval e env) (λo s₁=>wpAny (model prog w) A (getAttr o f true) Q E s₁) E s):wpAny (model prog w) A (eval (.Attribute e f pos) env) Q E s :=
 Attribute_any_ h (by rw [arm_eval_Attribute,hb])
end
noncomputable def Al3 (K:aj) (ta:TE) (f:Str):TE:=λσ H Q=>ta σ H λx H1=>∃ a C dx fs v,x=.ref a/\H1 a=some (.ins C dx fs)/\Cls K C/\Ga K C f/\fs.lookup f=some v/\Q v H1
noncomputable def Al4 (K:aj) (ta tv:TE) (f:Str):TS:=λD σ H=>tv σ H λy H1=>ta σ H1 λx H2=>∃ a C dx fs,x=.ref a/\H2 a=some (.ins C dx fs)/\Cls K C/\Ga K C f/\fs.length < 1000 /\
 D.nx σ (upd H2 a (.ins C dx (Kq f y fs)))
section
variable {X:Cx}{o e value:Expr}{f:Str}{pos pos' tpos:Pos}{ta tv:TE}
theorem Aer (he:PE X e ta) (hb:attributeBase e f X.env (eval e X.env)=eval e X.env):PE X (.Attribute e f pos) (Al3 X.K ta f):=by
 intro pins s σ H Q I h;refine zM hb (thn (he pins s σ H _ I h) ?_);rintro u s1 ⟨x,H1,I1,rx,a,C,dx,fs,v,ex,ea,c,n,l,q⟩;subst ex;obtain rfl:u=Value.ref a:=rx;exact Z4 I1 ea c n l λu' s2 I2 ru=>⟨v,H1,I2,ru,q⟩
theorem Aes (ha:PE X o ta) (hv:PE X value tv) (hs:swapsWith value (some (.Attribute o f pos')) pos.line X.env=pure false):PS X (.Assign [.Attribute o f pos'] value pos) (Al4 X.K ta tv f):=by
 intro pins s σ H D I h;refine plainObj_wpAny_Assign_Attribute (thn (hv pins s σ H _ I h) λu s1 ⟨y,H1,I1,ry,q⟩=>thn (ha pins s1 σ H1 _ I1 q) ?_) hs;rintro ov s2 ⟨x,H2,I2,rx,a,C,dx,fs,ex,ea,c,n,l,q2⟩;subst ex;obtain rfl:ov=Value.ref a:=rx;exact Z5 I2 ea c n l ry λs3 I3=>⟨σ,_,I3,q2⟩
end
section
variable {X:Cx}{pins:List (Addr×Obj)}{σ:St}{H:Hp}{s:Shared}{A:Around}{E:Value->Shared->Prop}{Q:Value->Shared->Prop}{c:Value}{b:Bool}
end
structure Room (k:Nat) (A:Around):Prop where
 hd:A.handled=none
 dp:A.depth+3 * k+5 < recursionLimit
 un:A.units+16 * k+200 < cLine
theorem Room.mono {j k:Nat}{A:Around}(r:Room k A) (h:j<=k):Room j A:=⟨r.hd,by have:=r.dp;omega,by have:=r.un;omega⟩
theorem Room.deeper {k:Nat}{A:Around}(r:Room (k+1) A) (env:Env):Room k (A.deeper env) :=
 ⟨r.hd,by have:=r.dp;show A.depth+1+3 * k+5 < _;omega,by have:=r.un;show A.units+3+16 * k+200 < _;omega⟩
theorem Z6 {A:Around}{C:Addr}{us:List Value}{kw:List (Str×Value)}:(A.under (.builtin "type.__call__" ⟨.ref C::us,kw⟩)).depth=A.depth+1:=by
 first | rfl | simp [TF,Code.weight,Code.isCreation,Code.isGuard,Code.isCaller,Code.frames,Code.isFrame,guardIds]
theorem Z7 {A:Around}{C:Addr}{us:List Value}{kw:List (Str×Value)}:(A.under (.builtin "type.__call__" ⟨.ref C::us,kw⟩)).units=A.units+1:=by
 first | rfl | simp [TF,Code.cUnits,Code.frames,Code.isFrame]
theorem Room.make {k:Nat}{A:Around}(r:Room (k+1) A) (C:Addr) (us:List Value) (kw:List (Str×Value)):Room k (A.under (.builtin "type.__call__" ⟨.ref C::us,kw⟩)) :=
 ⟨r.hd,by have:=r.dp;rw [Z6];omega,by have:=r.un;rw [Z7];omega⟩
theorem Room.depth {k:Nat}{A:Around}(r:Room k A):A.depth < recursionLimit:=by have:=r.dp;omega
theorem Room.units {k:Nat}{A:Around}(r:Room k A):A.units+64 < cLine:=by have:=r.un;omega
noncomputable def Aet:TA:=λ_ H Q=>Q [] H
noncomputable def Ajo (ta:TE) (tr:TA):TA:=λσ H Q=>ta σ H λx H1=>tr σ H1 λxs H2=>Q (x::xs) H2
section
variable {X:Cx}{e:Expr}{es:List Expr}{te:TE}{t:TA}{pos:Pos}
theorem G4:PA X [] Aet:=λ_ _ _ _ H Q I h=>Calls.spliced_nil ⟨[],H,I,.nil,h⟩
theorem Ea (ha:PE X e te) (hr:PA X es t) (hs:starEach (e::es) X.env=(false,eval e X.env)::starEach es X.env:=by rfl):PA X (e::es) (Ajo te t):=by
 intro pos pins s σ H Q I h;rw [hs];show wpAny _ _ (spliced ((false,eval e X.env)::backTo pos (starEach es X.env))) _ _ s;refine Calls.spliced_cons (thn (ha pins s σ H _ I h) ?_);rintro u s1 ⟨x,H1,I1,r1,q1⟩;refine thn (hr pos pins s1 σ H1 _ I1 q1) ?_;rintro us s2 ⟨xs,H2,I2,r2,q2⟩;exact ⟨x::xs,H2,I2,.cons r1 r2,q2⟩
noncomputable def Al5 (t:TA):TE:=λσ H Q=>t σ H λxs H1=>xs.length<=sizeLine/\∀ p,H1 p=none->Q (.ref p) (upd H1 p (.tup xs))
noncomputable def Al6 (t:TA):TE:=λσ H Q=>t σ H λxs H1=>xs.length<=sizeLine/\∀ p,H1 p=none->Q (.ref p) (upd H1 p (.lst xs))
theorem Aeu {x1}(h:PA X es t):PE X (.Tuple es x1 pos) (Al5 t):=by
 intro pins s σ H Q I hq;refine wpAny_Tuple_spliced (thn (h pos pins s σ H _ I hq) ?_);rintro us s1 ⟨xs,H1,I1,r,z,q⟩;refine ⟨by rw [← r.length];exact z,?_⟩;have hf:H1 s1.heap.objs.size=none:=I1.hok.fresh (bh _);refine ⟨.ref s1.heap.objs.size,upd H1 s1.heap.objs.size (.tup xs),I1.laid (t':=s1.toks) (λb u e=>bw _ e) (bh _) ?_,rfl,q _ hf⟩;exact ⟨z,us,r,⟨_,gq _ rfl,rfl,rfl,_,rfl⟩⟩
theorem Aev (h:PA X es t):PE X (.List es pos) (Al6 t):=by
 intro pins s σ H Q I hq;refine wpAny_List_spliced (thn (h pos pins s σ H _ I hq) ?_);rintro us s1 ⟨xs,H1,I1,r,z,q⟩;refine ⟨by rw [← r.length];exact z,?_⟩;have hf:H1 s1.heap.objs.size=none:=I1.hok.fresh (bh _);refine ⟨.ref s1.heap.objs.size,upd H1 s1.heap.objs.size (.lst xs),I1.laid (t':=s1.toks) (λb u e=>bw _ e) (bh _) ?_,rfl,q _ hf⟩;exact ⟨z,us,0,r,gq _ rfl⟩
end
noncomputable abbrev Sp:=List V->Hp->VK->XK->Prop
noncomputable abbrev CXT:=List Env->Hp->Shared->XK->Value->Shared->Prop
structure Env0 (P:Program) (w:World) (K:aj) (mg:Str->Option Value) (base:Heap) (A:Around) (outer:List Env) (s:Shared) (H:Hp):Prop where
 frames:A.frames=some outer
 mod:Mod K mg base
 bs:∀ b o,base.get? b=some o->s.heap.get? b=some o/\H b=none
 bsz:base.objs.size<=s.heap.objs.size
 funs:s.heap.FunFrames base outer
 frf:∀ b∈frs outer,H b=none
 hok:HOk P w H s.heap
 bare:AllBare s.gens
noncomputable def CE (outer:List Env) (P:Program) (w:World) (H:Hp) (s:Shared) (Q:VK) (u:Value) (s':Shared):Prop :=
 ∃ v H',s'.os=s.os/\AllBare s'.gens/\Un (frs outer) [] H H' s.heap s'.heap/\HOk P w H' s'.heap/\RelV v u/\Q v H'
noncomputable def CR (CX:CXT) (outer:List Env) (P:Program) (w:World) (H:Hp) (s:Shared) (Q:VK) (E:XK) (r:Result) (s':Shared):Prop :=
 match r with
 | .ok (.ret u)=>CE outer P w H s Q u s'
 | .ok _=>False
 | .error e=>CX outer H s E e s'
structure FnOk (P:Program) (w:World) (K:aj) (mg:Str->Option Value) (base:Heap) (CX:CXT) (k:Nat) (f:Addr) (fd:FuncData) (ps:List Str) (sp:Sp):Prop where
 len:∀ vs H Q E,sp vs H Q E->vs.length=ps.length
 run:∀ (A:Around) (outer:List Env) (s:Shared) (H:Hp) (args:Args) (us:List Value) (vs:List V) (Q:VK) (E:XK),Room k A->Env0 P w K mg base A outer s H->BindsTo s fd args (ps.zip us)->Vals vs us->sp vs H Q E ->
  codeAny (model P w) A (.call (.ref f) args) (CR CX outer P w H s Q E) s
theorem Env0.make {P:Program}{w:World}{K:aj}{mg:Str->Option Value}{base:Heap}{A:Around}{outer:List Env}{s:Shared}{H:Hp}(e:Env0 P w K mg base A outer s H) (C:Addr) (us:List Value) (kw:List (Str×Value)) :
  Env0 P w K mg base (A.under (.builtin "type.__call__" ⟨.ref C::us,kw⟩)) outer s H:=⟨by first | exact e.frames | (simpa [TF,Code.envs,Code.isFrame,pushEnvs] using e.frames),e.mod,e.bs,e.bsz,e.funs,e.frf,e.hok,e.bare⟩
section
variable {X:Cx}{pins:List (Addr×Obj)}{σ:St}{H:Hp}{s s':Shared}
theorem Inv.env0 (I:Inv X pins σ H s):Env0 X.prog X.w X.K X.mg X.base X.A X.stack s H :=
 ⟨I.ok.frames,I.ok.mod,I.bs,dz I.ok.bsz I.sz,I.stack,I.stkFree,I.hok,I.bare⟩
theorem Inv.after {Q:VK}{u:Value}(I:Inv X pins σ H s) (h:CE X.stack X.prog X.w H s Q u s'):EP X pins σ Q u s':=by
 obtain ⟨v,H',os,bare,un,hok,r,q⟩:=h;obtain ⟨hh,g,d,t,os'⟩:=s';obtain rfl:os'=s.os:=os;exact ⟨v,H',I.call (h':=hh) (g':=g) (d':=d) (t':=t) (ch:=[]) un hok bare (λb z=>absurd z (by simp)),r,q⟩
end
noncomputable def Ac4 (sp:Sp) (dvs:List V) (E:XK) (t:TA):TE:=λσ H Q=>t σ H λvs H1=>sp (vs++dvs) H1 Q E
noncomputable def Ac5 (C:Addr) (m:Str) (sp:Sp) (dvs:List V) (E:XK) (ta:TE) (t:TA):TE:=λσ H Q=>ta σ H λx H1=>∃ a dx fs,x=.ref a/\H1 a=some (.ins C dx fs)/\fs.lookup m=none /\
 t σ H1 λvs H2=>sp (x::(vs++dvs)) H2 Q E
noncomputable def Ajp (C:Addr) (sp:Sp) (dvs:List V) (E:XK) (t:TA):TE:=λσ H Q=>t σ H λvs H1=>∀ x dx,H1 x=none->H1 dx=none->dx≠x ->
 sp (.ref x::(vs++dvs)) (upd (upd H1 dx (.own x)) x (.ins C dx [])) (λv H2=>v=.non/\Q (.ref x) H2) E
noncomputable def Binds (K:aj) (fd:FuncData) (ps:List Str) (ds:List Value):Prop :=
 ∀ (s:Shared) (us:List Value),K.In s.heap->(us++ds).length=ps.length->BindsTo s fd ⟨us,[]⟩ (ps.zip (us++ds))
theorem Binds.all {K:aj}{fd:FuncData}{ps:List Str}(h:∀ us:List Value,us.length=ps.length->bindArgs fd ⟨us,[]⟩=pure (ps.zip us)):Binds K fd ps []:=λs us _ hl=>by
 rw [yc] at hl ⊢;exact .of_eq (h us hl)
noncomputable def Du (CX:CXT) (X:Cx) (E:XK):Prop:=∀ (pins:List (Addr×Obj)) (σ:St) (H:Hp) (s:Shared) (e:Value) (s':Shared),Inv X pins σ H s->CX X.stack H s E e s'->X.xe e s'
section
variable {X:Cx}{CX:CXT}{k:Nat}{f C:Addr}{fd:FuncData}{ps:List Str}{sp:Sp}{dvs:List V}{ds:List Value}{E:XK}{x m:Str}{p pos apos:Pos}{e o:Expr}{es:List Expr}{ta:TE}{t:TA}
theorem U6 {pins:List (Addr×Obj)}{σ:St}{H:Hp}{s:Shared}{Q:VK}{us:List Value}{vs:List V}(F:FnOk X.prog X.w X.K X.mg X.base CX k f fd ps sp) (hr:Room k X.A) (hb:Binds X.K fd ps ds) (hd:Vals dvs ds) (hx:Du CX X E)
  (I:Inv X pins σ H s) (r:Vals vs us) (h:sp (vs++dvs) H Q E):wpAny (model X.prog X.w) X.A (call (.ref f) us) (EP X pins σ Q) X.xe s:=by
 have r2:Vals (vs++dvs) (us++ds):=r.append hd;have hl:(us++ds).length=ps.length:=by rw [← r2.length];exact F.len _ _ _ _ h
 refine WX (DQ (F.run X.A X.stack s H ⟨us,[]⟩ (us++ds) (vs++dvs) Q E hr I.env0 (hb s us I.kIn hl) r2 h) λr s' hq=>?_);cases r with
 | error e=>exact hx pins σ H s e s' I hq
 | ok fl =>
  cases fl with
  | ret u=>exact I.after hq
  | next=>exact False.elim hq
  | brk=>exact False.elim hq
  | cont=>exact False.elim hq
theorem zN (F:FnOk X.prog X.w X.K X.mg X.base CX k f fd ps sp) (hr:Room k X.A) (hg:Gl X x) (hm:X.mg x=some (.ref f)) (hk:ug X.K (.ref f)=true) (hb:Binds X.K fd ps ds) (hd:Vals dvs ds) (hx:Du CX X E)
  (ha:PA X (e::es) t) (hdb:(x==("__debug__":Str))=false:=by decide) (he:starEach (e::es) X.env=(false,eval e X.env)::starEach es X.env:=by rfl) (hpl:(backTo pos (starEach es X.env)).any (·.1)=false:=by rfl) :
  PE X (.Call (.Name x p) (e::es) [] pos) (Ac4 sp dvs E t):=by
 intro pins s σ H Q I h;refine BJ (Pa I hg hm ?_ hdb);refine JD (h₀:=X.base) I.ok.mod.kin hk (thn (ha pos pins s σ H _ I h) λus s1 ⟨vs,H1,I1,r,q⟩=>⟨I1.kIn,?_⟩) he hpl;exact U6 F hr hb hd hx I1 r q
theorem oO (F:FnOk X.prog X.w X.K X.mg X.base CX k f fd ps sp) (hr:Room k X.A) (hg:Gl X x) (hm:X.mg x=some (.ref f)) (hk:ug X.K (.ref f)=true) (hb:Binds X.K fd ps ds) (hd:Vals dvs ds) (hx:Du CX X E)
  (hdb:(x==("__debug__":Str))=false:=by decide):PE X (.Call (.Name x p) [] [] pos) (Ac4 sp dvs E Aet):=by
 intro pins s σ H Q I h;refine BJ (Pa I hg hm ?_ hdb);exact RX I.kIn hk (U6 (us:=[]) F hr hb hd hx I .nil h)
theorem zO {pl:Sem Bool}(he:PE X o ta) (c:Cls X.K C) (hm:Meth X.K C m f) (F:FnOk X.prog X.w X.K X.mg X.base CX k f fd ps sp) (hr:Room k X.A) (hb:Binds X.K fd ps ds) (hd:Vals dvs ds) (hx:Du CX X E) (ha:PA X (e::es) t)
  (hst:starEach (e::es) X.env=(false,eval e X.env)::starEach es X.env:=by rfl) (hpl:(backTo pos (starEach es X.env)).any (·.1)=false:=by rfl)
  (ht:eval (.Call (.Attribute o m apos) (e::es) [] pos) X.env=(do
   let ov ← eval o X.env
   standAt apos.atName
   let (f,first) ← holding [ov] (getMethod ov m pl)
   callWith pos f first (backTo pos (starEach (e::es) X.env)) (backToKw pos (keywordEach [] X.env))):=by rfl) :
  PE X (.Call (.Attribute o m apos) (e::es) [] pos) (Ac5 C m sp dvs E ta t):=by
 intro pins s σ H Q I h;refine QT (pl:=pl) (thn (he pins s σ H _ I h) ?_) ht;rintro u s1 ⟨x,H1,I1,rx,a,dx,fs,ex,ea,l,q⟩;subst ex;obtain rfl:u=Value.ref a:=rx;refine Qm I1 ea c hm l ?_;refine JD (first:=[.ref a]) (h₀:=X.base) I.ok.mod.kin hm.kp (thn (ha pos pins s1 σ H1 _ I1 q) λus s2 ⟨vs,H2,I2,r,q2⟩=>⟨I2.kIn,?_⟩) hst hpl;exact U6 (us:=.ref a::us) (vs:=.ref a::vs) F hr hb hd hx I2 (.cons rfl r) q2
theorem oR {pl:Sem Bool}(he:PE X o ta) (c:Cls X.K C) (hm:Meth X.K C m f) (F:FnOk X.prog X.w X.K X.mg X.base CX k f fd ps sp) (hr:Room k X.A) (hb:Binds X.K fd ps ds) (hd:Vals dvs ds) (hx:Du CX X E)
  (ht:eval (.Call (.Attribute o m apos) [] [] pos) X.env=(do
   let ov ← eval o X.env
   standAt apos.atName
   let (f,first) ← holding [ov] (getMethod ov m pl)
   callWith pos f first (backTo pos (starEach [] X.env)) (backToKw pos (keywordEach [] X.env))):=by rfl) :
  PE X (.Call (.Attribute o m apos) [] [] pos) (Ac5 C m sp dvs E ta Aet):=by
 intro pins s σ H Q I h;refine QT (pl:=pl) (thn (he pins s σ H _ I h) ?_) ht;rintro u s1 ⟨x,H1,I1,rx,a,dx,fs,ex,ea,l,q⟩;subst ex;obtain rfl:u=Value.ref a:=rx;refine Qm I1 ea c hm l ?_;exact RX (first:=[.ref a]) I1.kIn hm.kp (U6 (us:=[.ref a]) (vs:=[.ref a]) F hr hb hd hx I1 (.cons rfl .nil) q)
structure Mk (K:aj) (C f:Addr):Prop where
 makes:PySem.W.makesIn K C=true
 init:vm K (.ref C) "__init__"=some (some (.ref f))
 fn:SX K (.ref f)=true
 kp:ug K (.ref C)=true
theorem oU {pins:List (Addr×Obj)}{σ:St}{H:Hp}{s:Shared}{Q:VK}{us:List Value}{vs:List V}(M:Mk X.K C f) (F:FnOk X.prog X.w X.K X.mg X.base CX k f fd ps sp) (hr:Room (k+1) X.A) (hb:Binds X.K fd ps ds) (hd:Vals dvs ds)
  (hx:Du CX X E) (I:Inv X pins σ H s) (r:Vals vs us)
  (h:∀ x dx,H x=none->H dx=none->dx≠x->sp (.ref x::(vs++dvs)) (upd (upd H dx (.own x)) x (.ins C dx [])) (λv H2=>v=.non/\Q (.ref x) H2) E) :
  wpAny (model X.prog X.w) X.A (call (.ref C) us) (EP X pins σ Q) X.xe s:=by
 have hq:=h (s.heap.objs.size+1) s.heap.objs.size (I.hok.fresh (vf _)) (I.hok.fresh (bh _)) (iz (qz _));have I2:=Inv.made (C:=C) I;have r2:Vals (V.ref (s.heap.objs.size+1)::(vs++dvs)) (Value.ref (s.heap.objs.size+1)::(us++ds)):=.cons rfl (r.append hd);have hl:(Value.ref (s.heap.objs.size+1)::us++ds).length=ps.length:=by
  have e:=r2.length;rw [F.len _ _ _ _ hq] at e;exact e.symm
 refine WX (oN (f:=f) I.kIn M.makes M.init (beq_iff_eq.mp M.fn) (DQ (F.run _ X.stack _ _ ⟨Value.ref (s.heap.objs.size+1)::us,[]⟩ (Value.ref (s.heap.objs.size+1)::(us++ds)) _ _ E (hr.make C us [])
  (I2.env0.make C us []) (hb _ (Value.ref (s.heap.objs.size+1)::us) I2.kIn hl) r2 hq) λr s' hq'=>?_))
 cases r with
 | error e=>exact hx pins σ _ _ e s' I2 hq'
 | ok fl =>
  cases fl with
  | ret u =>
   obtain ⟨v,H',I3,rv,ev,q3⟩:=I2.after hq';subst ev;exact ⟨rv,⟨V.ref (s.heap.objs.size+1),H',I3,rfl,q3⟩⟩
  | next=>exact False.elim hq'
  | brk=>exact False.elim hq'
  | cont=>exact False.elim hq'
theorem zP (M:Mk X.K C f) (F:FnOk X.prog X.w X.K X.mg X.base CX k f fd ps sp) (hr:Room (k+1) X.A) (hg:Gl X x) (hm:X.mg x=some (.ref C)) (hb:Binds X.K fd ps ds) (hd:Vals dvs ds) (hx:Du CX X E)
  (ha:PA X (e::es) t) (hdb:(x==("__debug__":Str))=false:=by decide) (he:starEach (e::es) X.env=(false,eval e X.env)::starEach es X.env:=by rfl) (hpl:(backTo pos (starEach es X.env)).any (·.1)=false:=by rfl) :
  PE X (.Call (.Name x p) (e::es) [] pos) (Ajp C sp dvs E t):=by
 intro pins s σ H Q I h;refine BJ (Pa I hg hm ?_ hdb);refine JD (h₀:=X.base) I.ok.mod.kin M.kp (thn (ha pos pins s σ H _ I h) λus s1 ⟨vs,H1,I1,r,q⟩=>⟨I1.kIn,?_⟩) he hpl;exact oU M F hr hb hd hx I1 r q
end
section
variable {X:Cx}{CX:CXT}{k:Nat}{f C:Addr}{fd:FuncData}{ps ks:List Str}{sp:Sp}{E:XK}{x m:Str}{p pos apos kpos:Pos}{e o:Expr}{es:List Expr}{kws:List Keyword}{te ta:TE}{t tk:TA}{nm:Option Str}
variable {g:List Value->List Value->List Value}{gV:List V->List V->List V}
end
structure FnScope (N P:List Str) (sc:Scope):Prop where
 kind:sc.kind=.function
 co:sc.isCoroutine=false
 gen:sc.isGenerator=false
 nd:N.Nodup
 pre:N.take P.length=P
 par:∀ x∈P,sc.names.lookup x=some .local\/sc.names.lookup x=some .cell
 nofree:∀ y∈sc.names,y.2≠.free
theorem Tq {kindOf:Str->Option NameKind}{x:Str}:∀ {binds:List (Str×Value)}{m:Str->Option Value},(∀ v,(x,v) ∉ binds)->bindL kindOf binds m x=m x
 | [],_,_=>rfl
 | (n,v)::r,m,h=>by
  unfold bindL;rw [Tq λw hw=>h w (iw _ hw)];split
  ·have:x≠n:=by rintro rfl;exact h v jb
   simp [this]
  ·rfl
theorem Tr {kindOf:Str->Option NameKind}{x:Str}:∀ {binds:List (Str×Value)}{m:Str->Option Value},(∀ v,(x,v) ∉ binds)->bindC kindOf binds m x=m x
 | [],_,_=>rfl
 | (n,v)::r,m,h=>by
  unfold bindC;rw [Tr λw hw=>h w (iw _ hw)];split
  ·rfl
  ·have:x≠n:=by rintro rfl;exact h v jb
   simp [this]
theorem Tv {kindOf:Str->Option NameKind}{x:Str}{v:Value}:∀ {P:List Str}{vs:List Value}{i:Nat}{m:Str->Option Value},P.Nodup->P[i]?=some x->vs[i]?=some v->kindOf x=some .local ->
  bindL kindOf (P.zip vs) m x=some v
 | [],_,_,_,_,h,_,_=>by simp at h
 | _::_,[],_,_,_,_,h,_=>by simp at h
 | p::P,w::vs,0,m,nd,h1,h2,hk=>by
  simp at h1 h2;subst h1;subst h2;show bindL kindOf ((p,w)::P.zip vs) m p=_;unfold bindL;rw [Tq λv hv=>(pq.mp nd).1 (QH hv).1,if_pos hk];simp
 | p::P,w::vs,i+1,m,nd,h1,h2,hk=>by
  show bindL kindOf ((p,w)::P.zip vs) m x=_;unfold bindL;exact Tv (i:=i) (pq.mp nd).2 (by simpa using h1) (by simpa using h2) hk
theorem Tw {kindOf:Str->Option NameKind}{x:Str}{v:Value}:∀ {P:List Str}{vs:List Value}{i:Nat}{m:Str->Option Value},P.Nodup->P[i]?=some x->vs[i]?=some v->kindOf x≠some .local ->
  bindC kindOf (P.zip vs) m x=some v
 | [],_,_,_,_,h,_,_=>by simp at h
 | _::_,[],_,_,_,_,h,_=>by simp at h
 | p::P,w::vs,0,m,nd,h1,h2,hk=>by
  simp at h1 h2;subst h1;subst h2;show bindC kindOf ((p,w)::P.zip vs) m p=_;unfold bindC;rw [Tr λv hv=>(pq.mp nd).1 (QH hv).1,if_neg hk];simp
 | p::P,w::vs,i+1,m,nd,h1,h2,hk=>by
  show bindC kindOf ((p,w)::P.zip vs) m x=_;unfold bindC;exact Tw (i:=i) (pq.mp nd).2 (by simpa using h1) (by simpa using h2) hk
noncomputable def start (N:List Str) (vs:List V):St:=vs.map some++fj (N.length - vs.length) none
noncomputable def jL (CX:CXT) (P:Program) (w:World) (K:aj) (mg:Str->Option Value) (base:Heap) (N:List Str) (qual:Str) (scope:Scope) (f:Addr) (cd:Value) (A:Around) (outer:List Env) (s:Shared) (H:Hp) (E:XK):Cx where
 prog:=P
 w:=w
 K:=K
 mg:=mg
 base:=base
 A:=A.deeper (envOfC qual scope s.heap.objs.size f cd)
 N:=N
 s₀:=s
 H₀:=H
 env:=envOfC qual scope s.heap.objs.size f cd
 outer:=outer
 stack:=envOfC qual scope s.heap.objs.size f cd::outer
 ex:=[]
 calm:=true
 fn:=λ_=>true
 pn:=[]
 xe:=λe s'=>wpAny (model P w) (A.deeper (envOfC qual scope s.heap.objs.size f cd)) (leaving (envOfC qual scope s.heap.objs.size f cd) e) (λ_ s''=>CX outer H s E e s'') (λe' s''=>CX outer H s E e' s'') s'
theorem Wy {sc:Scope}{n:Nat}{x:Str}(h:sc.names.lookup x=some .cell):∃ c,(cellsFrom n sc.names []).lookup x=some c:=by
 have q:=BL sc.names n [] (.inl h);exact zc.mp q
theorem jM {CX:CXT}{P:Program}{w:World}{K:aj}{mg:Str->Option Value}{base:Heap}{N ps:List Str}{qual:Str}{scope:Scope}{f:Addr}{cd:Value}{A:Around}{outer:List Env}{s s1:Shared}{H:Hp}{E:XK}{us:List Value}{vs:List V}
  (S:FnScope N ps scope) (hd:A.handled=none) (e0:Env0 P w K mg base A outer s H) (hl:vs.length=ps.length) (r:Vals vs us)
  (x:InCallC s s.heap.objs.size (bindL (envOfC qual scope s.heap.objs.size f cd).kindOf (ps.zip us) λ_=>none) (cellsFrom (s.heap.objs.size+1) scope.names []) (bindC (envOfC qual scope s.heap.objs.size f cd).kindOf (ps.zip us) λ_=>none) s1) :
  Inv (jL CX P w K mg base N qual scope f cd A outer s H E) [] (start N vs) H s1:=by
 have hpl:ps.length<=N.length:=by have:=congrArg List.length S.pre;rw [qd] at this;omega
 obtain ⟨h1,tk,rfl,hk⟩:=x.done;have noA:∀ b:Addr,b ∉ (jL CX P w K mg base N qual scope f cd A outer s H E).ex:=λb z=>absurd (show b∈([]:List Addr) from z) (by simp)
 refine ⟨⟨e0.mod,S.kind,rfl,rfl,bh _,λy z c h1 h2=>?_,λy hy=>?_,λy c _ h=>?_,λ_=>hd,Around.frames_deeper e0.frames,.inr ⟨rfl,rfl⟩,λb z=>absurd z (noA b),e0.bs,e0.bsz,λb _ _=>noA b,λb z=>absurd z (noA b),e0.funs,e0.frf⟩,
  rfl,e0.bare,Un.kept hk,⟨_,x.toInCall.ns,λi y v h1 h2 h3=>?_⟩,λy c h=>⟨_,x.cell y c h⟩,e0.hok.fresh (bh _),λy c h=>?_,λp hp=>absurd (show p∈([]:List (Addr×Obj)) from hp) (by simp),e0.hok.kept hk,?_⟩
 ·exact name_of_addr x.apart (jt h1) (jt h2)
 ·have hy:scope.names.lookup y=some .cell\/scope.names.lookup y=some .free:=hy;rcases hy with hy|hy
  ·exact Wy hy
  ·exact absurd rfl (S.nofree _ (jt hy))
 ·exact LK (x.above y c (jt h))
 ·have hi:i < vs.length:=by
   unfold start at h2
   by_cases hi:i < vs.length
   ·exact hi
   ·rw [qm (by simpa using hi)] at h2;rw [um] at h2;split at h2 <;> cases h2
  have ha:vs[i]?=some v:=by
   unfold start at h2;rw [ju (by simpa using hi),cj] at h2;cases e:vs[i]? with
   | none=>rw [e] at h2;cases h2
   | some a=>rw [e] at h2;cases h2;rfl
  obtain ⟨u,hu,rv⟩:=r.get ha;have hp:ps[i]?=some y:=by
   rw [← S.pre,List.getElem?_take_of_lt (by omega)];exact h1
  have ndP:ps.Nodup:=by rw [← S.pre];exact S.nd.sublist (JZ _ _)
  refine ⟨u,rv,?_⟩;rcases S.par y (gn hp) with k|k
  ·exact .inl ⟨k,Tv ndP hp hu k⟩
  ·obtain ⟨c,e⟩:=Wy (n:=s.heap.objs.size+1) k;refine .inr ⟨.inl k,c,e,?_⟩;have q:=x.cell y c e;rw [Tw ndP hp hu (by show scope.names.lookup y≠_;rw [k];decide)] at q;exact q
 ·exact .inl (e0.hok.fresh (LK (x.above y c (jt h))))
 ·unfold start;show _=N.length;rw [dg,ak,yd];omega
theorem Ajq {CX:CXT}{P:Program}{w:World}{K:aj}{mg:Str->Option Value}{base:Heap}{k:Nat}{f:Addr}{name qual:Str}{params:Arguments}{body:List Stmt}{scope:Scope}{dV kV doc pm cdv ct oc:Value}{an od:Option Addr}
  {osl:Array (Option Value)} {N ps:List Str} {sp:Sp} (lk:K.lookup f=some ⟨oc,od,.func (zf name qual params body scope dV kV doc pm an cdv ct),osl⟩) (hcd:IK K cdv qual=true) (S:FnScope N ps scope)
  (len:∀ vs H Q E,sp vs H Q E->vs.length=ps.length)
  (hbody:∀ (A:Around) (outer:List Env) (s:Shared) (H:Hp) (vs:List V) (Q:VK) (E:XK),Room k (A.deeper (envOfC qual scope s.heap.objs.size f cdv))->sp vs H Q E ->
   ∃ t,PSs (jL CX P w K mg base N qual scope f cdv A outer s H E) body t/\t { nx:=λ_ H'=>Q .non H',rt:=Q } (start N vs) H) :
  FnOk P w K mg base CX (k+1) f (zf name qual params body scope dV kV doc pm an cdv ct) ps sp:=by
 refine ⟨len,λA outer s H args us vs Q E hr e0 hb r hsp=>?_⟩;have hl:=len _ _ _ _ hsp;have KX:K.In s.heap:=e0.mod.kin.keeps λb o e=>(e0.bs b o e).1
 have lim:s.heap.NoLimit:=e0.mod.nolimit.keeps λb o e=>(e0.bs b o e).1
 have hkind:∀ y∈ps.zip us,scope.names.lookup y.1=some .local\/(scope.names.lookup y.1=some .cell/\((cellsFrom (s.heap.objs.size+1) scope.names []).lookup y.1).isSome=true):=by
  rintro ⟨n,v⟩ hy;rcases S.par n (QH hy).1 with q|q
  ·exact .inl q
  ·exact .inr ⟨q,BL _ _ _ (.inl q)⟩
 refine codeAny_call_function hr.depth (KX _ _ lk) rfl S.co S.gen rfl (PySem.W.codeRec_of KX hcd) (hb _ _ _ _ ?_);refine wpAny_newFunctionEnv_cells S.kind hkind λenv he s1 x=>?_
 subst he;refine ⟨lim.keeps x.toInCall.keep,codeAny_func ?_⟩;obtain ⟨t,ht,hq⟩:=hbody A outer s H vs Q E (hr.deeper _) hsp;have I:Inv (jL CX P w K mg base N qual scope f cdv A outer s H E) [] (start N vs) H s1:=jM S hr.hd e0 hl r x;refine yt (ht [] s1 (start N vs) H _ I hq) (λfl s' hs=>?_) λe s' hs=>hs
 have fin:∀ {σ':St} {H':Hp} {v:V} {u:Value},Inv (jL CX P w K mg base N qual scope f cdv A outer s H E) [] σ' H' s'->RelV v u->Q v H'->CE outer P w H s Q u s' :=
  λ{σ' H' v u} J rv q=>⟨v,H',J.os,J.bare,J.base,J.hok,rv,q⟩
 cases fl with
 | ret u =>
  obtain ⟨v,σ',H',J,rv,q⟩:=hs;exact fin J rv q
 | next =>
  obtain ⟨σ',H',J,q⟩:=hs;exact fin (v:=V.non) (u:=Value.none) J rfl q
 | brk =>
  obtain ⟨_,_,_,q⟩:=hs;exact False.elim q
 | cont =>
  obtain ⟨_,_,_,q⟩:=hs;exact False.elim q
section
variable {X:Cx}{x:Str}{p pos:Pos}{e:Expr}{es:List Expr}{t:TA}{id T:String}{r:List V->Hp->VK->Prop}
noncomputable def tCB (r:List V->Hp->VK->Prop) (t:TA):TE:=λσ H Q=>t σ H λvs H1=>r vs H1 Q
theorem Qn (hc:Bt X (.builtin id) r) (hg:Gl X x) (hm:X.mg x=none) (hv:bootBuiltins x=some (.builtin id)) (ha:PA X (e::es) t) (hn:x ≠ "__name__":=by decide) (hdb:(x==("__debug__":Str))=false:=by decide)
  (he:starEach (e::es) X.env=(false,eval e X.env)::starEach es X.env:=by rfl) (hpl:(backTo pos (starEach es X.env)).any (·.1)=false:=by rfl):PE X (.Call (.Name x p) (e::es) [] pos) (tCB r t):=by
 intro pins s σ H Q I h;refine BJ (Qk I hg hm hv ?_ hn hdb);exact PyProof.Rows.callWith_builtin1 (thn (ha pos pins s σ H _ I h) λus s1 ⟨vs,H1,I1,r1,q1⟩=>hc pins s1 σ H1 vs us Q I1 r1 q1) he hpl
theorem Fx (hc:Bt X (.type T) r) (hg:Gl X x) (hm:X.mg x=none) (hv:bootBuiltins x=some (.type T)) (ha:PA X (e::es) t) (hn:x ≠ "__name__":=by decide) (hdb:(x==("__debug__":Str))=false:=by decide)
  (he:starEach (e::es) X.env=(false,eval e X.env)::starEach es X.env:=by rfl) (hpl:(backTo pos (starEach es X.env)).any (·.1)=false:=by rfl):PE X (.Call (.Name x p) (e::es) [] pos) (tCB r t):=by
 intro pins s σ H Q I h;refine BJ (Qk I hg hm hv ?_ hn hdb);exact PyProof.Rows.callWith_type1 (thn (ha pos pins s σ H _ I h) λus s1 ⟨vs,H1,I1,r1,q1⟩=>hc pins s1 σ H1 vs us Q I1 r1 q1) he hpl
end
end L2
namespace HT
open PySem PyProof.Rows
section
open PySem.SeqAt
open PySem.AutoSeq1 (wpAny_loadPart')
open PySem.MeetsSeq PySem.MeetsSeq2 PySem.MeetsSeq3
end
section
variable {prog:Program}{w:World}{A:Around}{E:Value->Shared->Prop}{s:Shared}
theorem cat_tup {t b:Addr}{vs ws:List Value}{Q:Value->Shared->Prop}(ht:IsTup s.heap t vs.toArray) (hb:IsTup s.heap b ws.toArray) (hv:vs≠[])
  (h1:ws=[]->Q (.ref t) s) (h2:ws≠[]->Q (.ref s.heap.objs.size) { s with heap:=s.heap.push { cls:=.type "tuple",data:=.seq (vs++ws).toArray } })
  (hsz:vs.length+ws.length<=sizeLine):wpAny (model prog w) A (binaryOp .Add (.ref t) (.ref b)) Q E s:=by
 obtain ⟨⟨cls,dd,data,sl⟩,ho,hc,n,hd⟩:=id ht;obtain ⟨⟨cls2,dd2,data2,sl2⟩,ho2,hc2,n2,hd2⟩:=id hb;simp only at hc hd hc2 hd2;subst hc hd hc2 hd2;have e:vs.toArray++ws.toArray=(vs++ws).toArray:=by simp
 by_cases hw:ws=[]
 ·exact TJ ⟨_,ho,rfl⟩ ⟨_,ho2,rfl⟩ LQ RP GD FZ (DR _ _)
   (tuple_addW1 t b vs.toArray ws.toArray n n2 dd dd2 sl sl2 (by simpa using hv) (by simp [hw])) ⟨ho,ho2,h1 hw⟩
 ·refine TJ ⟨_,ho,rfl⟩ ⟨_,ho2,rfl⟩ LQ RP GD FZ (DR _ _)
   (tuple_addW2 t b vs.toArray ws.toArray n n2 dd dd2 sl sl2 (by simpa using hv) (by simpa using hw) (by rw [dw,dw];exact hsz)) ⟨ho,ho2,?_⟩
  rw [e];exact h2 hw
noncomputable def sIx (n d:Nat):Option Int->Nat
 | none=>d
 | some v=>if v < 0 then (v+(n:Int)).toNat else min v.toNat n
theorem sIx_none (n d:Nat):sIx n d none=d:=rfl
theorem sIx_nat (n d k:Nat):sIx n d (some (k:Int))=min k n:=by
 show (if (k:Int) < 0 then ((k:Int)+(n:Int)).toNat else min (k:Int).toNat n)=min k n;rw [if_neg (by omega),jh]
theorem Aew (n d:Nat) (hd:d<=n) (o:Option Int):sIx n d o<=n:=by
 cases o with
 | none=>exact hd
 | some v =>
  show (if v < 0 then (v+(n:Int)).toNat else min v.toNat n)<=n
  by_cases hv:v < 0
  ·rw [if_pos hv];omega
  ·rw [if_neg hv];exact Nat.min_le_right _ _
theorem dH (v:Int) (n d:Nat):(if v < 0 then max (v+(n:Int)) 0 else min v (n:Int))=((sIx n d (some v):Nat):Int):=by
 show (if v < 0 then max (v+(n:Int)) 0 else min v (n:Int))=(((if v < 0 then (v+(n:Int)).toNat else min v.toNat n):Nat):Int)
 by_cases hv:v < 0
 ·simp only [if_pos hv];omega
 ·simp only [if_neg hv];omega
theorem Z8 (lo hi:Option Int) (n:Nat):DK lo hi 1 (n:Int)=(((sIx n 0 lo:Nat):Int),((sIx n n hi:Nat):Int)):=by
 have h1:¬ ((1:Int) < 0):=by omega
 unfold DK;simp only [h1,if_false];refine Prod.ext ?_ ?_
 ·cases lo with
  | none=>rfl
  | some v=>exact dH v n 0
 ·cases hi with
  | none=>rfl
  | some v=>exact dH v n n
theorem Z9 (i j:Nat):yu (i:Int) (j:Int) 1=j - i:=by
 unfold yu;have h1:(1:Int) > 0:=by omega
 simp only [h1,if_true,Int.ediv_one];split <;> omega
theorem Qo {v:Value}{o:Option Int}{Q:Option Int->Shared->Prop}(p:IsPart v o) (h:Q o s):wpAny (model prog w) A (Builtin.Slice.slicePartIndex v) Q E s:=by
 cases p with
 | none=>exact slicePart_none h
 | int i t=>exact slicePart_int h
theorem sliceApplied_gen {sl:Addr}{vl vu:Value}{lo hi:Option Int}{n:Nat}{Q:Int×Int×Nat->Shared->Prop}(hs:s.heap.IsSliceOf sl vl vu .none) (pl:IsPart vl lo) (pu:IsPart vu hi)
  (h:Q (((sIx n 0 lo:Nat):Int),1,sIx n n hi - sIx n 0 lo) s):wpAny (model prog w) A (JN (.ref sl) (pure (n:Int))) Q E s:=by
 obtain ⟨os,hos,hcs,hds⟩:=id hs;unfold JN Builtin.Slice.sliceFields;refine aq (aq (BP hos hds (x:=vl) rfl (aq (BP hos hds (x:=vu) rfl (aq (BP hos hds (x:=.none) rfl (cu ?_)))))));refine aq (slicePart_none ?_);show wpAny _ _ (if ((1:Int)==0)=true then _ else _) _ _ s;rw [if_neg (by decide)];refine aq (Qo pl (aq (Qo pu (aq (cu ?_)))));show wpAny _ _ (match DK lo hi 1 (n:Int) with | (lo,hi)=>pure (lo,(1:Int),yu lo hi 1)) _ _ s;rw [Z8 lo hi n];show wpAny _ _ (pure (((sIx n 0 lo:Nat):Int),(1:Int),yu ((sIx n 0 lo:Nat):Int) ((sIx n n hi:Nat):Int) 1)) _ _ s;rw [Z9];exact cu h
theorem oV (xs:Array Value) (i k:Nat):((dm k).filterMap λ(m:Nat)=>xs[((i:Int)+(m:Int) * 1).toNat]?).toArray=((xs.toList.drop i).take k).toArray:=by
 have e:(λ(m:Nat)=>xs[((i:Int)+(m:Int) * 1).toNat]?)=λm=>xs[i+m]?:=by
  funext m;have:((i:Int)+(m:Int) * 1).toNat=i+m:=by omega
  rw [this]
 rw [e];have:=pick_run xs i k;rw [List.filterMap_map] at this;have e2:((λx=>xs[x]?) ∘ λx=>i+x)=λm=>xs[i+m]?:=rfl
 rw [e2] at this;rw [this]
theorem getItem_tuple_cut {t sl:Addr}{items:Array Value}{vl vu:Value}{lo hi:Option Int}{Q:Value->Shared->Prop}(ht:IsTup s.heap t items) (hs:s.heap.IsSliceOf sl vl vu .none) (pl:IsPart vl lo) (pu:IsPart vu hi)
  (hw:¬ (sIx items.size 0 lo=0/\sIx items.size items.size hi=items.size))
  (h:Q (.ref s.heap.objs.size) { s with heap:=s.heap.push { cls:=.type "tuple",data:=.seq ((items.toList.drop (sIx items.size 0 lo)).take (sIx items.size items.size hi - sIx items.size 0 lo)).toArray } })
  (hsz:items.size<=sizeLine):wpAny (model prog w) A (getItem (.ref t) (.ref sl)) Q E s:=by
 have htake:sizeOk (.seq ((items.toList.drop (sIx items.size 0 lo)).take (sIx items.size items.size hi - sIx items.size 0 lo)).toArray):=by
  show ((items.toList.drop (sIx items.size 0 lo)).take (sIx items.size items.size hi - sIx items.size 0 lo)).toArray.size<=sizeLine;rw [dw,qd,CJ,mq];omega
 have hj:sIx items.size items.size hi<=items.size:=Aew _ _ (bh _) hi;obtain ⟨os,hos,hcs,hds⟩:=id hs
 have hTs:s.TypeIs (.ref sl) "slice":=⟨os,hos,hcs⟩
 unfold getItem
 try with_reducible refine wu ?_
 first | refine aq (cu ?_) | skip
 refine aq (VJ ht.typeIs (by decide) ?_)
 refine aq (uq (name:=Str.ofString "__getitem__") ht.typeIs PyProof.Rows.slot_tuple_getitem
  (CK PyProof.Rows.slot_tuple_getitem ht.typeIs RZ ?_ (TQ _ _)))
 show wpAny _ _ (CQ (.ref t) >>= _) _ _ s;refine aq (tupleItemsOf_ ht ?_);refine aq (LR hTs ?_);rw [if_pos (by decide)];refine aq (sliceApplied_gen hs pl pu ?_);have hno:¬ ((((sIx items.size 0 lo:Nat):Int)==0&&(1:Int)==1&&(sIx items.size items.size hi - sIx items.size 0 lo)==items.size)=true):=by
  intro q;rw [bf,bf] at q;have q1:((sIx items.size 0 lo:Nat):Int)=0:=dj q.1.1;have q2:sIx items.size items.size hi - sIx items.size 0 lo=items.size:=dj q.2;exact hw ⟨by omega,by omega⟩
 show wpAny _ _ (if (((sIx items.size 0 lo:Nat):Int)==0&&(1:Int)==1&&(sIx items.size items.size hi - sIx items.size 0 lo)==items.size)=true then _ else _) _ _ s;rw [if_neg hno,oV]
 first
  | exact aq (m:=ud _) (qw (cu ⟨_,rfl,cu h⟩) htake)
  | exact aq (m:=ud _) (qw (aq (cu (cu ⟨_,rfl,cu h⟩))) htake)
  | exact aq (aq (m:=ud _) (qw (cu (cu ⟨_,rfl,cu h⟩)) htake))
  | exact aq (aq (m:=ud _) (qw (cu ⟨_,rfl,cu h⟩) htake))
end
end HT
namespace L2
open PySem PySem.Spec PyProof.Rows
noncomputable abbrev TO:=St->Hp->(Option Int->Hp->Prop)->Prop
noncomputable def PO (X:Cx) (e:Option Expr) (t:TO):Prop :=
 ∀ (pins:List (Addr×Obj)) (s:Shared) (σ:St) (H:Hp) (Q:Option Int->Hp->Prop),Inv X pins σ H s->t σ H Q ->
  wpAny (model X.prog X.w) X.A (evalPart e X.env) (λu s'=>∃ o H',Inv X pins σ H' s'/\IsPart u o/\Q o H') X.xe s
noncomputable def zQ:TO:=λ_ H Q=>Q none H
noncomputable def Ajr (t:TE):TO:=λσ H Q=>t σ H λx H1=>∃ i,x=.int i/\Q (some i) H1
theorem intsAre_of {ns:List Int}:∀ {us:List Value},Vals (ns.map V.int) us->IntsAre us ns:=by
 induction ns with
 | nil=>intro us r;rw [MF] at r;cases r;exact .nil
 | cons n ns ih =>
  intro us r;rw [iu] at r;cases r with
  | cons r1 r2 =>
   obtain ⟨t,e⟩:=r1;subst e;exact .cons n t (ih r2)
section
variable {X:Cx}{e:Expr}{te:TE}{lo hi:Option Expr}{tl th:TO}{pos p2:Pos}
theorem zR:PO X none zQ:=by
 intro pins s σ H Q I h;rw [evalPart_none];exact cu ⟨none,H,I,.none,h⟩
theorem zT (h:PE X e te):PO X (some e) (Ajr te):=by
 intro pins s σ H Q I hw;rw [JP];refine thn (h pins s σ H _ I hw) ?_;rintro u s1 ⟨x,H1,I1,r1,q1⟩;obtain ⟨i,rfl,q⟩:=q1;obtain ⟨t,rfl⟩:=r1;exact ⟨some i,H1,I1,.int i t,q⟩
noncomputable def SlR (X:Cx) (r:V->Option Int->Option Int->Hp->VK->Prop):Prop :=
 ∀ (pins:List (Addr×Obj)) (s:Shared) (σ:St) (H:Hp) (x:V) (v vl vu:Value) (lo hi:Option Int) (sl:Addr) (Q:VK),Inv X pins σ H s->RelV x v->s.heap.IsSliceOf sl vl vu .none->IsPart vl lo->IsPart vu hi->r x lo hi H Q ->
  ∃ T id,typeLookup (.type T) "__getitem__"=pure (some (.builtin id))/\s.TypeIs v T/\wpAny (model X.prog X.w) X.A (getItem v (.ref sl)) (EP X pins σ Q) X.xe s
theorem SlR.or {r r':V->Option Int->Option Int->Hp->VK->Prop}(h:SlR X r) (h':SlR X r'):SlR X (λx lo hi H Q=>r x lo hi H Q\/r' x lo hi H Q):=by
 intro pins s σ H x v vl vu lo hi sl Q I rx hs pl pu q;rcases q with q|q
 ·exact h pins s σ H x v vl vu lo hi sl Q I rx hs pl pu q
 ·exact h' pins s σ H x v vl vu lo hi sl Q I rx hs pl pu q
noncomputable def tSl (r:V->Option Int->Option Int->Hp->VK->Prop) (te:TE) (tl th:TO):TE:=λσ H Q=>te σ H λx H1=>tl σ H1 λl H2=>th σ H2 λu H3=>r x l u H3 Q
theorem oW {r:V->Option Int->Option Int->Hp->VK->Prop}(hr:SlR X r) (he:PE X e te) (hl:PO X lo tl) (hu:PO X hi th):PE X (.Subscript e (.Slice lo hi none p2) pos) (tSl r te tl th):=by
 intro pins s σ H Q I h;refine WY (thn (he pins s σ H _ I h) ?_);rintro v s1 ⟨x,H1,I1,r1,q1⟩;refine wpAny_Slice (thn (hl pins s1 σ H1 _ I1 q1) ?_);rintro vl s2 ⟨l,H2,I2,pl,q2⟩;refine thn (hu pins s2 σ H2 _ I2 q2) ?_;rintro vu s3 ⟨u,H3,I3,pu,q3⟩;rw [evalPart_none];refine cu ?_
 have I4:Inv X pins σ H3 { s3 with heap:=s3.heap.push { cls:=.type "slice",data:=.fields #[vl,vu,.none] } }:=I3.kept (t':=s3.toks) λb ob q=>bw _ q
 obtain ⟨T,id,hT,ht,hg⟩:=hr pins { s3 with heap:=s3.heap.push { cls:=.type "slice",data:=.fields #[vl,vu,.none] } } σ H3 x v vl vu l u s3.heap.objs.size Q I4 r1 (Heap.IsSliceOf.new ..) pl pu q3
 show wpAny (model X.prog X.w) X.A (subscriptTail e (.Slice lo hi none p2) v (.ref s3.heap.objs.size)) (EP X pins σ Q) X.xe { s3 with heap:=s3.heap.push { cls:=.type "slice",data:=.fields #[vl,vu,.none] } };exact tail_any (ops:=[.ref s3.heap.objs.size,v]) ht hT hg (by with_unfolding_all rfl)
noncomputable def Wz (xs:List V) (lo hi:Option Int):List V:=(xs.drop (HT.sIx xs.length 0 lo)).take (HT.sIx xs.length xs.length hi - HT.sIx xs.length 0 lo)
theorem Og (xs:List V) (lo hi:Option Int):(Wz xs lo hi).length<=xs.length:=by
 unfold Wz;rw [qd,CJ];omega
noncomputable def Al7 (K:aj):V->Option Int->Option Int->Hp->VK->Prop:=λx lo hi H Q=>∃ a xs,x=.ref a/\SqT K H a xs /\
 ¬ (HT.sIx xs.length 0 lo=0/\HT.sIx xs.length xs.length hi=xs.length)/\∀ p,H p=none->Q (.ref p) (upd H p (.tup (Wz xs lo hi)))
theorem Aex:SlR X (Al7 X.K):=by
 intro pins s σ H x v vl vu lo hi sl Q I rx hs pl pu h;obtain ⟨a,xs,rfl,hx,hw,q⟩:=h;cases rx;obtain ⟨its,r,ht,hz⟩:=I.tuple hx;have hlen:its.toArray.size=xs.length:=by rw [dw];exact r.length.symm
 refine ⟨"tuple",_,PyProof.Rows.slot_tuple_getitem.lookup,ht.typeIs,?_⟩;refine HT.getItem_tuple_cut ht hs pl pu (by rw [hlen];exact hw) ?_ (by rw [hlen];exact hz);rw [hlen];refine ⟨.ref s.heap.objs.size,_,I.laid (t':=s.toks) (o:=.tup (Wz xs lo hi)) (λb ob q=>bw _ q) (bh _) ?_,rfl,q _ (I.hok.fresh (bh _))⟩;exact ⟨dz (Og xs lo hi) hz,_,(r.drop (HT.sIx xs.length 0 lo)).take (HT.sIx xs.length xs.length hi - HT.sIx xs.length 0 lo),O3.new _ _⟩
noncomputable def Ajs (K:aj):R2:=λx y H Q=>∃ a b xs ys,x=.ref a/\y=.ref b/\SqT K H a xs/\SqT K H b ys/\xs≠[]/\xs.length+ys.length<=sizeLine /\
 (ys=[]->Q (.ref a) H)/\(ys≠[]->∀ p,H p=none->Q (.ref p) (upd H p (.tup (xs++ys))))
theorem Vals.nil_iff {xs:List V}{us:List Value}(r:Vals xs us):us=[] ↔ xs=[]:=by
 cases r with
 | nil=>simp
 | cons _ _=>simp
theorem zU:OpR X (binaryOp .Add) (Ajs X.K):=by
 intro pins s σ H x y v u Q I rx ry h;obtain ⟨a,b,xs,ys,rfl,rfl,ha,hb,hx,hz,q1,q2⟩:=h;cases rx;cases ry;obtain ⟨its,r1,p1,_⟩:=I.tuple ha;obtain ⟨its2,r2,p2,_⟩:=I.tuple hb;refine HT.cat_tup p1 p2 (λz=>hx (r1.nil_iff.mp z)) (λz=>⟨.ref a,H,I,rfl,q1 (r2.nil_iff.mp z)⟩) (λz=>?_) (by rw [← r1.length,← r2.length];exact hz);refine ⟨.ref s.heap.objs.size,_,I.laid (t':=s.toks) (o:=.tup (xs++ys)) (λb ob q=>bw _ q) (bh _) ?_,rfl,q2 (λw=>z (r2.nil_iff.mpr w)) _ (I.hok.fresh (bh _))⟩;exact ⟨by rw [dg];exact hz,_,r1.append r2,O3.new _ _⟩
end
noncomputable def ixN (n:Nat) (i:Int):Option Nat:=if 0<=i then (if i < n then some i.toNat else none) else if -(n:Int)<=i then some (i+n).toNat else none
noncomputable def atI {α:Type}(xs:List α) (i:Int):Option α:=(ixN xs.length i).bind λj=>xs[j]?
theorem dI {n:Nat}{i:Int}{j:Nat}(h:ixN n i=some j):seqIndex? i n=some j/\j < n/\-(n:Int)<=i/\i < n:=by
 unfold ixN at h
 by_cases h0:0<=i
 ·rw [if_pos h0] at h
  by_cases h1:i < n
  ·rw [if_pos h1] at h;have e:i.toNat=j:=Option.some.inj h;exact ⟨by rw [WQ h0 h1,e],by omega,by omega,h1⟩
  ·rw [if_neg h1] at h;cases h
 ·rw [if_neg h0] at h
  by_cases h1:-(n:Int)<=i
  ·rw [if_pos h1] at h;have e:(i+n).toNat=j:=Option.some.inj h;exact ⟨by rw [TV (by omega) h1,e],by omega,h1,by omega⟩
  ·rw [if_neg h1] at h;cases h
theorem U7 {α:Type}{xs:List α}{i:Int}{v:α}(h:atI xs i=some v):∃ j,seqIndex? i xs.length=some j/\xs[j]?=some v/\j < xs.length/\-(xs.length:Int)<=i/\i < xs.length:=by
 unfold atI at h;cases e:ixN xs.length i with
 | none=>rw [e] at h;cases h
 | some j =>
  rw [e] at h;obtain ⟨h1,h2,h3,h4⟩:=dI e;exact ⟨j,h1,h,h2,h3,h4⟩
theorem U8 {α:Type}{xs:List α}{j:Nat}{v:α}(h:xs[j]?=some v):atI xs (j:Int)=some v:=by
 have hj:j < xs.length:=(cg.mp h).1;have e:ixN xs.length (j:Int)=some j:=by
  unfold ixN;rw [if_pos (by omega),if_pos (by omega)];simp
 unfold atI;rw [e];exact h
noncomputable def U9 (b:Expr):Prop:=∀ o i,subscripted b false o i=operate [o,i] (getItem o i)
noncomputable def IxR (X:Cx) (r:R2):Prop :=
 ∀ (value slice:Expr) (pins:List (Addr×Obj)) (s:Shared) (σ:St) (H:Hp) (x y:V) (v u:Value) (Q:VK),Inv X pins σ H s->RelV x v->RelV y u->r x y H Q ->
  subscripted slice false v u=operate [v,u] (getItem v u)->wpAny (model X.prog X.w) X.A (subscriptTail value slice v u) (EP X pins σ Q) X.xe s
noncomputable def MtR (X:Cx) (id:String) (r:V->List V->Hp->VK->Prop):Prop :=
 ∀ (pins:List (Addr×Obj)) (s:Shared) (σ:St) (H:Hp) (x:V) (xs:List V) (v:Value) (us:List Value) (Q:VK),Inv X pins σ H s->RelV x v->Vals xs us->r x xs H Q ->
  wpAny (model X.prog X.w) X.A (call (.builtin id) (v::us)) (EP X pins σ Q) X.xe s
section
variable {X:Cx}{a b:Expr}{ta tb:TE}{pos:Pos}
theorem IxR.or {r r':R2}(h:IxR X r) (h':IxR X r'):IxR X (λx y H Q=>r x y H Q\/r' x y H Q):=by
 intro value slice pins s σ H x y v u Q I rx ry q hs;rcases q with q|q
 ·exact h value slice pins s σ H x y v u Q I rx ry q hs
 ·exact h' value slice pins s σ H x y v u Q I rx ry q hs
theorem Ajt {r:R2}(hr:IxR X r) (ha:PE X a ta) (hb:PE X b tb) (hs:U9 b):PE X (.Subscript a b pos) (tOp r ta tb):=by
 intro pins s σ H Q I h;exact WY (Aeg ha hb I h λv u s2 x y H2 I2 rx ry q=>hr a b pins s2 σ H2 x y v u Q I2 rx ry q (hs _ _))
noncomputable def Aju (K:aj):R2:=λx y H Q=>∃ p xs i v,x=.ref p/\y=.int i/\SqL K H p xs/\atI xs i=some v/\Q v H
noncomputable def Ajv (K:aj):R2:=λx y H Q=>∃ p xs i v,x=.ref p/\y=.int i/\SqT K H p xs/\atI xs i=some v/\Q v H
noncomputable def Ajw:R2:=λx y H Q=>∃ z i c,x=.str z/\y=.int i/\z.length<=sizeLine/\atI z.cps.toList i=some c/\Q (.str ⟨#[c]⟩) H
theorem zV:IxR X (Aju X.K):=by
 intro value slice pins s σ H x y v u Q I rx ry h hs;obtain ⟨p,xs,i,z,rfl,rfl,hq,he,q⟩:=h;cases rx;obtain ⟨t,rfl⟩:=ry;obtain ⟨its,r,pl,hz⟩:=I.list hq;obtain ⟨j,h1,h2,h3,h4,h5⟩:=U7 he;obtain ⟨w,ew,rw'⟩:=r.get h2;have hl:=r.length;have hn:=K7;have fin:EP X pins σ Q w s:=⟨z,H,I,rw',q⟩
 by_cases h0:0<=i
 ·have hj:i.toNat=j:=by
   rw [WQ h0 h5] at h1;exact Option.some.inj h1
  exact item_listR pl.isList h0 (by omega) (by rw [hj];simpa using ew) fin hs
 ·have hj:(i+(its.toArray.size:Int)).toNat=j:=by
   rw [TV (by omega) h4] at h1;rw [dw,← hl];exact Option.some.inj h1
  exact BR (x:=w) pl.isList.typeIs slot_list_getitem.lookup
   (wpAny_getItem_list_neg (Q:=λr s'=>r=w/\EP X pins σ Q r s') pl.isList (by omega) (by rw [dw] <;> omega) (by omega) (by rw [hj];simpa using ew) ⟨rfl,fin⟩) hs
theorem Aey:IxR X (Ajv X.K):=by
 intro value slice pins s σ H x y v u Q I rx ry h hs;obtain ⟨p,xs,i,z,rfl,rfl,hq,he,q⟩:=h;cases rx;obtain ⟨t,rfl⟩:=ry;obtain ⟨its,r,pl,hz⟩:=I.tuple hq;obtain ⟨j,h1,h2,h3,h4,h5⟩:=U7 he;obtain ⟨w,ew,rw'⟩:=r.get h2;have hl:=r.length;have hn:=K7;have fin:EP X pins σ Q w s:=⟨z,H,I,rw',q⟩;exact BR (x:=w) pl.typeIs slot_tuple_getitem.lookup
  (getItem_tuple (j:=j) (Q:=λr s'=>r=w/\EP X pins σ Q r s') pl (by omega) (by omega) (by rw [dw,← hl];exact h1) (by simpa using ew) ⟨rfl,fin⟩) hs
theorem Aez:IxR X Ajw:=by
 intro value slice pins s σ H x y v u Q I rx ry h hs;obtain ⟨z,i,c,rfl,rfl,hz,he,q⟩:=h;obtain ⟨t,rfl⟩:=rx;obtain ⟨t',rfl⟩:=ry;obtain ⟨j,h1,h2,h3,h4,h5⟩:=U7 he;have hl:z.cps.toList.length=z.length:=by simp [Str.length]
 rw [hl] at h1 h4 h5;have hn:=K7
 exact tail_any (typeIs_str s z t) slot_str_getitem.lookup (getItem_str (c:=c) (by
  have e1:decide (i < -(2 ^ 63:Int))=false:=decide_eq_false (by omega);have e2:decide (i ≥ 2 ^ 63)=false:=decide_eq_false (by omega)
  rw [e1,e2,RQ]) (by rw [h1];simpa using h2) ⟨.str ⟨#[c]⟩,H,I.tok _,⟨_,rfl⟩,q⟩) hs
noncomputable def rIx (K:aj):R2:=λx y H Q=>Aju K x y H Q\/Ajv K x y H Q\/Ajw x y H Q
theorem Ae0:IxR X (rIx X.K):=zV.or (Aey.or Aez)
theorem aA (its:List Value) (n j:Nat) (u:Value):CN (·.setIfInBounds j u) { cls:=.type "list",data:=.seq its.toArray n }={ cls:=.type "list",data:=.seq (its.set j u).toArray n }:=by
 simp [CN]
theorem Inv.lst {pins:List (Addr×Obj)}{σ:St}{H:Hp}{s:Shared}{p:Addr}{xs:List V}(I:Inv X pins σ H s) (h:H p=some (.lst xs)) :
  ∃ (its:List Value) (n:Nat),Vals xs its/\s.heap.get? p=some { cls:=.type "list",data:=.seq its.toArray n }/\xs.length<=sizeLine:=by
 obtain ⟨z,its,n,r,e⟩:=I.hok p _ h;exact ⟨its,n,r,e,z⟩
theorem Inv.lstUpd {pins:List (Addr×Obj)}{σ:St}{H:Hp}{s:Shared}{p:Addr}{xs ys:List V}{its its':List Value}{n n':Nat}{f:Obj->Obj}(I:Inv X pins σ H s) (h:H p=some (.lst xs))
  (ho:s.heap.get? p=some { cls:=.type "list",data:=.seq its.toArray n }) (hf:f { cls:=.type "list",data:=.seq its.toArray n }={ cls:=.type "list",data:=.seq its'.toArray n' }) (r:Vals ys its') (hz:ys.length<=sizeLine) (t:Nat) :
  Inv X pins σ (upd H p (.lst ys)) { s with heap:=s.heap.update p f,toks:=t }:=by
 have e:(s.heap.update p f).get? p=some { cls:=.type "list",data:=.seq its'.toArray n' }:=by
  rw [GX f ho (by rw [hf] <;> rfl),hf]
 refine I.write (x:=p) (e:=p) (by rw [h];trivial) (.inl rfl) (λb u hb q=>(QJ _ _ (Ne.symm hb)).trans q) ⟨_,e⟩ ?_;exact ⟨hz,its',n',r,e⟩
noncomputable def Ajx:V->V->V->Hp->(Hp->Prop)->Prop:=λo i v H Q=>∃ p xs k j,o=.ref p/\i=.int k/\H p=some (.lst xs)/\ixN xs.length k=some j/\Q (upd H p (.lst (xs.set j v)))
theorem set_list:Ajd X Ajx:=by
 intro pins s σ H o i v ov iv u Q I ro ri rv h;obtain ⟨p,xs,k,j,rfl,rfl,hp,hj,q⟩:=h;cases ro;obtain ⟨t,rfl⟩:=ri;obtain ⟨its,n,r,ho,hz⟩:=I.lst hp;obtain ⟨h1,h2,h3,h4⟩:=dI hj;have hl:=r.length;have hn:=K7;have I':Inv X pins σ (upd H p (.lst (xs.set j v))) { s with heap:=s.heap.update p (CN (·.setIfInBounds j u)) } :=
  I.lstUpd hp ho (aA its n j u) (r.set rv j) (by rw [jz];exact hz) s.toks
 by_cases h0:0<=k
 ·have hk:k.toNat=j:=by
   rw [WQ h0 h4] at h1;exact Option.some.inj h1
  exact PySem.W.ki_setAt ho h0 (by omega) (by rw [dw,← hl];exact h4) (by rw [hk];exact ⟨_,I',q⟩)
 ·have hk:(k+(its.toArray.size:Int)).toNat=j:=by
   rw [TV (by omega) h3] at h1;rw [dw,← hl];exact Option.some.inj h1
  exact PySem.W.ki_setBack ho (by omega) (by rw [dw,← hl];exact h3) (by omega) (by rw [hk];exact ⟨_,I',q⟩)
theorem Va (lo hi:Option Int) (n:Nat):(sliceBounds lo hi none n).1=((HT.sIx n 0 lo:Nat):Int)/\(sliceBounds lo hi none n).2.1=((HT.sIx n n hi:Nat):Int)/\(sliceBounds lo hi none n).2.2=1:=by
 refine ⟨?_,?_,rfl⟩
 ·cases lo with
  | none=>simp [sliceBounds,HT.sIx]
  | some i =>
   simp only [sliceBounds,HT.sIx,Option.getD_none,show (1:Int) > 0 by decide,if_true]
   by_cases h:i < 0
   ·simp only [h,if_true] <;> omega
   ·simp only [h,if_false] <;> omega
 ·cases hi with
  | none=>simp [sliceBounds,HT.sIx]
  | some i =>
   simp only [sliceBounds,HT.sIx,Option.getD_none,show (1:Int) > 0 by decide,if_true]
   by_cases h:i < 0
   ·simp only [h,if_true] <;> omega
   ·simp only [h,if_false] <;> omega
theorem Sx (its:List Value) (lo hi:Option Int):slicePick its.toArray lo hi none=((its.drop (HT.sIx its.length 0 lo)).take (HT.sIx its.length its.length hi - HT.sIx its.length 0 lo)).toArray:=by
 obtain ⟨h1,h2,h3⟩:=Va lo hi its.toArray.size;unfold slicePick;rw [h1,h2,h3];simp only [sliceRange_one,pick_run,dw] <;> rfl
noncomputable def Al8 (K:aj):V->Option Int->Option Int->Hp->VK->Prop:=λx lo hi H Q=>∃ a xs,x=.ref a/\SqL K H a xs/\∀ p,H p=none->Q (.ref p) (upd H p (.lst (Wz xs lo hi)))
theorem zW:SlR X (Al8 X.K):=by
 intro pins s σ H x v vl vu lo hi sl Q I rx hs pl pu h;obtain ⟨a,xs,rfl,hx,q⟩:=h;cases rx;obtain ⟨its,r,ht,hz⟩:=I.list hx;have hlen:=r.length
 refine ⟨"list",_,slot_list_getitem.lookup,ht.isList.typeIs,?_⟩;refine MJ ht.isList hs pl pu .none (by simp) ?_ (by rw [dw] <;> omega);rw [Sx,← hlen];refine ⟨.ref s.heap.objs.size,_,I.laid (t':=s.toks) (o:=.lst (Wz xs lo hi)) (λb ob q=>bw _ q) (bh _) ?_,rfl,q _ (I.hok.fresh (bh _))⟩;exact ⟨dz (Og xs lo hi) hz,_,0,(r.drop (HT.sIx xs.length 0 lo)).take (HT.sIx xs.length xs.length hi - HT.sIx xs.length 0 lo),gq _ rfl⟩
theorem Vb:Bt X (.builtin "len") (λxs H Q=>∃ p ys,xs=[.ref p]/\(SqL X.K H p ys\/SqT X.K H p ys)/\Q (.int ys.length) H):=by
 intro pins s σ H xs us Q I r h;obtain ⟨p,ys,rfl,hq,q⟩:=h;obtain ⟨u,rfl,rx⟩:=vals1 r;cases rx;have hn:=K7;rcases hq with hq|hq
 ·obtain ⟨its,r',pl,hz⟩:=I.list hq;have hlen:=r'.length;exact Calls.call_len_list pl.isList (by simp only [dw] <;> omega) ⟨.int ys.length,H,I.tok _,⟨s.toks+1,by rw [dw,hlen]⟩,q⟩
 ·obtain ⟨its,r',pl,hz⟩:=I.tuple hq;have hlen:=r'.length;exact len_tuple pl (by simp only [dw] <;> omega) ⟨.int ys.length,H,I.tok _,⟨s.toks+1,by rw [dw,hlen]⟩,q⟩
theorem Vc:Bt X (.builtin "len") (λxs H Q=>∃ z,xs=[.str z]/\z.length<=sizeLine/\Q (.int z.length) H):=by
 intro pins s σ H xs us Q I r h;obtain ⟨z,rfl,hz,q⟩:=h;obtain ⟨u,rfl,t,rfl⟩:=vals1 r;have hn:=K7;exact len_str (by omega) ⟨.int z.length,H,I.tok _,⟨_,rfl⟩,q⟩
theorem Bt.or {f:Value}{r r':List V->Hp->VK->Prop}(h:Bt X f r) (h':Bt X f r'):Bt X f (λxs H Q=>r xs H Q\/r' xs H Q):=by
 intro pins s σ H xs us Q I rs q;rcases q with q|q
 ·exact h pins s σ H xs us Q I rs q
 ·exact h' pins s σ H xs us Q I rs q
theorem Vd:Bt X (.type "list") (λxs H Q=>∃ p ys,xs=[.ref p]/\(SqL X.K H p ys\/SqT X.K H p ys)/\∀ l,H l=none->Q (.ref l) (upd H l (.lst ys))):=by
 intro pins s σ H xs us Q I r h;obtain ⟨p,ys,rfl,hq,q⟩:=h;obtain ⟨u,rfl,rx⟩:=vals1 r;cases rx;have fin:∀ (its:List Value),Vals ys its->ys.length<=sizeLine->∀ (h':Heap) (c':Nat),(∀ b o',s.heap.get? b=some o'->h'.get? b=some o') ->
   h'.get? s.heap.objs.size=some { cls:=.type "list",dict:=none,data:=.seq its.toArray c',slots:=#[] }->EP X pins σ Q (.ref s.heap.objs.size) { s with heap:=h' }:=λits r' hz h' c' kp e =>
  ⟨.ref s.heap.objs.size,_,I.laid (t':=s.toks) kp (bh _) (show Di X.prog X.w _ h' _ (.lst ys) from ⟨hz,its,c',r',e⟩),rfl,q _ (I.hok.fresh (bh _))⟩
 rcases hq with hq|hq
 ·obtain ⟨its,r',pl,hz⟩:=I.list hq;have hlen:=r'.length;obtain ⟨o,ho,hc,n,hd⟩:=pl.isList;exact call_list_seq p (.inl rfl) ho hc hd (λh' c' kp e=>fin its r' hz h' c' kp e) (by simp only [dw] <;> omega)
 ·obtain ⟨its,r',pl,hz⟩:=I.tuple hq;have hlen:=r'.length;obtain ⟨o,ho,hc,n,hd⟩:=pl;exact call_list_seq p (.inr rfl) ho hc hd (λh' c' kp e=>fin its r' hz h' c' kp e) (by simp only [dw] <;> omega)
theorem Sy:Bt X (.type "tuple") (λxs H Q=>∃ p ys,xs=[.ref p]/\((SqL X.K H p ys/\∀ l,H l=none->Q (.ref l) (upd H l (.tup ys)))\/(SqT X.K H p ys/\Q (.ref p) H))):=by
 intro pins s σ H xs us Q I r h;obtain ⟨p,ys,rfl,h⟩:=h;obtain ⟨u,rfl,rx⟩:=vals1 r;cases rx;rcases h with ⟨hq,q⟩|⟨hq,q⟩
 ·obtain ⟨its,r',pl,hz⟩:=I.list hq;have hlen:=r'.length;refine call_tuple_list pl.isList (λh' kp=>?_) (by simp only [dw] <;> omega);have I1:Inv X pins σ H { s with heap:=h' }:=I.kept (t':=s.toks) kp
  have I2:Inv X pins σ (upd H h'.objs.size (.tup ys)) { s with heap:=h'.push { cls:=.type "tuple",data:=.seq its.toArray } } :=
   I1.laid (t':=s.toks) (λb o e=>bw _ e) (bh _) (show Di X.prog X.w _ _ _ (.tup ys) from ⟨hz,its,r',O3.new _ _⟩)
  exact ⟨.ref h'.objs.size,_,I2,rfl,q _ (I1.hok.fresh (bh _))⟩
 ·obtain ⟨its,r',pl,hz⟩:=I.tuple hq;exact call_tuple_same pl ⟨.ref p,H,I,rfl,q⟩
noncomputable def tyV (K:aj) (T:String) (x:V) (H:Hp):Prop:=match x with
 | .str _=>T = "str"
 | .int _=>T = "int"
 | .ref p=>(T = "list"/\∃ xs,SqL K H p xs)\/(T = "tuple"/\∃ xs,SqT K H p xs) \/
   (T = "dict"/\((∃ kvs,H p=some (.dK kvs))\/∃ kvs,H p=some (.dT kvs)))\/(T = "set"/\∃ S n,H p=some (.set S n))
 | _=>False
theorem oX {pins:List (Addr×Obj)}{σ:St}{H:Hp}{s:Shared}{T:String}{x:V}{v:Value}(I:Inv X pins σ H s) (r:RelV x v) (ty:tyV X.K T x H) :
  s.TypeIs v T/\∀ a,v=.ref a->∃ ob,s.heap.get? a=some ob/\ob.dict=none:=by
 cases x with
 | str z =>
  obtain ⟨t,rfl⟩:=r
  cases (show T = "str" from ty);exact ⟨typeIs_str s z t,λ_ e=>nomatch e⟩
 | int i =>
  obtain ⟨t,rfl⟩:=r
  cases (show T = "int" from ty);exact ⟨typeIs_int s i t,λ_ e=>nomatch e⟩
 | ref p =>
  cases r;rcases ty with ⟨rfl,xs,hq⟩|⟨rfl,xs,hq⟩|⟨rfl,hk⟩|⟨rfl,S,n,hk⟩
  ·obtain ⟨its,_,pl,_⟩:=I.list hq;refine ⟨pl.isList.typeIs,λa e=>?_⟩;cases e;obtain ⟨o,n,e,c,hd,_⟩:=pl;exact ⟨o,e,hd⟩
  ·obtain ⟨its,_,⟨o,e,c,d,n,dd⟩,_⟩:=I.tupleP hq;refine ⟨⟨o,e,c⟩,λa e2=>?_⟩;cases e2;exact ⟨o,e,d⟩
  ·have z:∃ o,s.heap.get? p=some o/\o.ExactDict:=by
    rcases hk with ⟨kvs,hk⟩|⟨kvs,hk⟩
    ·obtain ⟨_,_,_,_,o,_,_,e,ex,_⟩:=I.hok p _ hk;exact ⟨o,e,ex⟩
    ·obtain ⟨_,_,_,_,o,_,_,e,ex,_⟩:=I.hok p _ hk;exact ⟨o,e,ex⟩
   obtain ⟨o,e,ex⟩:=z;refine ⟨⟨o,e,ex.1⟩,λa e2=>?_⟩;cases e2;exact ⟨o,e,ex.2.1⟩
  ·obtain ⟨o,_,_,_,e,ex,_⟩:=I.hok p _ hk;refine ⟨⟨o,e,ex.1⟩,λa e2=>?_⟩;cases e2;exact ⟨o,e,ex.2.1⟩
 | _=>exact False.elim ty
noncomputable def Al9 (K:aj) (T:String) (r:V->List V->Hp->VK->Prop) (to:TE):TE:=λσ H Q=>to σ H λx H1=>tyV K T x H1/\r x [] H1 Q
noncomputable def tBM (K:aj) (T:String) (r:V->List V->Hp->VK->Prop) (to:TE) (t:TA):TE:=λσ H Q=>to σ H λx H1=>tyV K T x H1/\t σ H1 λxs H2=>r x xs H2 Q
variable {o e:Expr}{es:List Expr}{to:TE}{t:TA}{name:Str}{apos cpos:Pos}{T id:String}{r:V->List V->Hp->VK->Prop}
theorem Ae1 (pa:PlainAttrs T) (slot:Slot T name id) (hty:typeOf (.builtin id)=pure (.type "method_descriptor")) (hm:MtR X id r) (ho:PE X o to)
  (hbase:attributeBase o name X.env (eval o X.env)=eval o X.env:=by rfl) (hline:(apos.endLine==cpos.line)=true:=by rfl):PE X (.Call (.Attribute o name apos) [] [] cpos) (Al9 X.K T r to):=by
 intro pins s σ H Q I h;refine wpAny_Call_method0_late hbase hline (thn (ho pins s σ H _ I h) ?_);rintro v s1 ⟨x,H1,I1,r1,ty,q1⟩;obtain ⟨h1,h2⟩:=oX I1 r1 ty;exact ⟨T,id,pa,slot,hty,h1,h2,QK rfl (PySem.evalArgs_none (hm pins s1 σ H1 x [] v [] Q I1 r1 .nil q1))⟩
theorem Ajy (pa:PlainAttrs T) (slot:Slot T name id) (hty:typeOf (.builtin id)=pure (.type "method_descriptor")) (hm:MtR X id r) (ho:PE X o to) (ha:PA X (e::es) t)
  (hbase:attributeBase o name X.env (eval o X.env)=eval o X.env:=by rfl)
  (hfew:((backTo cpos (starEach (e::es) X.env)).all (λx=>!x.1)&&(backToKw cpos (keywordEach [] X.env)).all (λx=>x.1.isSome)
   && decide ((e::es).length+([]:List Keyword).length+(if ([]:List Keyword).isEmpty then 0 else 1) < 30))=true:=by rfl)
  (hline:(apos.endLine==cpos.line)=true:=by rfl) (hs:starEach (e::es) X.env=(false,eval e X.env)::starEach es X.env:=by rfl) (hplain:(backTo cpos (starEach es X.env)).any (·.1)=false:=by rfl) :
  PE X (.Call (.Attribute o name apos) (e::es) [] cpos) (tBM X.K T r to t):=by
 intro pins s σ H Q I h;refine wpAny_Call_method_late hbase hfew hline rfl (thn (ho pins s σ H _ I h) ?_);rintro v s1 ⟨x,H1,I1,r1,ty,q1⟩;obtain ⟨h1,h2⟩:=oX I1 r1 ty;refine ⟨T,id,pa,slot,hty,h1,h2,?_⟩;have hA:=ha cpos pins s1 σ H1 _ I1 q1;rw [hs] at hA ⊢;refine QK (by show (false || (backTo cpos (starEach es X.env)).any (·.1))=false;rw [hplain] <;> rfl) (Calls.evalArgs_plain ?_);refine thn hA ?_;rintro us s2 ⟨vs,H2,I2,r2,q2⟩;exact hm pins s2 σ H2 x vs v us Q I2 r1 r2 q2
end
noncomputable def MtM (X:Cx) (id:String) (r:V->List V->Hp->VK->Prop):Prop :=
 ∀ (pins:List (Addr×Obj)) (s:Shared) (σ:St) (H:Hp) (x:V) (xs:List V) (v:Value) (us:List Value) (Q:VK),Inv X pins σ H s->RelV x v->Vals xs us->r x xs H Q ->
  wpAny (model X.prog X.w) X.A (call (.builtin id) (v::us)) (EP X pins σ Q) X.xe s
theorem Vals.one {x:V}{us:List Value}(h:Vals [x] us):∃ u,us=[u]/\RelV x u:=by
 cases h with
 | cons r t=>cases t;exact ⟨_,rfl,r⟩
theorem Vals.two {x y:V}{us:List Value}(h:Vals [x,y] us):∃ u v,us=[u,v]/\RelV x u/\RelV y v:=by
 cases h with
 | cons r t =>
  obtain ⟨v,e,q⟩:=Vals.one t;subst e;exact ⟨_,_,rfl,r,q⟩
theorem Vals.rep {xs:List V}{us:List Value}(h:Vals xs us):∀ k:Nat,Vals (fj k xs).flatten (fj k us).flatten
 | 0=>.nil
 | k+1=>by
  rw [qu,qu,wj,wj];exact Vals.append h (Vals.rep h k)
theorem foldl_rep (its:List Value):∀ (k:Nat) (acc:List Value),
  KY (λx1 x2=>x1++x2) acc.toArray (fj k its.toArray)=(acc++(fj k its).flatten).toArray
 | 0,acc=>by simp
 | k+1,acc=>by
  have e:acc.toArray++its.toArray=(acc++its).toArray:=by simp
  have e2:(acc++its)++(fj k its).flatten=acc++(fj (k+1) its).flatten:=by
   rw [qu,wj,BV]
  rw [← e2,← foldl_rep its k (acc++its),← e,qu,List.foldl_cons]
section
variable {X:Cx}{pins:List (Addr×Obj)}{σ:St}{H:Hp}{s:Shared}{l b:Addr}{xs ys zs:List V}
theorem Inv.lset {its its':List Value}{n:Nat}{f:Array Value->Array Value}{t':Nat}(I:Inv X pins σ H s) (hH:H l=some (.lst xs))
  (e:s.heap.get? l=some { cls:=.type "list",data:=.seq its.toArray n }) (hf:f its.toArray=its'.toArray) (hv:Vals ys its') (hz:ys.length<=sizeLine) :
  Inv X pins σ (upd H l (.lst ys)) { s with heap:=s.heap.update l (CN f),toks:=t' }:=by
 have q:=PySem.IsL.update e f;rw [hf] at q;refine I.write (x:=l) (e:=l) (by rw [hH];exact trivial) (.inl rfl) (λb' u hb hu=>(QJ s.heap (CN f) (Ne.symm hb)).trans hu) ⟨_,q⟩ ?_;exact ⟨hz,its',_,hv,q⟩
theorem Inv.lnew {its:List Value}{t':Nat}(I:Inv X pins σ H s) (hv:Vals ys its) (hz:ys.length<=sizeLine) :
  Inv X pins σ (upd H s.heap.objs.size (.lst ys)) { s with heap:=s.heap.push { cls:=.type "list",data:=.seq its.toArray },toks:=t' } :=
 I.laid (λ_ _ q=>bw _ q) (bh _) ⟨hz,its,0,hv,gq _ rfl⟩
theorem Inv.fresh (I:Inv X pins σ H s):H s.heap.objs.size=none:=I.hok.fresh (bh _)
theorem Inv.lstM (I:Inv X pins σ H s) (hH:H l=some (.lst xs)):xs.length<=sizeLine/\∃ (its:List Value) (n:Nat),Vals xs its/\xs.length=its.length/\s.heap.get? l=some { cls:=.type "list",data:=.seq its.toArray n }:=by
 obtain ⟨z,its,n,r,e⟩:=I.hok l _ hH;exact ⟨z,its,n,r,r.length,e⟩
theorem oY {n:Nat}(h:n<=sizeLine):DX n=false:=by
 unfold DX;exact decide_eq_false (by omega)
end
section
variable {X:Cx}
noncomputable def zX:V->List V->Hp->VK->Prop:=λx vs H Q=>∃ l xs y,x=.ref l/\vs=[y]/\H l=some (.lst xs)/\xs.length < sizeLine/\Q .non (upd H l (.lst (xs++[y])))
theorem jN:MtM X "list.append" zX:=by
 intro pins s σ H x vs v us Q I rx rv h;obtain ⟨l,xs,y,rfl,rfl,hH,hz,q⟩:=h;cases rx;obtain ⟨u,rfl,ru⟩:=rv.one;obtain ⟨z,its,n,r,hl,e⟩:=I.lstM hH;refine FT F.slot_list_append ⟨_,e,rfl⟩ F.entry_list_append (F.args_list_append_2 _ _) (PySem.list_append l its.toArray n u (by rw [dw];omega)) ⟨e,?_⟩;refine ⟨.non,_,I.lset (its':=its++[u]) hH e (by simp) (r.append (.cons ru .nil)) ?_,rfl,q⟩;rw [dg,qx];omega
noncomputable def zY:V->List V->Hp->VK->Prop:=λx vs H Q=>∃ l b xs zs,x=.ref l/\vs=[.ref b]/\H l=some (.lst xs)/\H b=some (.lst zs)/\xs.length+zs.length<=sizeLine/\Q .non (upd H l (.lst (xs++zs)))
theorem jO:MtM X "list.extend" zY:=by
 intro pins s σ H x vs v us Q I rx rv h;obtain ⟨l,b,xs,zs,rfl,rfl,hH,hB,hz,q⟩:=h;cases rx;obtain ⟨u,rfl,ru⟩:=rv.one;cases ru;obtain ⟨z,its,n,r,hl,e⟩:=I.lstM hH;obtain ⟨z2,its2,n2,r2,hl2,e2⟩:=I.lstM hB;have hsz:its.toArray.size+its2.toArray.size<=sizeLine:=by rw [dw,dw];omega
 have hlong:¬ (!its.toArray.isEmpty&&DX (its.toArray.size+its2.toArray.size))=true:=by
  rw [oY hsz,Bool.and_false];exact kj
 refine FT F.slot_list_extend ⟨_,e,rfl⟩ F.entry_list_extend (F.args_list_extend_2 _ _)
  (AutoSeq1.list_extend_list_list_0 l its.toArray n b its2.toArray n2 hlong (by rw [dw];omega) (by omega)) ⟨e,e2,?_⟩
 refine ⟨.non,_,I.lset (its':=its++its2) hH e (by simp) (r.append r2) ?_,rfl,q⟩;rw [dg];omega
noncomputable def Ama:R2:=λx y H Q=>∃ l b xs zs,x=.ref l/\y=.ref b/\H l=some (.lst xs)/\H b=some (.lst zs)/\xs.length+zs.length<=sizeLine/\∀ p,H p=none->Q (.ref p) (upd H p (.lst (xs++zs)))
theorem Ae2:OpR X (binaryOp .Add) Ama:=by
 intro pins s σ H x y v u Q I rx ry h;obtain ⟨l,b,xs,zs,rfl,rfl,hH,hB,hz,q⟩:=h;cases rx;cases ry;obtain ⟨z,its,n,r,hl,e⟩:=I.lstM hH;obtain ⟨z2,its2,n2,r2,hl2,e2⟩:=I.lstM hB;refine PySem.P.add_list e e2 ?_ (by rw [dw,dw];omega);have ea:its.toArray++its2.toArray=(its++its2).toArray:=by simp
 rw [ea];exact ⟨.ref _,_,I.lnew (t':=s.toks) (r.append r2) (by rw [dg];omega),rfl,q _ I.fresh⟩
theorem len_rep {α:Type}(xs:List α) (k:Nat):(fj k xs).flatten.length=k * xs.length:=by
 induction k with
 | zero=>simp
 | succ k ih=>rw [qu,wj,dg,ih,Nat.succ_mul,Nat.add_comm]
end
section
variable {prog:Program}{w:World}{A:Around}{E:Value->Shared->Prop}{s:Shared}
end
section
variable {X:Cx}
end
end L2
namespace Att
open PySem PySem.W PySem.Calls PyProof.Rows
theorem O4 {P:Params}{h:Heap}:∀ (ns:List Int) (vs:List Value),WellAll P h vs (ns.map WData.int)->IntsAre vs ns:=by
 intro ns
 induction ns with
 | nil =>
  intro vs w;rw [MF] at w;cases w;exact .nil
 | cons n ns ih =>
  intro vs w;rw [iu] at w;cases w with
  | cons a b =>
   cases a;exact .cons _ _ (ih _ b)
theorem jP {l:OpenLaw}{n:Nat}(hn:l.most=some n) {P:Params}{h:Heap}{args:List WData}{vals:List Value}
  (hpre:l.row.toRowW.claim.pre args=true) (hwl:WellAll P h vals args) :
  ∃ a vs ns,vals=[Value.ref a]/\args=[WData.list (ns.map WData.int)]/\h.get? a=some { cls:=.type "list",data:=.seq vs.toArray }/\IntsAre vs ns/\ns.length<=n:=by
 have hsh:WShape.hasAll [] args [.list .int]=true:=(pre_splitW hpre).1;have hc:l.pre.holds [] { args:=args }=true:=(pre_splitW hpre).2;obtain ⟨d,r,rfl,h1,h2⟩:=hasAllW_cons hsh;obtain rfl:=hasAllW_nil h2;obtain ⟨xs,rfl,h3⟩:=hasW_list h1;obtain ⟨ns,rfl⟩:=items_int h3;have hlen:ns.length<=n:=by
  unfold OpenLaw.pre at hc;have h4:(WTm.not (.lt (.lit (.int (n:Int))) (.len (.arg 0)))).holds [] { args:=[.list (ns.map .int)] }=true:=by
   have h4:=(holds_andW hc).1;rw [hn] at h4;exact h4
  have h5:=condW_of h4 (w_not (w_lt w_lit (w_len_list (w_arg rfl))));rw [ak] at h5;refine MK λq=>?_
  have q':(n:Int) < ((ns.length:Nat):Int):=by omega
  first
   | (rw [decide_eq_true q'] at h5;exact absurd h5 (by decide))
   | (simp at h5;omega)
 cases hwl with
 | cons w1 w2 =>
  cases w2;cases w1 with
  | list ho hall=>exact ⟨_,_,ns,rfl,rfl,ho,O4 ns _ hall,hlen⟩
theorem jQ (l:OpenLaw) (args:List WData):l.row.toRowW.claim.post args (.bool true) args=true :=
 postW_of (r:=l.row.toRowW) (X:=(true==true))
  (show WShape.has [] (.bool true) .bool=true by first | rfl | decide | simp [WShape.has,WShape.arms,WShape.armsAll])
  (show (WTm.eq .res (.lit (.bool true))).value [] { args:=args,res:=some (.bool true),after:=args }=some (.bool (true==true)) from w_eq_bool (w_res rfl) w_lit) rfl
theorem attach_call {l:OpenLaw}{n:Nat}{q:Program}{loose:List Str}{XP:(Str->Option Value)->Heap->Prop}{YP:World->Heap->Prop}{d:DefRec}
  (hn:l.most=some n) (hdf:d.params.defaults=[])
  (call:∀ (w:World) (s₀ s₁:Shared) (mg mb:Str->Option Value) (fa:Addr) (o:Obj) (pm cd doc:Value) (a:Addr) (vs:List Value) (ns:List Int),
   Ground q loose [] XP w s₀ mg mb s₁.heap->YP w s₁.heap ->
   s₁.heap.get? fa=some o->o.data=.func (docDef d.name d.params d.body d.scope pm cd doc)->s₁.heap.CodeRec cd d.name->mg d.name=some (.ref fa) ->
   s₁.heap.get? a=some { cls:=.type "list",data:=.seq vs.toArray }->IntsAre vs ns->ns.length<=n->s₁.gens=#[] ->
   codeAny (model l.prog w) callerA (.call (.ref fa) ⟨[.ref a],[]⟩) (λr s'=>r=.ok (.ret (.bool true))/\OldK s₁.heap s'.heap/\s'.os=s₁.os/\AllBare s'.gens) s₁) :
  WalkO q loose XP YP l.row.toRowW d [] (λf vs=>PySem.call f vs):=by
 intro w s₀ s₁ mg mb G Y fa o pm cd doc dV kV ho hd hcd hD hmg hg args vals as hpre hlay hrd hwl hlo;obtain rfl:dV=.none:=Dflts.none hD hdf;obtain rfl:kV=.none:=Dflts.noKw hD;obtain ⟨a,vs,ns,rfl,rfl,hobj,hints,hlen⟩:=jP hn hpre hwl;refine enter_call (DQ (call w s₀ s₁ mg mb fa o pm cd doc a vs ns G Y ho (fd_plain hd) hcd hmg hobj hints hlen hg) λr s' hq=>?_);obtain ⟨rfl,h2,h3,h4⟩:=hq;exact ⟨.inl ⟨.bool true,.bool true,[],rfl,λ_=>rfl,.bool true,jQ l _,λ_=>⟨List.Pairwise.nil,λ_ hm=>(nomatch hm)⟩⟩,h2,h3,h4⟩
section
variable {prog:Program}{w:World}{A:Around}{E:Value->Shared->Prop}{s:Shared}{K:Frag}
end
end Att
namespace L2
open PySem PySem.Spec PyProof.Rows
theorem Ho:∀ {vs:List Value}{ns:List Int},IntsAre vs ns->Vals (ns.map V.int) vs
 | _,_,.nil=>.nil
 | _,_,.cons n t h=>.cons ⟨t,rfl⟩ (Ho h)
noncomputable def Only (H:Hp):Prop:=∀ b,H b=none\/∃ o xs,H b=some (.frz o (.lst xs))
theorem oZ {P:Program}{w:World}{K:aj}{mg mb:Str->Option Value}{CX:CXT}{k:Nat}{fa a:Addr}{fd:FuncData}{x:Str}{sp:Sp}{s₁:Shared}{vs:List Value}{ns:List Int}
  (KX:K.In s₁.heap) (hns:s₁.heap.Ns mainGlobals mg) (hb:s₁.heap.Ns builtinsNs mb) (hbb:∀ x:Str,x ≠ "__name__"->mb x=bootBuiltins x) (hlim:s₁.heap.NoLimit) (hg:s₁.gens=#[])
  (ha:s₁.heap.get? a=some { cls:=.type "list",data:=.seq vs.toArray }) (hi:IntsAre vs ns) (hl:ns.length<=sizeLine) (hr:Room k callerA)
  (F:∀ base:Heap,K.In base->base.Ns mainGlobals mg->FnOk P w K mg base CX k fa fd [x] sp) (hbind:∀ (s:Shared) (u:Value),BindsTo s fd ⟨[u],[]⟩ [(x,u)])
  (hsp:∀ H:Hp,Only H->SqL K H a (ns.map V.int)->sp [.ref a] H (λv _=>v=.bl true) λ_ _ _=>False)
  (hCX:∀ H e s',CX [] H s₁ (λ_ _ _=>False) e s'->False) :
  codeAny (model P w) callerA (.call (.ref fa) ⟨[.ref a],[]⟩) (λr s'=>r=.ok (.ret (.bool true))/\OldK s₁.heap s'.heap/\s'.os=s₁.os/\AllBare s'.gens) s₁:=by
 have rv:=Ho hi;have lenV:=hi.length
 -- from an abstract heap in which nothing but the script may be tracked
 have core:∀ H:Hp,Only H->SqL K H a (ns.map V.int)->HOk P w H s₁.heap->(∀ b,H b≠none->b=a)->(H a≠none->K.lookup a=none) ->
   codeAny (model P w) callerA (.call (.ref fa) ⟨[.ref a],[]⟩) (λr s'=>r=.ok (.ret (.bool true))/\OldK s₁.heap s'.heap/\s'.os=s₁.os/\AllBare s'.gens) s₁:=by
  intro H hO hS hok hA hK;have base_of:∀ {b:Addr} {o:Obj},s₁.heap.get? b=some o->H b=none->(U4 s₁.heap H).get? b=some o:=λe n=>nT e n
  have noA:∀ {b:Addr} {o:Obj} {es:Array DictEntry} {ep:Nat},s₁.heap.get? b=some o->o.data=.dict es ep->H b=none:=λ{b o es ep} e d=>by
   cases q:H b with
   | none=>rfl
   | some u =>
    have e':b=a:=hA b (by rw [q];simp);subst e';rw [ha] at e;cases e;have d':Data.seq vs.toArray _=Data.dict es ep:=d;cases d'
  have nsK:∀ {b:Addr} {m:Str->Option Value},s₁.heap.Ns b m->(U4 s₁.heap H).Ns b m:=λ{b m} ⟨o,es,ep,e,d,r⟩=>⟨o,es,ep,base_of e (noA e d),d,r⟩
  have hKb:K.In (U4 s₁.heap H):=λb o e=>base_of (KX b o e) (by
   cases q:H b with
   | none=>rfl
   | some u =>
    have e':b=a:=hA b (by rw [q];simp);subst e'
    rw [hK (by rw [q];simp)] at e;cases e)
  have hM:Mod K mg (U4 s₁.heap H):=⟨hKb,nsK hns,⟨mb,nsK hb,hbb⟩,let ⟨mc,h1,h2⟩:=hlim;⟨mc,nsK h1,h2⟩⟩;have e0:Env0 P w K mg (U4 s₁.heap H) callerA [] s₁ H:=⟨rfl,hM,λb o e=>yR e,Nat.le_of_eq (jD _ _),trivial,λb hb=>absurd (show b∈([]:List Addr) from hb) (by simp),hok,.of_eq hg⟩;refine DQ ((F _ hKb (nsK hns)).run callerA [] s₁ H ⟨[.ref a],[]⟩ [.ref a] [.ref a] _ _ hr e0 (hbind s₁ (.ref a)) (.cons rfl .nil) (hsp H hO hS)) λr s' h=>?_
  cases r with
  | error e=>exact (hCX H e s' h).elim
  | ok fl =>
   cases fl with
   | next=>exact False.elim h
   | brk=>exact False.elim h
   | cont=>exact False.elim h
   | ret u =>
    obtain ⟨v,H',os,bare,un,hok',r',q⟩:=h;have q':v=.bl true:=q;subst q';obtain rfl:u=Value.bool true:=r';refine ⟨rfl,OldK.of_keep λb o e=>?_,os,bare⟩;cases q:H b with
    | none=>exact un.keep b o e q (by intro z;exact absurd (show b∈([]:List Addr) from z) (by simp)) (by simp)
    | some u =>
     rcases hO b with z|⟨ob,xs,z⟩
     ·rw [q] at z;cases z
     ·have z2:=un.frzs b ob _ z;obtain ⟨e1,_⟩:=hok b _ z;obtain ⟨e2,_⟩:=hok' b _ z2;rw [e] at e1;cases e1;exact e2
 cases hk:K.lookup a with
 | some o =>
  -- the script is one of the module's own objects
  have e:=KX a o hk;rw [ha] at e;cases e;refine core (λ_=>none) (λ_=>.inl rfl) (.inr ⟨_,vs.toArray,_,hk,rfl,rfl,rfl,by rw [dw,lenV];exact hl,by simpa using rv⟩) (λb u z=>by have z':(none:Option HO)=some u:=z;cases z') (λb z=>absurd rfl z) λz=>absurd rfl z
 | none =>
  refine core (λb=>if b=a then some (.frz { cls:=.type "list",data:=.seq vs.toArray } (.lst (ns.map V.int))) else none) (λb=>?_) (.inl (.inr ⟨{ cls:=.type "list",data:=.seq vs.toArray },if_pos rfl⟩)) (λb u z=>?_) (λb z=>?_) λ_=>hk
  ·by_cases hb:b=a
   ·exact .inr ⟨_,_,if_pos hb⟩
   ·exact .inl (if_neg hb)
  ·by_cases hb:b=a
   ·have z':=(if_pos hb).symm.trans z;cases z';subst hb;exact ⟨ha,by rw [ak];exact hl,vs,_,rv,ha⟩
   ·have z':=(if_neg hb).symm.trans z;cases z'
  ·by_cases hb:b=a
   ·exact hb
   ·exact absurd (if_neg hb) z
theorem zZ {l:PySem.W.OpenLaw}{n k:Nat}{q:Program}{loose:List Str}{XP:(Str->Option Value)->Heap->Prop}{YP:World->Heap->Prop}{d:DefRec}{K:Params->aj}{CX:World->CXT}{sp:World->Sp}{x:Str}
  (hn:l.most=some n) (hn2:n<=sizeLine) (hdf:d.params.defaults=[]) (hr:Room k callerA)
  (hY:∀ (w:World) (h:Heap),YP w h->(K w.params).In h)
  (F:∀ (w:World) (mg:Str->Option Value) (fa:Addr) (h:Heap),(K w.params).In h->h.Ns mainGlobals mg->mg d.name=some (.ref fa) ->
   ∃ fd:FuncData,(∀ (s:Shared) (u:Value),BindsTo s fd ⟨[u],[]⟩ [(x,u)]) /\
    ∀ base:Heap,(K w.params).In base->base.Ns mainGlobals mg->FnOk l.prog w (K w.params) mg base (CX w) k fa fd [x] (sp w))
  (hsp:∀ (w:World) (H:Hp) (a:Addr) (ns:List Int),ns.length<=n->Only H->SqL (K w.params) H a (ns.map V.int)->sp w [.ref a] H (λv _=>v=.bl true) λ_ _ _=>False)
  (hCX:∀ (w:World) (H:Hp) (s:Shared) (e:Value) (s':Shared),CX w [] H s (λ_ _ _=>False) e s'->False) :
  RT q loose XP YP l.row.toRowW d [] (λf vs=>PySem.call f vs):=by
 refine Att.attach_call hn hdf λw s₀ s₁ mg mb fa o pm cd doc a vs ns G Y ho hd hcd hmg hobj hints hlen hg=>?_
 have KX:=hY w _ Y;obtain ⟨fd,hb,hF⟩:=F w mg fa _ KX G.T.g hmg;exact oZ KX G.T.g G.T.b G.T.builtins G.T.nolimit hg hobj hints (dz hlen hn2) hr hF hb (λH hO hS=>hsp w H a ns hlen hO hS) λH e s'=>hCX w H s₁ e s'
noncomputable def Eb (s:Stmt):Arguments:=match s with
 | .FunctionDef _ a _ _ _ _ _ _ _ _=>a
 | _=>{ posonlyargs:=[],args:=[],vararg:=none,kwonlyargs:=[],kw_defaults:=[],kwarg:=none,defaults:=[] }
noncomputable def Cz (s:Stmt):List Stmt:=match s with
 | .FunctionDef _ _ b _ _ _ _ _ _ _=>b
 | _=>[]
noncomputable def Bc (s:Stmt):Scope:=match s with
 | .FunctionDef _ _ _ _ _ _ sc _ _ _=>sc
 | _=>{ kind:=.function,names:=[],isGenerator:=false,isCoroutine:=false }
noncomputable abbrev CX0:CXT:=λ_ _ _ _ _ _=>False
noncomputable abbrev E0:XK:=λ_ _ _=>False
theorem W0 {X:Cx}:Du CX0 X E0:=λ_ _ _ _ _ _ _ h=>h.elim
structure Fun (K:aj) (x qual:Str) (st:Stmt) (f:Addr) (fd:FuncData):Prop where
 ex:∃ (oc:Value) (od:Option Addr) (kV doc pm:Value) (an:Option Addr) (cdv ct:Value) (osl:Array (Option Value)),
  fd=zf x qual (Eb st) (Cz st) (Bc st) .none kV doc pm an cdv ct/\K.lookup f=some ⟨oc,od,.func fd,osl⟩/\IK K cdv qual=true
 kp:ug K (.ref f)=true
section
variable {P:Program}{w:World}{K:aj}{mg:Str->Option Value}{base:Heap}
theorem Fun.ok {x qual:Str}{st:Stmt}{f:Addr}{fd:FuncData}{N ps:List Str}{k:Nat}{sp:Sp}(F:Fun K x qual st f fd) (S:FnScope N ps (Bc st)) (len:∀ vs H Q E,sp vs H Q E->vs.length=ps.length)
  (hbody:∀ (cdv:Value) (A:Around) (outer:List Env) (s:Shared) (H:Hp) (vs:List V) (Q:VK) (E:XK),Room k (A.deeper (envOfC qual (Bc st) s.heap.objs.size f cdv))->sp vs H Q E ->
   ∃ t,PSs (jL CX0 P w K mg base N qual (Bc st) f cdv A outer s H E).nox (Cz st) t/\t { nx:=λ_ H'=>Q .non H',rt:=Q } (start N vs) H):FnOk P w K mg base CX0 (k+1) f fd ps sp:=by
 obtain ⟨oc,od,kV,doc,pm,an,cdv,ct,osl,rfl,lk,hcd⟩:=F.ex;refine Ajq lk hcd S len λA outer s H vs Q E hr hsp=>?_
 obtain ⟨t,h,q⟩:=hbody cdv A outer s H vs Q E hr hsp;exact ⟨t,h.nox,q⟩
theorem aB {x qual:Str}{st:Stmt}{f:Addr}{oc:Value}{od an:Option Addr}{osl:Array (Option Value)}{kV doc pm cdv ct:Value}(l:K.lookup f=some ⟨oc,od,.func (zf x qual (Eb st) (Cz st) (Bc st) .none kV doc pm an cdv ct),osl⟩)
  (c:IK K cdv qual=true) (k:ug K (.ref f)=true):Fun K x qual st f (zf x qual (Eb st) (Cz st) (Bc st) .none kV doc pm an cdv ct):=⟨⟨oc,od,kV,doc,pm,an,cdv,ct,osl,rfl,l,c⟩,k⟩
end
section
variable {X:Cx}
end
theorem W2 {A B:Prop}(h:B):if false=true then A else B:=by
 rw [if_neg kj];exact h
theorem W3 {A B:Prop}(h:A):if true=true then A else B:=by
 rw [if_pos rfl];exact h
section
variable {κ:Type} [DecidableEq κ]
noncomputable def Lk (kvs:List (κ×V)) (k:κ):Option V:=(kvs.find? λkv=>decide (kv.1=k)).map (·.2)
noncomputable def putK (kvs:List (κ×V)) (k:κ) (v:V):List (κ×V) :=
 if (kvs.any λkv=>decide (kv.1=k))=true then kvs.map (λkv=>if kv.1=k then (kv.1,v) else kv) else kvs++[(k,v)]
theorem Lp {p:κ×V}{r:List (κ×V)}{k:κ}(e:p.1=k):Lk (p::r) k=some p.2:=by simp [Lk,vz,e]
theorem Lq {p:κ×V}{r:List (κ×V)}{k:κ}(e:¬ p.1=k):Lk (p::r) k=Lk r k:=by simp [Lk,vz,e]
theorem W4 (k:κ):∀ kvs:List (κ×V),(kvs.any λkv=>decide (kv.1=k))=(Lk kvs k).isSome
 | []=>rfl
 | p::r=>by
  rw [zx]
  by_cases e:p.1=k
  ·simp only [Lp e,decide_eq_true e,MN,TY]
  ·rw [Lq e,decide_eq_false e,JQ];exact W4 k r
theorem Oh (kvs:List (κ×V)) (k:κ) (v:V):(putK kvs k v).length<=kvs.length+1:=by
 unfold putK;split
 ·rw [ak];omega
 ·rw [dg,jj,List.length_nil];omega
theorem K5.isSome_eq {o:Option V}{u:Option Value}(r:K5 o u):o.isSome=u.isSome:=by
 cases o with
 | none=>cases u with
  | none=>rfl
  | some _=>exact (show False from r).elim
 | some _=>cases u with
  | none=>exact (show False from r).elim
  | some _=>rfl
theorem KV.val {kvs:List (κ×V)}{vs:List (κ×Value)}(r:KV kvs vs) (k:κ):K5 (Lk kvs k) (valueAt vs k):=by
 unfold KV at r
 induction r with
 | nil=>exact True.intro
 | @cons p q ps qs h t ih =>
  obtain ⟨h1,h2⟩:=h
  by_cases e:p.1=k
  ·have e':q.1=k:=h1.symm.trans e;have b:valueAt (q::qs) k=some q.2:=by simp [valueAt,vz,e']
   rw [Lp e,b];exact h2
  ·have e':¬ q.1=k:=λz=>e (h1.trans z)
   have b:valueAt (q::qs) k=valueAt qs k:=by simp [valueAt,vz,e']
   rw [Lq e,b];exact ih
theorem KV.any {kvs:List (κ×V)}{vs:List (κ×Value)}(r:KV kvs vs) (k:κ):(kvs.any λkv=>decide (kv.1=k))=vs.any λkv=>decide (kv.1=k):=by
 unfold KV at r
 induction r with
 | nil=>rfl
 | cons h t ih=>rw [zx,zx,ih,h.1]
theorem KV.repl {kvs:List (κ×V)}{vs:List (κ×Value)}(r:KV kvs vs) (k:κ) {y:V}{u:Value}(ry:RelV y u) :
  KV (kvs.map λkv=>if kv.1=k then (kv.1,y) else kv) (vs.map λkv=>if kv.1=k then (kv.1,u) else kv):=by
 unfold KV at r ⊢
 induction r with
 | nil=>exact .nil
 | @cons p q ps qs h t ih =>
  rw [iu,iu];refine .cons ?_ ih;obtain ⟨h1,h2⟩:=h
  by_cases e:p.1=k
  ·rw [if_pos e,if_pos (h1.symm.trans e)];exact ⟨h1,ry⟩
  ·rw [if_neg e,if_neg (λz=>e (h1.trans z))];exact ⟨h1,h2⟩
theorem KV.put {kvs:List (κ×V)}{vs:List (κ×Value)}(r:KV kvs vs) (k:κ) {y:V}{u:Value}(ry:RelV y u):KV (putK kvs k y) (stored vs k u):=by
 unfold putK stored;rw [r.any k]
 by_cases e:(vs.any λkv=>decide (kv.1=k))=true
 ·rw [if_pos e,if_pos e];exact r.repl k ry
 ·rw [if_neg e,if_neg e];exact Paired.snoc r ⟨rfl,ry⟩
theorem KV.length {kvs:List (κ×V)}{vs:List (κ×Value)}(r:KV kvs vs):kvs.length=vs.length:=Paired.length r
end
theorem W5 {P:Program}{w:World}{k:Key}{u:Value}(r:RelV (kV k) u):(Df P w).is k u=true:=by
 cases k with
 | inl i=>obtain ⟨t,e⟩:=(show ∃ t,u=Value.int i t from r);subst e;exact Wu P w i t
 | inr x=>obtain ⟨t,e⟩:=(show ∃ t,u=Value.str x t from r);subst e;exact Wv P w x t
theorem Tz {P:Program}{w:World}:∀ {ks:List Key}{us:List Value},Vals (ks.map kV) us->ItemsAre (Df P w) ks us
 | [],_,r=>by rw [MF] at r;cases r;exact .nil
 | k::ks,_,r=>by
  rw [iu] at r;cases r with
  | cons h t=>exact .cons (W5 h) (Tz t)
noncomputable abbrev KT (H:Hp):List (List Key×V)->List (List Key×Addr×Value)->Prop:=Paired λp q=>p.1=q.1/\H q.2.1=some (.tup (p.1.map kV))/\RelV p.2 q.2.2
theorem KT.val {H:Hp}{kvs:List (List Key×V)}{xs:List (List Key×Addr×Value)}(r:KT H kvs xs) (k:List Key):K5 (Lk kvs k) ((atKey xs k).map (·.2)):=by
 induction r with
 | nil=>exact True.intro
 | @cons p q ps qs h t ih =>
  obtain ⟨h1,_,h2⟩:=h
  by_cases e:p.1=k
  ·have e':q.1=k:=h1.symm.trans e;have b:atKey (q::qs) k=some q.2:=by simp [atKey,vz,e']
   rw [Lp e,b];exact h2
  ·have e':¬ q.1=k:=λz=>e (h1.trans z)
   have b:atKey (q::qs) k=atKey qs k:=by simp [atKey,vz,e']
   rw [Lq e,b];exact ih
theorem KT.repl {H:Hp}{kvs:List (List Key×V)}{xs:List (List Key×Addr×Value)}(r:KT H kvs xs) (k:List Key) {y:V}{u:Value}(ry:RelV y u) :
  KT H (kvs.map λkv=>if kv.1=k then (kv.1,y) else kv) (xs.map (putAt k u)):=by
 induction r with
 | nil=>exact .nil
 | @cons p q ps qs h t ih =>
  rw [iu,iu];refine .cons ?_ ih;obtain ⟨h1,h2,h3⟩:=h;unfold putAt
  by_cases e:p.1=k
  ·rw [if_pos e,if_pos (h1.symm.trans e)];exact ⟨h1,h2,ry⟩
  ·rw [if_neg e,if_neg (λz=>e (h1.trans z))];exact ⟨h1,h2,h3⟩
theorem KT.put {H:Hp}{kvs:List (List Key×V)}{xs:List (List Key×Addr×Value)}(r:KT H kvs xs) (k:List Key) {b:Addr}{y:V}{u:Value}(hb:H b=some (.tup (k.map kV))) (ry:RelV y u) :
  KT H (putK kvs k y) (storedH xs k b u):=by
 have e:(kvs.any λkv=>decide (kv.1=k))=(atKey xs k).isSome:=by
  rw [W4,(r.val k).isSome_eq,KC]
 unfold putK storedH;rw [e]
 by_cases q:(atKey xs k).isSome=true
 ·rw [if_pos q,if_pos q];exact r.repl k ry
 ·rw [if_neg q,if_neg q];exact Paired.snoc r ⟨rfl,hb,ry⟩
theorem KT.keeps {H H':Hp}{kvs:List (List Key×V)}{xs:List (List Key×Addr×Value)}(r:KT H kvs xs) (ht:∀ b ys,H b=some (.tup ys)->H' b=some (.tup ys)):KT H' kvs xs :=
 Paired.mapP r λ_ _ z=>⟨z.1,ht _ _ z.2.1,z.2.2⟩
section
variable {P:Program}{w:World}{H:Hp}{h:Heap}{a:Addr}
theorem Ac6 {u:HO}(ok:HOk P w H h) (e:Rd H a u):Di P w H h a u:=e.ok ok
theorem dJ {kvs:List (Key×V)}(ok:HOk P w H h) (e:Rd H a (.dK kvs)):kvs.length<=sizeLine/\(a==sysModules)=false/\∃ vs,KV kvs vs/\h.DictOf (Df P w) a vs :=
 show Di P w H h a (.dK kvs) from Ac6 ok e
theorem pA {kvs:List (Key×V)}(ok:HOk P w H h) (e:H a=some (.dK kvs)):kvs.length<=sizeLine/\(a==sysModules)=false/\∃ vs,KV kvs vs/\h.DictOf (Df P w) a vs:=dJ ok (.inl e)
theorem Ve {ks:List Key}(ok:HOk P w H h) (e:H a=some (.tup (ks.map kV))):(tupleKind (Df P w)).is h ks a:=by
 obtain ⟨_,its,r,o,h1,h2,_,n,h3⟩:=(show Di P w H h a (.tup (ks.map kV)) from ok a _ e);exact ⟨o,its.toArray,n,h1,h2,h3,by simpa using Tz r⟩
theorem pB {kvs:List (List Key×V)}(ok:HOk P w H h) (e:Rd H a (.dT kvs)):kvs.length<=sizeLine/\(a==sysModules)=false /\
  ∃ xs,KT H kvs xs/\h.DictOfH (tupleKind (Df P w)) a xs:=by
 obtain ⟨z,y,xs,r,o,es,ep,h1,h2,h3,h4,h5⟩:=(show Di P w H h a (.dT kvs) from Ac6 ok e);refine ⟨z,y,xs,r,o,es,ep,h1,h2,h3,h4,λx hx=>?_,h5⟩;have all:∀ {l:List (List Key×V)} {m:List (List Key×Addr×Value)},KT H l m->∀ x∈m,(tupleKind (Df P w)).is h x.1 x.2.1:=by
  intro l m q
  induction q with
  | nil=>intro x hx;exact nomatch hx
  | @cons p q ps qs hq t ih =>
   intro x hx;rcases gb.mp hx with e|hx
   ·subst e;exact Ve ok (by rw [← hq.1];exact hq.2.1)
   ·exact ih x hx
 exact all r x hx
theorem Ajz {kvs:List (List Key×V)}(ok:HOk P w H h) (e:H a=some (.dT kvs)):kvs.length<=sizeLine/\(a==sysModules)=false /\
  ∃ xs,KT H kvs xs/\h.DictOfH (tupleKind (Df P w)) a xs:=pB ok (.inl e)
end
noncomputable def jR (H:Hp) (a:Addr) (y:V) (r:Option V):Prop :=
 (∃ kvs k,Rd H a (.dK kvs)/\y=kV k/\r=Lk kvs k)\/∃ kvs k b,Rd H a (.dT kvs)/\y=.ref b/\H b=some (.tup (k.map kV))/\r=Lk kvs k
noncomputable def Aaa (H:Hp) (a:Addr) (y v:V) (H':Hp):Prop :=
 (∃ kvs k,H a=some (.dK kvs)/\y=kV k/\kvs.length < sizeLine/\H'=upd H a (.dK (putK kvs k v))) \/
 ∃ kvs k b,H a=some (.dT kvs)/\y=.ref b/\H b=some (.tup (k.map kV))/\kvs.length < sizeLine/\H'=upd H a (.dT (putK kvs k v))
theorem jR.k {H:Hp}{a:Addr}{kvs:List (Key×V)}{k:Key}(e:H a=some (.dK kvs)):jR H a (kV k) (Lk kvs k):=.inl ⟨kvs,k,.inl e,rfl,rfl⟩
theorem Aaa.k {H:Hp}{a:Addr}{kvs:List (Key×V)}{k:Key}{v:V}(e:H a=some (.dK kvs)) (hl:kvs.length < sizeLine):Aaa H a (kV k) v (upd H a (.dK (putK kvs k v))):=.inl ⟨kvs,k,e,rfl,hl,rfl⟩
section
variable {X:Cx}{pins:List (Addr×Obj)}{σ:St}{H:Hp}{s:Shared}{a:Addr}{y v:V}{u r:Value}{o:Option V}{A:Around}{E:Value->Shared->Prop}
theorem Inv.big (I:Inv X pins σ H s):sysModules < s.heap.objs.size:=by
 have h:mainGlobals < s.heap.objs.size:=(I.mod.glob.keeps I.bk).lt;exact UG (by decide) h
theorem Amb {Q:Value->Shared->Prop}(hu:A.units+1 < cLine) (I:Inv X pins σ H s) (g:jR H a y o) (ry:RelV y u) (h:∀ s',Inv X pins σ H s'->Q (.bool o.isSome) s') :
  wpAny (model X.prog X.w) A (compareOp .In u (.ref a)) Q E s:=by
 rcases g with ⟨kvs,k,e,ey,l⟩|⟨kvs,k,b,e,ey,eb,l⟩
 ·subst ey;obtain ⟨z,hd,vs,rel,dd⟩:=dJ I.hok e;refine wpAny_in_of (W5 ry) hd dd.mapOf ?_;rw [← (rel.val k).isSome_eq,← l];exact h _ (I.tok _)
 ·subst ey;cases (show u=Value.ref b from ry);obtain ⟨z,hd,xs,rel,dd⟩:=pB I.hok e;refine wpAny_in_heap (JF hu) (Ve I.hok eb) hd dd ?_;have q:=(rel.val k).isSome_eq;rw [KC] at q;rw [← q,← l];exact h _ (I.tok _)
theorem Aab {Q:Value->Shared->Prop}(hu:A.units+1 < cLine) (I:Inv X pins σ H s) (g:jR H a y o) (ry:RelV y u) (h:∀ s',Inv X pins σ H s'->Q (.bool (!o.isSome)) s') :
  wpAny (model X.prog X.w) A (compareOp .NotIn u (.ref a)) Q E s:=by
 rcases g with ⟨kvs,k,e,ey,l⟩|⟨kvs,k,b,e,ey,eb,l⟩
 ·subst ey;obtain ⟨z,hd,vs,rel,dd⟩:=dJ I.hok e;refine wpAny_notIn_of (W5 ry) hd dd.mapOf ?_;rw [← (rel.val k).isSome_eq,← l];exact h _ (I.tok _)
 ·subst ey;cases (show u=Value.ref b from ry);obtain ⟨z,hd,xs,rel,dd⟩:=pB I.hok e;refine wpAny_notIn_heap (JF hu) (Ve I.hok eb) hd dd ?_;have q:=(rel.val k).isSome_eq;rw [KC] at q;rw [← q,← l];exact h _ (I.tok _)
theorem Pb {h':Heap}{t':Nat}{ob:HO}(I:Inv X pins σ H s) (mu:Mut (H a)) (hs:vd a s.heap h') (he:∃ q,h'.get? a=some q) (new:Di X.prog X.w (upd H a ob) h' a ob) :
  Inv X pins σ (upd H a ob) { s with heap:=h',toks:=t' } :=
 I.write (x:=a) (e:=a) mu (.inl rfl) (λb q hb z=>(hs.2 b hb).trans z) he new
theorem Ae3 {P:Program}{w:World}{H':Hp}{h':Heap}{kvs:List (Key×V)}{vs:List (Key×Value)}(z:kvs.length<=sizeLine) (hd:(a==sysModules)=false) (rel:KV kvs vs) (dd:h'.DictOf (Df P w) a vs) :
  Di P w H' h' a (.dK kvs):=⟨z,hd,vs,rel,dd⟩
theorem jT {H':Hp}{Q:Unit->Shared->Prop}(hu:A.units+1 < cLine) (I:Inv X pins σ H s) (g:Aaa H a y v H') (ry:RelV y u) (rv:RelV v r) (h:∀ s',Inv X pins σ H' s'->Q () s') :
  wpAny (model X.prog X.w) A (setItem (.ref a) u r) Q E s:=by
 rcases g with ⟨kvs,k,e,ey,l,eH⟩|⟨kvs,k,b,e,ey,eb,l,eH⟩
 ·subst ey eH;obtain ⟨z,hd,vs,rel,dd⟩:=pA I.hok e;have hz:vs.length<=sizeLine:=by rw [← rel.length];exact z
  have hl:(putK kvs k v).length<=sizeLine:=by have:=Oh kvs k v;omega
  refine wpAny_setItem_pairs (hsz:=hz) (W5 ry) dd λh' dd' hs=>h _ ?_
  have he:∃ q,h'.get? a=some q:=let ⟨q,_,_,hq,_⟩:=dd';⟨q,hq⟩;exact Pb I (by rw [e];exact True.intro) hs he (Ae3 hl hd (rel.put k rv) dd')
 ·subst ey eH;cases (show u=Value.ref b from ry);obtain ⟨z,hd,xs,rel,dd⟩:=Ajz I.hok e;have hz:xs.length<=sizeLine:=by rw [← Paired.length rel];exact z
  have hl:(putK kvs k v).length<=sizeLine:=by have:=Oh kvs k v;omega
  refine JG (hsz:=hz) (JF hu) (Ve I.hok eb) dd λh' dd' hs=>h _ ?_
  obtain ⟨q,es,ep,hq,h2,h3,h4,_,h5⟩:=dd';refine Pb I (by rw [e];exact True.intro) hs ⟨q,hq⟩ ⟨hl,hd,_,(rel.put k eb rv).keeps λc ys ec=>?_,q,es,ep,hq,h2,h3,h4,h5⟩;rw [Al (Jm ec e (λz=>nomatch z))];exact ec
end
section
variable {X:Cx}{pins:List (Addr×Obj)}{σ:St}{H:Hp}{s:Shared}{a:Addr}{kvs:List (Key×V)}{k:Key}{u:Value}{A:Around}{E:Value->Shared->Prop}
theorem Aj0 {Q:Value->Shared->Prop}(I:Inv X pins σ H s) (e:Rd H a (.dK kvs)) (h:∀ t s',Inv X pins σ H s'->Q (.int kvs.length t) s'):wpAny (model X.prog X.w) A (call (.builtin "len") [.ref a]) Q E s:=by
 obtain ⟨z,hd,vs,rel,dd⟩:=dJ I.hok e;refine call_len_dict hd dd (by rw [← rel.length];rw [qp] at z;omega) ?_;rw [← rel.length];exact h _ _ (I.tok _)
end
section
variable {X:Cx}{o i e value:Expr}{pos pos' tpos:Pos}{td ty tv:TE}
end
theorem pC {P:Program}{w:World}{H:Hp}(h:Heap) (hb:sysModules < h.objs.size):Di P w H (h.push { cls:=.type "dict",data:=.dict #[] }) h.objs.size (.dK []) :=
 ⟨jy _,beq_eq_false_iff_ne.mpr (Ne.symm (iz hb)),[],.nil,Heap.DictOf.new h⟩
noncomputable def Ae4:TE:=λ_ H Q=>∀ p,H p=none->Q (.ref p) (upd H p (.dK []))
section
variable {X:Cx}{pos:Pos}
theorem pD:PE X (.Dict [] [] pos) Ae4:=λpins s σ H Q I h =>
 wpAny_Dict_empty ⟨.ref s.heap.objs.size,_,I.laid (a:=s.heap.objs.size) (o:=.dK []) (t':=s.toks) (λ_ _ q=>bw _ q) (bh _) (pC s.heap I.big),rfl,h _ (I.hok.fresh (bh _))⟩
end
section
variable {X:Cx}{pins:List (Addr×Obj)}{σ:St}{H:Hp}{s:Shared}{a:Addr}{y d:V}{u r:Value}{o:Option V}{A:Around}{E:Value->Shared->Prop}
end
section
variable {X:Cx}{o e f:Expr}{apos cpos:Pos}{td ty tx:TE}
end
section
variable {X:Cx}{pins:List (Addr×Obj)}{σ:St}{H:Hp}{s:Shared}{a:Addr}{kvs:List (Key×V)}{A:Around}{E:Value->Shared->Prop}
end
section
variable {X:Cx}{pins:List (Addr×Obj)}{σ:St}{H:Hp}{s:Shared}{a:Addr}{y:V}{u:Value}{A:Around}{E:Value->Shared->Prop}
end
theorem Qp {α β:Type}(g:α->β->β):∀ (l:List α) (f:α->β->Sem (ForInStep β)) (c:β),(∀ x∈l,∀ c,f x c=pure (.yield (g x c)))->forIn l c f=pure (l.foldl (λc x=>g x c) c)
 | [],f,c,_=>by rw [List.forIn_nil];rfl
 | x::r,f,c,h=>by
  rw [QD,h x jb];show (forIn r (g x c) f)=_;rw [Qp g r f (g x c) λy hy=>h y (iw _ hy)];rfl
noncomputable def Oi (env:Env) (x:Str×NameKind) (cs:List (Str×Addr)):List (Str×Addr):=if x.2==.free then (x.1,(env.cells.lookup x.1).getD 0)::cs else cs
noncomputable def Gq (env:Env) (names:List (Str×NameKind)):List (Str×Addr):=names.foldl (λc x=>Oi env x c) []
theorem Kw {scope:Scope}{env:Env}(h:∀ x∈scope.names,x.2=.free->∃ c,env.cells.lookup x.1=some c):closureFor scope env=pure (Gq env scope.names):=by
 unfold closureFor Gq;dsimp only;rw [Qp (Oi env)]
 ·rfl
 ·intro x hx c;obtain ⟨n,k⟩:=x;dsimp only;unfold Oi
  by_cases e:(k==NameKind.free)=true
  ·obtain ⟨a,ha⟩:=h _ hx (beq_iff_eq.mp e);have ha':xj n env.cells=some a:=ha;dsimp only;rw [if_pos e,if_pos e];unfold cellOf;rw [ha'];rfl
  ·dsimp only;rw [if_neg e,if_neg e]
theorem K8 {env:Env}:∀ (names:List (Str×NameKind)) (acc:List (Str×Addr)) (x:Str) (c:Addr),(x,c)∈names.foldl (λc x=>Oi env x c) acc->(x,c)∈acc\/((x,NameKind.free)∈names/\c=(env.cells.lookup x).getD 0)
 | [],acc,x,c,h=>.inl h
 | (n,k)::r,acc,x,c,h=>by
  rcases K8 r _ x c h with q|⟨q1,q2⟩
  ·unfold Oi at q;dsimp only at q;split at q
   ·rename_i e;have e:=beq_iff_eq.mp e;rcases gb.mp q with q|q
    ·cases q;exact .inr ⟨by rw [e];exact jb,rfl⟩
    ·exact .inl q
   ·exact .inl q
  ·exact .inr ⟨iw _ q1,q2⟩
theorem Qq {env:Env}:∀ (names:List (Str×NameKind)) (acc:List (Str×Addr)) (x:Str),(acc.lookup x).isSome=true\/(x,NameKind.free)∈names->((names.foldl (λc x=>Oi env x c) acc).lookup x).isSome=true
 | [],acc,x,h=>by
  rcases h with h|h
  ·exact h
  ·exact absurd h (by simp)
 | (n,k)::r,acc,x,h=>by
  refine Qq r _ x ?_;unfold Oi;rcases h with h|h
  ·left;dsimp only;split
   ·rw [qe];split
    ·rfl
    ·exact h
   ·exact h
  ·rcases gb.mp h with h|h
   ·cases h;left;dsimp only;rw [if_pos (by rfl),qe];simp
   ·exact .inr h
theorem Vf {env:Env}{names:List (Str×NameKind)}{x:Str}{c:Addr}(h:(Gq env names).lookup x=some c):(x,NameKind.free)∈names/\c=(env.cells.lookup x).getD 0:=by
 rcases K8 names [] x c (jt h) with q|q
 ·exact absurd q (by simp)
 ·exact q
theorem T3 {env:Env}{names:List (Str×NameKind)}{x:Str}(h:(x,NameKind.free)∈names):(Gq env names).lookup x=some ((env.cells.lookup x).getD 0):=by
 obtain ⟨c,e⟩:=zc.mp (Qq (env:=env) names [] x (.inr h));rw [show Gq env names=names.foldl (λc x=>Oi env x c) [] from rfl,e,(Vf e).2]
theorem Et:∀ (names:List (Str×NameKind)) (n:Nat) (acc:List (Str×Addr)) (x:Str) (c:Addr),(x,c)∈cellsFrom n names acc->(x,c)∈acc\/(n<=c/\(x,NameKind.cell)∈names)
 | [],_,_,_,_,h=>.inl h
 | (y,k)::r,n,acc,x,c,h=>by
  unfold cellsFrom at h;split at h
  ·rename_i e;have e:=beq_iff_eq.mp e;rcases Et r (n+1) _ x c h with q|⟨q1,q2⟩
   ·rcases gb.mp q with q|q
    ·cases q;exact .inr ⟨bh _,by rw [e];exact jb⟩
    ·exact .inl q
   ·exact .inr ⟨by omega,iw _ q2⟩
  ·rcases Et r n acc x c h with q|⟨q1,q2⟩
   ·exact .inl q
   ·exact .inr ⟨q1,iw _ q2⟩
theorem Eu:∀ (names:List (Str×NameKind)) (n lo:Nat) (acc:List (Str×Addr)) (x:Str) (c:Addr),lo<=n->((x,NameKind.cell)∈names\/∀ c',acc.lookup x=some c'->lo<=c')->(cellsFrom n names acc).lookup x=some c->lo<=c
 | [],_,_,acc,x,c,_,h,e=>by
  rcases h with h|h
  ·exact absurd h (by simp)
  ·exact h c e
 | (y,k)::r,n,lo,acc,x,c,hl,h,e=>by
  unfold cellsFrom at e;split at e
  ·rename_i ek;refine Eu r (n+1) lo _ x c (by omega) ?_ e;rcases h with h|h
   ·rcases gb.mp h with h|h
    ·cases h;right;intro c' hc;rw [qe] at hc;rw [beq_self_eq_true] at hc;cases hc;exact hl
    ·exact .inl h
   ·right;intro c' hc;rw [qe] at hc;split at hc
    ·cases hc;omega
    ·exact h c' hc
  ·rename_i ek;refine Eu r n lo acc x c hl ?_ e;rcases h with h|h
   ·rcases gb.mp h with h|h
    ·cases h;exact absurd rfl ek
    ·exact .inl h
   ·exact .inr h
theorem G5:∀ (names:List (Str×NameKind)) (n:Nat) (acc:List (Str×Addr)),(∀ x y c,(x,c)∈acc->(y,c)∈acc->x=y)->(∀ x c,(x,c)∈acc->c < n) ->
  ∀ x y c,(x,c)∈cellsFrom n names acc->(y,c)∈cellsFrom n names acc->x=y
 | [],_,_,h,_=>h
 | (z,k)::r,n,acc,h,hb=>by
  unfold cellsFrom;split
  ·refine G5 r (n+1) _ (λx y c hx hy=>?_) λx c hx=>?_
   ·rcases gb.mp hx with hx | hx <;> rcases gb.mp hy with hy|hy
    ·cases hx;cases hy;rfl
    ·cases hx;exact absurd (hb _ _ hy) (mz _)
    ·cases hy;exact absurd (hb _ _ hx) (mz _)
    ·exact h x y c hx hy
   ·rcases gb.mp hx with hx|hx
    ·cases hx;exact qz _
    ·exact qi (hb x c hx)
  ·exact G5 r n acc h hb
theorem Gd:∀ (names:List (Str×NameKind)) (h:Heap) (acc:List (Str×Addr)) (x:Str) (c:Addr),(∀ x c,(x,c)∈acc->∃ v,h.IsCell c v)->(x,c)∈cellsFrom h.objs.size names acc->∃ v,(pushCells h names).IsCell c v
 | [],h,acc,x,c,hb,e=>hb x c e
 | (y,k)::r,h,acc,x,c,hb,e=>by
  unfold cellsFrom at e;unfold pushCells;split at e
  ·rename_i ek;rw [if_pos ek];refine Gd r _ ((y,h.objs.size)::acc) x c (λx c hx=>?_) (by rw [mj];exact e);rcases gb.mp hx with hx|hx
   ·cases hx;exact ⟨none,_,gq _ rfl,rfl⟩
   ·obtain ⟨v,q⟩:=hb x c hx;exact ⟨v,q.keeps λb o e=>bw _ e⟩
  ·rename_i ek;rw [if_neg ek];exact Gd r h acc x c hb e
theorem Ge:∀ (names:List (Str×NameKind)) (h:Heap),h.objs.size<=(pushCells h names).objs.size
 | [],h=>bh _
 | (y,k)::r,h=>by
  unfold pushCells;split
  ·refine dz ?_ (Ge r _);rw [mj];omega
  ·exact Ge r h
theorem W6 {M:Model}{A:Around}{E:Value->Shared->Prop}{s:Shared}{scope:Scope}{globals:Addr}{cl:List (Str×Addr)}{qual:Str}{env:Env}{Q:Env->Shared->Prop}
  (hQ:Q (newEnv scope s.heap.objs.size globals (cellsFrom (s.heap.objs.size+1) scope.names cl) qual none .none (some env) builtinsNs) { s with heap:=pushCells (s.heap.push { cls:=.type "dict",data:=.dict #[] }) scope.names }) :
  wpAny M A (newFunctionEnv scope globals cl [] qual none .none (some env)) Q E s:=by
 simp only [newFunctionEnv,TY,if_true];refine aq (wpAny_alloc ?_);refine aq (wpAny_layCells _ (λname kind cells=>by cases hkc:kind==NameKind.cell <;> simp [hkc]) _ _ _ _ ?_)
 rw [show ({ s with heap:=s.heap.push { cls:=.type "dict",data:=.dict #[] } }:Shared).heap.objs.size=s.heap.objs.size+1 from mj ..];rw [List.forIn_nil];exact aq (cu (cu hQ))
theorem Ew {α:Type}:∀ {l:List (Str×α)}{n:Str}{c:α},(l.map (·.1)).Nodup->(n,c)∈l->l.lookup n=some c
 | [],_,_,_,h=>absurd h (by simp)
 | (k,v)::r,n,c,nd,h=>by
  rw [iu,pq] at nd;rw [qe];rcases gb.mp h with q|q
  ·cases q;rw [beq_self_eq_true]
  ·have:(n==k)=false:=by
    rw [beq_eq_false_iff_ne];intro e;subst e;exact nd.1 (di.mpr ⟨(n,c),q,rfl⟩)
   rw [this];exact Ew nd.2 q
theorem Gf {env:Env}(scope:Scope) (x:Str):(relabel scope env).names.lookup x=(scope.names.lookup x).map λk=>if (k==.free&&env.scope.kind==.function&&env.kindOf x==some .cell) then .cell else k:=by
 show (scope.names.map _).lookup x=_
 induction scope.names with
 | nil=>rfl
 | cons a r ih =>
  obtain ⟨n,k⟩:=a;rw [iu];dsimp only;rw [qe (b:=k)]
  by_cases e:(x==n)=true
  ·rw [e];have e':=beq_iff_eq.mp e;subst e';dsimp only;split
   ·rename_i hc;rw [qe,e];simp only [ux,hc,if_true]
   ·rename_i hc;rw [qe,e];rw [ux,if_neg hc]
  ·have e2:(x==n)=false:=by simpa using e
   rw [e2];dsimp only;split
   ·rw [qe,e2];exact ih
   ·rw [qe,e2];exact ih
structure CompOk (X:Cx) (scope:Scope):Prop where
 kind:scope.kind=.function
 nd:(scope.names.map (·.1)).Nodup
 fr:∀ x∈scope.names,x.2=.free->X.env.kindOf x.1=some .cell\/X.env.kindOf x.1=some .free
noncomputable def Dc (X:Cx) (pins:List (Addr×Obj)) (N':List Str) (scope:Scope) (C:Addr) (cells:List (Str×Addr)) (s₀:Shared) (H₀:Hp) (fp:List Addr):Cx where
 prog:=X.prog
 w:=X.w
 K:=X.K
 mg:=X.mg
 base:=X.base
 A:=X.A
 N:=N'
 s₀:=s₀
 H₀:=H₀
 env:={ scope:=relabel scope X.env,locals:=C,globals:=X.env.globals,cells:=cells,qual:=X.env.qual,func:=none,code:=X.env.code,frame:=X.env.frame,builtins:=X.env.builtins }
 outer:=X.stack
 stack:=X.stack
 ex:=fp
 fn:=λx=>decide ((x,NameKind.cell)∈scope.names)
 calm:=X.calm
 pn:=X.pn++pins
 xe:=λ_ _=>False
noncomputable def Cap (X:Cx) (N':List Str) (scope:Scope) (σ σ0:St):Prop:=σ0.length=N'.length/\∀ (i:Nat) (x:Str) (v:V),N'[i]?=some x->σ0[i]?=some (some v) ->
 scope.names.lookup x=some .free/\∃ j:Nat,X.N[j]?=some x/\σ[j]?=some (some v)
noncomputable abbrev Bg (its:List Value) (n:Nat):Obj:={ cls:=.type "list",data:=.seq its.toArray n }
section
variable {X:Cx}{pins:List (Addr×Obj)}{σ:St}{H:Hp}{s:Shared}
theorem aC {N':List Str}{scope:Scope}{fp:List Addr}{σ0:St}(I:Inv X pins σ H s) (S:CompOk X scope) (hf:∀ b∈fp,Lj X pins H b) (hb:∀ b∈fp,∃ o,s.heap.get? b=some o) (hσ:Cap X N' scope σ σ0) :
    Inv (Dc X pins N' scope (s.heap.objs.size+1) (cellsFrom (s.heap.objs.size+1+1) scope.names (Gq X.env scope.names)) s H fp) [(s.heap.objs.size,Bg [] 0)] σ0 H
      { s with heap:=pushCells ((s.heap.push (Bg [] 0)).push { cls:=.type "dict",data:=.dict #[] }) scope.names }:=by
  have sz1:(s.heap.push (Bg [] 0)).objs.size=s.heap.objs.size+1:=mj ..
  have sz2:((s.heap.push (Bg [] 0)).push { cls:=.type "dict",data:=.dict #[] }).objs.size=s.heap.objs.size+1+1:=by rw [mj,sz1]
  have keep:∀ b o,s.heap.get? b=some o->(pushCells ((s.heap.push (Bg [] 0)).push { cls:=.type "dict",data:=.dict #[] }) scope.names).get? b=some o:=λb o e=>HD _ _ b o (bw _ (bw _ e))
  have capt:∀ x c,(x,c)∈Gq X.env scope.names->X.env.cells.lookup x=some c:=λx c h=>by
    rcases K8 scope.names [] x c h with q|⟨q1,q2⟩
    · exact absurd q (by simp)
    · obtain ⟨c',e⟩:=I.ok.has x (S.fr _ q1 rfl);rw [e] at q2;rw [e,q2];rfl
  have cells:∀ x c,(cellsFrom (s.heap.objs.size+1+1) scope.names (Gq X.env scope.names)).lookup x=some c->X.env.cells.lookup x=some c\/s.heap.objs.size+1+1<=c:=λx c h=>by
    rcases Et _ _ _ x c (jt h) with q|⟨q,_⟩
    · exact .inl (capt x c q)
    · exact .inr q
  have stk:∀ b∈frs X.stack,b < s.heap.objs.size:=λb hb=>by
    rcases MP b s.heap.objs.size with z|z
    · exact z
    · rcases gb.mp (I.stkSub b hb) with q|q
      · rw [q];exact I.lt
      · exact absurd q (I.nofs z)
  have fpb:∀ b∈fp,b < s.heap.objs.size:=λb h=>let ⟨o,e⟩:=hb b h;Heap.lt_size e
  refine ⟨⟨I.ok.mod,S.kind,I.ok.glob,I.ok.blt,vf _,λx y c h1 h2=>?_,λx hx=>?_,λx c hx h=>?_,I.ok.hd,I.ok.frames,.inl rfl,λb hb=>⟨?_,λx c h=>?_⟩,I.bs,dz I.ok.bsz I.sz,λb o h z=>?_,λb hb z=>?_,I.stack,I.stkFree⟩,
    rfl,I.bare,Un.kept keep,⟨λ_=>none,?_,λi x v h1 h2 h3=>?_⟩,λx c h=>?_,I.hok.fresh (vf _),λx c h=>?_,λp hp=>?_,I.hok.kept keep,hσ.1⟩
  · refine G5 scope.names (s.heap.objs.size+1+1) (Gq X.env scope.names) (λx y c h1 h2=>I.ok.inj x y c (capt x c h1) (capt y c h2)) (λx c h=>?_) x y c (jt h1) (jt h2);obtain ⟨v,q⟩:=I.cell x c (capt x c h);exact qi (qi q.lt)
  · have hx:(relabel scope X.env).names.lookup x=some .cell\/(relabel scope X.env).names.lookup x=some .free:=hx;rw [Gf] at hx;refine zc.mp (BL scope.names _ _ ?_);cases e:scope.names.lookup x with
    | none=>rw [e] at hx;rcases hx with h | h <;> cases h
    | some k =>
      cases k with
      | cell=>exact .inl rfl
      | free=>right;rw [T3 (jt e)];rfl
      | «local»=>rw [e] at hx;rcases hx with h | h <;> cases h
      | globalExplicit=>rw [e] at hx;rcases hx with h | h <;> cases h
      | globalImplicit=>rw [e] at hx;rcases hx with h | h <;> cases h
  · exact dz (VL (vf _)) (Eu scope.names _ (s.heap.objs.size+1+1) _ x c (bh _) (.inl (of_decide_eq_true hx)) h)
  · exact iz (qi (fpb b hb))
  · rcases cells x c h with q|q
    · exact (hf b hb).2.2.2.2.1 x c q
    · exact BX (fu (fpb b hb) (by omega))
  · rcases (hf b z).2.2.2.1 with q|q
    · exact I.ok.noex b o h q
    · exact absurd (fu (Heap.lt_size h) (dz I.ok.bsz q)) (mz _)
  · rcases gb.mp (I.stkSub b z) with q|q
    · exact (hf b hb).2.1 q
    · exact (hf b hb).2.2.1 q
  · show (pushCells _ _).Ns (s.heap.objs.size+1) _
    have n:=(Heap.Ns.new (s.heap.push (Bg [] 0)) (.type "dict")).keeps (HD scope.names _);rw [sz1] at n;exact n
  · obtain ⟨e1,j,e2,e3⟩:=hσ.2 i x v h1 h2;obtain ⟨m,hn,hl⟩:=I.loc;have fr:=S.fr _ (jt e1) rfl;have vis:Vis X.env.scope x:=by
      rcases fr with q|q
      · exact .inr (.inl q)
      · exact .inr (.inr q)
    obtain ⟨u,r,l⟩:=hl j x v e2 e3 vis;refine ⟨u,r,.inr ⟨?_,?_⟩⟩
    · show (relabel scope X.env).names.lookup x=some .cell\/(relabel scope X.env).names.lookup x=some .free;rw [Gf,e1];simp only [ux];split
      · exact .inl rfl
      · exact .inr rfl
    · rcases l with ⟨k,_⟩|⟨_,c,ec,hc⟩
      · rcases fr with q | q <;> · rw [k] at q;cases q
      · refine ⟨c,?_,hc.keeps keep⟩;obtain ⟨c2,e⟩:=zc.mp (BL (x:=x) scope.names (s.heap.objs.size+1+1) (Gq X.env scope.names) (.inr (by rw [T3 (jt e1)];rfl)));show (cellsFrom _ _ _).lookup x=some c;rw [e];rcases Et _ _ _ x c2 (jt e) with q|⟨_,q⟩
        · rw [capt x c2 q] at ec;exact ec
        · rw [Ew S.nd q] at e1;cases e1
  · refine Gd scope.names ((s.heap.push (Bg [] 0)).push { cls:=.type "dict",data:=.dict #[] }) (Gq X.env scope.names) x c (λx c h=>?_) ?_
    · obtain ⟨v,q⟩:=I.cell x c (capt x c h);exact ⟨v,q.keeps λb o e=>bw _ (bw _ e)⟩
    · rw [sz2];exact jt h
  · rcases cells x c h with q|q
    · rcases I.freeC x c q with fc|⟨_,oz,uz,fz⟩
      · exact .inl fc
      · refine .inr ⟨Bool.eq_false_iff.mpr λhx=>?_,oz,uz,fz⟩;have h1:=Eu scope.names _ (s.heap.objs.size+1+1) _ x c (bh _) (.inl (of_decide_eq_true hx)) h;have h2:c < s.heap.objs.size:=Heap.lt_size (I.hok c _ fz).1;have h3:s.heap.objs.size+1+1<=c:=by first | exact h1 | (rw [← sz2];exact h1)
        exact absurd (fu h2 (dz (VL (vf _)) h3)) (mz _)
    · exact .inl (I.hok.fresh (by omega))
  · rcases jm.mp hp with hp|hp
    · obtain ⟨q1,q2,q3,q4,q5⟩:=I.pin p hp;have lt:=Heap.lt_size q1;refine ⟨keep _ _ q1,q2,iz (qi lt),λz=>?_,q5⟩;rcases gb.mp (I.stkSub p.1 z) with r|r
      · exact q3 r
      · exact q4 r
    · have e:p=(s.heap.objs.size,Bg [] 0):=by simpa using hp
      subst e;refine ⟨HD _ _ _ _ (bw _ (gq _ rfl)),I.hok.fresh (bh _),iz (qz _),λz=>?_,λv=>by intro z;cases z⟩;exact mz _ (stk _ z)
theorem pF {N':List Str}{scope:Scope}{fp:List Addr}{σ':St}{C:Addr}{cells:List (Str×Addr)}{H':Hp}{s':Shared}{its:List Value}{n:Nat}{ys:List V}{pl:List (Addr×Obj)}(I:Inv X pins σ H s) (hf:∀ b∈fp,Lj X pins H b)
  (J:Inv (Dc X pins N' scope C cells s H fp) ((s.heap.objs.size,Bg its n)::pl) σ' H' s') (r:Vals ys its) (hz:ys.length<=sizeLine) :
  Inv X pins σ (upd H' s.heap.objs.size (.lst ys)) s':=by
 obtain ⟨p1,p2,p3,p4,p5⟩:=J.pin (s.heap.objs.size,Bg its n) (gw _ jb);have hD:H' s.heap.objs.size=none:=p2;have ne:∀ b o,s.heap.get? b=some o->b≠s.heap.objs.size:=λb o e=>iz (Heap.lt_size e)
 have U:=J.base;refine I.call' (ch:=fp) J.os ⟨λb o e h1 h2 h3=>U.keep b o e h1 h2 h3,λb o e h1 h2 h3=>U.slot b o e h1 h2 h3,λb o e h1 h2=>?_,U.there,λb xs e=>?_,λb o u e=>?_,λb ps e=>?_⟩ ?_ J.bare λb hb=>?_
 ·rw [Al (ne b o e)];exact U.free b o e h1 h2
 ·have q:=U.tups b xs e;rw [Al (Bb q hD)];exact q
 ·have q:=U.frzs b o u e;rw [Al (Bb q hD)];exact q
 ·obtain ⟨m,q⟩:=U.tbls b ps e;exact ⟨m,by rw [Al (Bb q hD)];exact q⟩
 ·intro b u e
  by_cases hb:b=s.heap.objs.size
  ·subst hb;rw [Bw] at e;cases e;exact ⟨hz,its,n,r,p1⟩
  ·rw [Al hb] at e;exact (J.hok b u e).stay (λ_ _ _ q=>q) (λc q=>by rw [Al (Bb q hD)];exact q) λc xs q=>by rw [Al (Bb q hD)];exact q
 ·obtain ⟨q0,q1,q2,q3,q4,q5⟩:=hf b hb;exact ⟨q3,q1,q4,q5⟩
end
section
variable {prog:Program}{w:World}{A:Around}{E:Value->Shared->Prop}{R:Result->Shared->Prop}{s:Shared}
noncomputable abbrev dM (ifs:List Expr) (env:Env):Sem Bool:=forIn ifs true λc r=>if r=true then do let ok ← isTrue c env (eval c env);pure (ForInStep.yield ok) else pure (ForInStep.yield r)
theorem Vg {elt target iter:Expr}{ifs:List Expr}{scope:Scope}{pos:Pos}{it acc:Value}{env:Env}(I:Nat->Shared->Prop)
  (turn:∀ n s,I n s->wpAny (model prog w) A (pyNext it) (λr s₁=>match r with
   | none=>R (.ok .next) s₁
   | some v=>wpAny (model prog w) A (letOwnedTupleGo target it v) (λ_ s'=>wpAny (model prog w) A (assign target env v) (λ_ s₂ =>
     wpAny (model prog w) A (dM ifs env) (λok s₃ =>
      if ok=true then wpAny (model prog w) A (eval elt env) (λx s₄ =>
       wpAny (model prog w) A (call (.builtin "list.append") [acc,x]) (λ_ s₅=>∃ m,m < n/\I m s₅) (λ_ _=>False) s₄) (λ_ _=>False) s₃
      else ∃ m,m < n/\I m s₃) (λ_ _=>False) s₂) (λ_ _=>False) s') (λ_ _=>False) s₁) (λ_ _=>False) s)
  (n:Nat) (h:I n s) :
  codeAny (model prog w) A (.compLoop (.ListComp elt [⟨target,iter,ifs,0⟩] scope pos) 0 it acc env) R s:=by
 refine codeAny_loop rfl I (λn s hI=>?_) n h;show wpAny _ A ((compTurn (.ListComp elt [⟨target,iter,ifs,0⟩] scope pos) 0 it acc env).onRaise (λx=>do noteFrame x env;theTreesLotGoes x)) _ _ s;refine wpAny_noted ?_;rw [compTurn_list];refine aq (JM (aq (yt (turn n s hI) (λr s₁ h₁=>?_) λ_ _ h'=>h'.elim)));cases r with
 | none=>exact cu h₁
 | some v =>
  refine aq (yt h₁ (λ_ s' h'=>?_) λ_ _ h'=>h'.elim);refine aq (yt h' (λ_ s₂ h₂=>aq (yt h₂ (λok s₃ h₃=>?_) λ_ _ h'=>h'.elim)) λ_ _ h'=>h'.elim);cases ok with
  | false=>exact cu ⟨rfl,h₃⟩
  | true =>
   exact aq (aq (yt h₃ (λx s₄ h₄=>aq (yt h₄ (λ_ s₅ h₅=>cu (cu ⟨rfl,h₅⟩)) λ_ _ h'=>h'.elim)) λ_ _ h'=>h'.elim))
end
noncomputable def PIf (X:Cx) (ifs:List Expr) (t:TT):Prop :=
 ∀ (pins:List (Addr×Obj)) (s:Shared) (σ:St) (H:Hp) (Q:Bool->Hp->Prop),Inv X pins σ H s->t σ H Q->wpAny (model X.prog X.w) X.A (dM ifs X.env) (TP X pins σ Q) X.xe s
theorem Aac {X:Cx}:PIf X [] (λ_ H Q=>Q true H):=λpins s σ H Q I h=>wpAny_tests_nil ⟨H,I,h⟩
theorem Aad {X:Cx}{c:Expr}{t:TT}(h:PT X c t):PIf X [c] t:=λpins s σ H Q I q=>wpAny_tests_one (h pins s σ H Q I q)
noncomputable def Kept (σ0 σ2:St):Prop:=σ2.length=σ0.length/\∀ (i:Nat) v,σ0[i]?=some (some v)->σ2[i]?=some (some v)
noncomputable def pG (X:Cx) (N':List Str) (scope:Scope) (wi:TI) (g:TG) (tc:TT) (te:TE):TE:=λσ H Q=>wi σ H λJ H1=>∃ σ0,Cap X N' scope σ σ0/\∃ W:Nat->Nat->List V->Hp->Prop,(∃ m,W 0 m [] H1)/\∀ i m acc H,W i m acc H ->
 (J.stop i H/\∀ p,H p=none->Q (.ref p) (upd H p (.lst acc))) \/
 (J.go i H/\∃ N:List V->Hp->Prop,(∀ acc' H',N acc' H'->∃ m',m' < m/\W (i+1) m' acc' H')/\∀ x H',J.yld i H x H'->g x σ0 H' λσ2 H2=>Kept σ0 σ2/\tc σ2 H2 λb H3=>if b=true then acc.length < sizeLine/\te σ2 H3 λy H4=>N (acc++[y]) H4 else N acc H3)
section
variable {X:Cx}{N':List Str}{scope:Scope}{wi:TI}{g:TG}{tc:TT}{te:TE}{elt target iter:Expr}{ifs:List Expr}{pos:Pos}
theorem Qs {pins:List (Addr×Obj)}{s:Shared}{σ σ0:St}{H:Hp}{it:Addr}{fp:List Addr}{tn:Nat->Heap->Prop}{J:It}{QQ:List V->Hp->Prop}{E:Value->Shared->Prop}{RR:Value->Addr->Result->Shared->Prop}(hc:X.calm=true) (S:CompOk X scope)
  (hg:∀ pins C cells s₀ H₀ fp,PG (Dc X pins N' scope C cells s₀ H₀ fp) target g)
  (hi:∀ pins C cells s₀ H₀ fp,PIf (Dc X pins N' scope C cells s₀ H₀ fp) ifs tc)
  (he:∀ pins C cells s₀ H₀ fp,PE (Dc X pins N' scope C cells s₀ H₀ fp) elt te)
  (I:Inv X pins σ H s) (T:Turn X.prog X.w X.K target J fp it tn) (st:tn 0 s.heap) (hf:∀ b∈fp,Lj X pins H b) (hσ:Cap X N' scope σ σ0)
  (W:Nat->Nat->List V->Hp->Prop) (w0:∃ m,W 0 m [] H)
  (turn:∀ i m acc H,W i m acc H->(J.stop i H/\QQ acc H) \/
   (J.go i H/\∃ N:List V->Hp->Prop,(∀ acc' H',N acc' H'->∃ m',m' < m/\W (i+1) m' acc' H')/\∀ x H',J.yld i H x H'->g x σ0 H' λσ2 H2=>Kept σ0 σ2/\tc σ2 H2 λb H3=>if b=true then acc.length < sizeLine/\te σ2 H3 λy H4=>N (acc++[y]) H4 else N acc H3))
  (hRR:∀ (C:Addr) (acc:List V) (H':Hp) (s':Shared) (m:Str->Option Value),QQ acc H'->Inv X pins σ (upd H' s.heap.objs.size (.lst acc)) s'->H' s.heap.objs.size=none->s'.heap.Ns C m->H' C=none->C≠s.heap.objs.size->s.heap.objs.size<=C->RR (.ref s.heap.objs.size) C (.ok .next) s') :
  wpAny (model X.prog X.w) X.A (newList []) (λacc s₃=>wpAny (model X.prog X.w) X.A (newFunctionEnv scope X.env.globals (Gq X.env scope.names) [] X.env.qual none .none (some X.env)) (λcenv s₄ =>
   codeAny (model X.prog X.w) X.A (.compStart (.ListComp elt [⟨target,iter,ifs,0⟩] scope pos) 0 (.ref it) acc { cenv with scope:=relabel scope X.env }) (RR acc cenv.locals) s₄) E s₃) E s:=by
 refine qw (W6 ?_);have sz1:(s.heap.push (Bg [] 0)).objs.size=s.heap.objs.size+1:=mj ..;have I0:=aC (N':=N') (σ0:=σ0) I S hf (λb hb=>let ⟨o,e,_⟩:=T.obj 0 _ st b hb;⟨o,e⟩) hσ
 show codeAny (model X.prog X.w) X.A (.compStart (.ListComp elt [⟨target,iter,ifs,0⟩] scope pos) 0 (.ref it) (.ref s.heap.objs.size) _) (RR (.ref s.heap.objs.size) (s.heap.push (Bg [] 0)).objs.size) { s with heap:=pushCells ((s.heap.push (Bg [] 0)).push { cls:=.type "dict",data:=.dict #[] }) scope.names };rw [sz1];show codeAny (model X.prog X.w) X.A (.compStart (.ListComp elt [⟨target,iter,ifs,0⟩] scope pos) 0 (.ref it) (.ref s.heap.objs.size) (Dc X pins N' scope (s.heap.objs.size+1) (cellsFrom (s.heap.objs.size+1+1) scope.names (Gq X.env scope.names)) s H fp).env) _ _;generalize hX':Dc X pins N' scope (s.heap.objs.size+1) (cellsFrom (s.heap.objs.size+1+1) scope.names (Gq X.env scope.names)) s H fp=X' at I0 ⊢
 have keep0:∀ b o,s.heap.get? b=some o->(pushCells ((s.heap.push (Bg [] 0)).push { cls:=.type "dict",data:=.dict #[] }) scope.names).get? b=some o:=λb o e=>HD _ _ b o (bw _ (bw _ e))
 have st0:tn 0 (pushCells ((s.heap.push (Bg [] 0)).push { cls:=.type "dict",data:=.dict #[] }) scope.names):=T.keep _ _ _ st λb _ o e=>keep0 b o e
 have hA:X'.A=X.A:=by rw [← hX'];rfl
 have hP:X'.prog=X.prog:=by rw [← hX'];rfl
 have hw:X'.w=X.w:=by rw [← hX'];rfl
 have hK:X'.K=X.K:=by rw [← hX'];rfl
 have hC:X'.calm=true:=by rw [← hX'];exact hc
 have hL:X'.env.locals=s.heap.objs.size+1:=by rw [← hX'];rfl
 have hS0:X'.s₀=s:=by rw [← hX'];rfl
 have hxe:X'.xe=λ_ _=>False:=by rw [← hX'];rfl
 have hex:X'.ex=fp:=by rw [← hX'];rfl
 have hpn:X'.pn=X.pn++pins:=by rw [← hX'];rfl
 have hgX:PG X' target g:=by rw [← hX'];exact hg _ _ _ _ _ _
 have hiX:PIf X' ifs tc:=by rw [← hX'];exact hi _ _ _ _ _ _
 have heX:PE X' elt te:=by rw [← hX'];exact he _ _ _ _ _ _
 -- the iterator's own objects,in the block
 have fpo:∀ {pl:List (Addr×Obj)} {H':Hp} {its:List Value} {n:Nat},(∀ b∈fp,H' b=none)->∀ b∈fp,Lj X' [(s.heap.objs.size,Bg its n)] H' b:=λ{pl H' its n} hn b hb=>by
  obtain ⟨q0,q1,q2,q3,q4,q5⟩:=hf b hb;obtain ⟨e1,e2⟩:=I0.ok.exf b (by rw [hex];exact hb);have lt:b < s.heap.objs.size:=let ⟨o,e,_⟩:=T.obj 0 _ st b hb;Heap.lt_size e;refine ⟨hn b hb,e1,I0.ok.exfs b (by rw [hex];exact hb),.inl (by rw [hex];exact hb),e2,λp hp=>?_⟩;rw [hpn] at hp;rcases jm.mp hp with hp|hp
  ·exact q5 p hp
  ·have e:p=(s.heap.objs.size,Bg its n):=by simpa using hp
   subst e;exact BX lt
 obtain ⟨m0,w0⟩:=w0
 have loop:codeAny (model X.prog X.w) X.A (.compLoop (.ListComp elt [⟨target,iter,ifs,0⟩] scope pos) 0 (.ref it) (.ref s.heap.objs.size) X'.env) (RR (.ref s.heap.objs.size) (s.heap.objs.size+1)) { s with heap:=pushCells ((s.heap.push (Bg [] 0)).push { cls:=.type "dict",data:=.dict #[] }) scope.names }:=by
  refine Vg (λk s'=>∃ i H' acc its n,Inv X' [(s.heap.objs.size,Bg its n)] σ0 H' s'/\tn i s'.heap/\(∀ b∈fp,H' b=none)/\Vals acc its/\acc.length<=sizeLine/\W i k acc H') ?_ m0
   ⟨0,H,[],[],0,I0,st0,λb hb=>(hf b hb).1,.nil,jy _,w0⟩
  rintro k s3 ⟨i,H3,acc,its,n,I3,st3,fr3,rv,hz,w3⟩;rcases turn i k acc H3 w3 with ⟨stop,qn⟩|⟨go,N,hN,step⟩
  ·have z:=T.done X' hP hw hK hC i _ s3 σ0 H3 (λ_ _=>False) I3 (fpo (pl:=[]) fr3) st3 stop;rw [hA] at z;refine thn z ?_;rintro r s4 ⟨hr,I4⟩;subst hr;obtain ⟨m,hn,_⟩:=I4.loc;rw [hL] at hn;have fC:=I4.free;rw [hL] at fC;have e:=I4;rw [← hX'] at e;exact hRR _ acc H3 s4 m qn (pF I hf e rv hz) (I4.pin (s.heap.objs.size,Bg its n) (gw _ jb)).2.1 hn fC (Nat.succ_ne_self _) (vf _)
  ·have z:=T.item X' hP hw hK hC i _ s3 σ0 H3 (λ_ _=>False) I3 (fpo (pl:=[]) fr3) st3 go;rw [hA] at z;refine thn z ?_;rintro r s4 ⟨u,hr,h4⟩;subst hr;refine thn h4 ?_;rintro _ s5 ⟨x,H5,I5,r5,y5,st5,fr5⟩;have I5':=I5.pinned (fpo (pl:=[]) fr5) (T.obj _ _ st5);have zg:=hgX _ s5 σ0 H5 x u _ I5' r5 (step x H5 y5);rw [hP,hw,hA,hxe] at zg;refine thn zg ?_;rintro _ s6 ⟨σ6,H6,I6,kp,q6⟩;have zi:=hiX _ s6 σ6 H6 _ I6 q6;rw [hP,hw,hA,hxe] at zi;refine thn zi ?_;rintro b s7 ⟨H7,I7,q7⟩
   -- back to the loop's head
   have back:∀ {H8:Hp} {s8:Shared} {acc':List V} {its':List Value} {n':Nat},Inv X' ([(s.heap.objs.size,Bg its' n')]++K6 fp s5.heap) σ6 H8 s8->Vals acc' its'->acc'.length<=sizeLine->N acc' H8 ->
     ∃ m,m < k/\∃ i H' acc its n,Inv X' [(s.heap.objs.size,Bg its n)] σ0 H' s8/\tn i s8.heap/\(∀ b∈fp,H' b=none)/\Vals acc its/\acc.length<=sizeLine/\W i m acc H':=λ{H8 s8 acc' its' n'} I8 rv' hz' n8=>by
    obtain ⟨m',hm,w8⟩:=hN acc' H8 n8;refine ⟨m',hm,i+1,H8,acc',its',n',(I8.unpinned).weak kp.1.symm kp.2,T.keep _ _ _ st5 λb hb o e=>(I8.pin (b,o) (gw _ (gw _ (Ie hb e)))).1,λb hb=>?_,rv',hz',w8⟩;obtain ⟨o,e,d⟩:=T.obj _ _ st5 b hb;exact (I8.pin (b,o) (gw _ (gw _ (Ie hb e)))).2.1
   cases b with
   | false =>
    rw [if_neg kj] at q7;rw [if_neg kj];exact back I7 rv hz q7
   | true =>
    rw [if_pos rfl] at q7;rw [if_pos rfl];obtain ⟨hlt,q7⟩:=q7;have ze:=heX _ s7 σ6 H7 _ I7 q7;rw [hP,hw,hA,hxe] at ze;refine thn ze ?_;rintro y s8 ⟨yv,H8,I8,r8,q8⟩;obtain ⟨p1,p2,p3,p4,p5⟩:=I8.pin (s.heap.objs.size,Bg its n) (gw _ (qy _ jb));have len:its.toArray.size<=sizeLine:=by
     have:=rv.length;simp only [dw];omega
    refine wpAny_list_append_plain (hsz:=len) ⟨n,p1⟩ ?_;rintro h' ⟨n',pl⟩ sb;have pl':h'.get? s.heap.objs.size=some (Bg (its++[y]) n'):=by rw [pl];simp [Bg]
    have lD:s.heap.objs.size < (pushCells ((s.heap.push (Bg [] 0)).push { cls:=.type "dict",data:=.dict #[] }) scope.names).objs.size:=by
     refine fu ?_ (Ge _ _);rw [mj,mj];omega
    have cne:∀ z c,X'.env.cells.lookup z=some c->c≠s.heap.objs.size:=λz c e q=>by
     obtain ⟨v,hv⟩:=I8.cell z c e;obtain ⟨o,ho,hd⟩:=hv;rw [q] at ho;rw [show s8.heap.get? s.heap.objs.size=some (Bg its n) from p1] at ho;cases ho;cases hd
    have J9:Inv X' (K6 fp s5.heap) σ6 H8 { s8 with heap:=h' }:=by
     refine Inv.turned (t':=s8.toks) (it:=s.heap.objs.size) (I8.pins_of λp hp=>I8.pin p (gw _ (gw _ hp))) (λb o hb e=>sb.extBut b o hb e) p2 (by rw [hL];exact iz (qz _)) (.inr (by rw [hS0];exact bh _)) cne λp hp=>?_
     rw [hpn] at hp;rcases jm.mp hp with hp|hp
     ·have:p.1 < s.heap.objs.size:=Heap.lt_size (I.pin p hp).1;exact iz this
     ·obtain ⟨hb,_⟩:=Tn hp;have:p.1 < s.heap.objs.size:=let ⟨o,e,_⟩:=T.obj 0 _ st p.1 hb;Heap.lt_size e;exact iz this
    have I9:Inv X' ([(s.heap.objs.size,Bg (its++[y]) n')]++K6 fp s5.heap) σ6 H8 { s8 with heap:=h' }:=by
     refine J9.pins_of λp hp=>?_
     rcases jm.mp hp with hp|hp
     ·have e:p=(s.heap.objs.size,Bg (its++[y]) n'):=by simpa using hp
      subst e;exact ⟨pl',p2,p3,p4,λv=>by intro z;cases z⟩
     ·exact J9.pin p (gw _ hp)
    exact back I9 (rv.append (.cons r8 .nil)) (by rw [dg,qx];omega) q8
 exact codeAny_compStart_list loop (T.self X.A 0 _ _ _ st0 loop)
theorem Aae (hc:X.calm=true) (S:CompOk X scope) (hit:PI X target iter wi)
  (hg:∀ pins C cells s₀ H₀ fp,PG (Dc X pins N' scope C cells s₀ H₀ fp) target g)
  (hi:∀ pins C cells s₀ H₀ fp,PIf (Dc X pins N' scope C cells s₀ H₀ fp) ifs tc)
  (he:∀ pins C cells s₀ H₀ fp,PE (Dc X pins N' scope C cells s₀ H₀ fp) elt te)
  (hs:∀ x,foldedSetIterable iter X.env x=pure x:=by intro _;rfl) :
  PE X (.ListComp elt [⟨target,iter,ifs,0⟩] scope pos) (pG X N' scope wi g tc te):=by
 intro pins s σ H Q I h;rw [eval_ListComp];have hfree:∀ x∈scope.names,x.2=.free->∃ c,X.env.cells.lookup x.1=some c:=λx hx e=>I.ok.has x.1 (S.fr x hx e)
 refine MT (use:=none) rfl hs (Kw hfree) S.kind (λx hx e=>Ew S.nd (by rw [← e];exact hx)) (thn (hit pins s σ H _ I h) λv s1 h1=>thn h1 λitv s2 h2=>?_);obtain ⟨it,fp,tn,J,H2,e,I2,T,st2,f2,σ0,hσ,W,w0,turn⟩:=h2;subst e;refine Qs (QQ:=λacc H=>∀ p,H p=none->Q (.ref p) (upd H p (.lst acc))) (RR:=λacc C=>compPost (model X.prog X.w) X.A X.xe none (EP X pins σ Q) acc C) hc S hg hi he I2 T st2 f2 hσ W w0 turn ?_;intro C acc H' s' m q I' hD hn hC hne hle;refine ⟨m,hn,λh' sb=>?_⟩;obtain ⟨oC,_,_,hoC,_⟩:=id hn;have uC:upd H' s2.heap.objs.size (.lst acc) C=none:=by rw [Al hne];exact hC
 have hCL:C≠X.env.locals:=BX (fu I2.lt hle);refine ⟨.ref s2.heap.objs.size,_,I'.turned (t':=s'.toks) (it:=C) (λb o hb e=>sb.extBut b o hb e) uC hCL (.inr (dz I2.sz hle)) (λx c e z=>?_) λp hp z=>?_,rfl,q _ hD⟩
 ·obtain ⟨v,hv⟩:=I2.cell x c e;have:=hv.lt;rw [z] at this;exact mz _ (fu this hle)
 ·have:=Heap.lt_size (I2.pin p hp).1;rw [z] at this;exact mz _ (fu this hle)
theorem aD {y:Str}{py spos:Pos}{gy:TG}(hc:X.calm=true) (S:CompOk X scope) (hit:PI X target iter wi)
  (hg:∀ pins C cells s₀ H₀ fp,PG (Dc X pins N' scope C cells s₀ H₀ fp) target g)
  (hi:∀ pins C cells s₀ H₀ fp,PIf (Dc X pins N' scope C cells s₀ H₀ fp) ifs tc)
  (he:∀ pins C cells s₀ H₀ fp,PE (Dc X pins N' scope C cells s₀ H₀ fp) elt te)
  (hgy:PG X (.Name y py) gy)
  (hsw:swapsWith (.ListComp elt [⟨target,iter,ifs,0⟩] scope pos) (some (.Name y py)) spos.line X.env=pure true)
  (hs:∀ x,foldedSetIterable iter X.env x=pure x:=by intro _;rfl) :
  PS X (.Assign [.Name y py] (.ListComp elt [⟨target,iter,ifs,0⟩] scope pos) spos) (Aeb (pG X N' scope wi g tc te) gy):=by
 intro pins s σ H D I h;rw [exec_Assign_Name_used _ _ _ _ hsw];refine aq (JM (aq ?_));show wpAny _ X.A (do let _ ← comprehension (.ListComp elt [⟨target,iter,ifs,0⟩] scope pos) scope X.env _ (newList []) false (eval iter X.env) (some (assign (.Name y py) X.env))) _ _ s;have hfree:∀ x∈scope.names,x.2=.free->∃ c,X.env.cells.lookup x.1=some c:=λx hx e=>I.ok.has x.1 (S.fr x hx e)
 refine aq (yt (MT (use:=some (assign (.Name y py) X.env)) (Q:=λ_ s'=>SP X pins D .next s') rfl hs (Kw hfree) S.kind (λx hx e=>Ew S.nd (by rw [← e];exact hx)) (thn (hit pins s σ H _ I h) λv s1 h1=>thn h1 λitv s2 h2=>?_))
  (λ_ s' hq=>cu (cu hq)) λ_ _ e=>e)
 obtain ⟨it,fp,tn,J,H2,e,I2,T,st2,f2,σ0,hσ,W,w0,turn⟩:=h2;subst e;refine Qs (QQ:=λacc H=>∀ p,H p=none->gy (.ref p) σ (upd H p (.lst acc)) D.nx) (RR:=λacc C=>compPost (model X.prog X.w) X.A X.xe (some (assign (.Name y py) X.env)) (λ_ s'=>SP X pins D .next s') acc C) hc S hg hi he I2 T st2 f2 hσ W w0 turn ?_;intro C acc H' s' m q I' hD hn hC hne hle;obtain ⟨oC,esC,epC,hoC,hdC⟩:=id hn;have uC:upd H' s2.heap.objs.size (.lst acc) C=none:=by rw [Al hne];exact hC
 have hCL:C≠X.env.locals:=BX (fu I2.lt hle);have hCfs:C ∉ X.fs:=I2.nofs hle;have pinC:Inv X (pins++[(C,oC)]) σ (upd H' s2.heap.objs.size (.lst acc)) s':=by
  refine I'.pins_of λp hp=>?_
  rcases jm.mp hp with hp|hp
  ·exact I'.pin p (gw _ hp)
  ·have e:p=(C,oC):=by simpa using hp
   subst e;refine ⟨hoC,uC,hCL,hCfs,λv z=>?_⟩;rw [hdC.1] at z;cases z
 refine thn (hgy _ s' σ _ (.ref s2.heap.objs.size) _ _ pinC rfl (q _ hD)) ?_;rintro _ s'' ⟨σ2,H3,I3,q3⟩;obtain ⟨p1,p2,p3,p4,p5⟩:=I3.pin (C,oC) (gw _ (gw _ jb));refine ⟨m,⟨oC,esC,epC,p1,hdC⟩,λh' sb=>?_⟩;refine ⟨σ2,H3,(Inv.unpinned I3).turned (t':=s''.toks) (it:=C) (λb o hb e=>sb.extBut b o hb e) p2 hCL (.inr (dz I2.sz hle)) (λx c e z=>?_) λp hp z=>?_,q3⟩
 ·obtain ⟨v,hv⟩:=I2.cell x c e;have:=hv.lt;rw [z] at this;exact mz _ (fu this hle)
 ·have:=Heap.lt_size (I2.pin p hp).1;rw [z] at this;exact mz _ (fu this hle)
end
end L2
namespace DL
open PySem PySem.Spec PyProof.Rows L2
noncomputable abbrev St:=L2.St
structure CloI where
 ps:List Str
 N:List Str
 fr:List Str
 scope:Scope
 body:List Stmt
inductive D where
 | non | bl (b:Bool) | int (i:Int) | str (x:Str) | tup (ds:List D) | ref (n:Nat) | rol (ds:List D) | obj (c:Str) (ks:List Str) (ds:List D) | fn (x:Str) | lam | clo (I:CloI) (ds:List D)
 deriving Inhabited
inductive MO where
 | lst (ds:List D)
 | dct (kvs:List (Key×D))
 | dtk (kvs:List (PyData×D))
 | plc
 | plq (x:Str)
noncomputable abbrev MH:=List MO
noncomputable abbrev Loc:=List (Option D)
noncomputable def Jd (K:aj) (H:Hp) (a:Addr) (xs:List V):Prop:=(∃ o,H a=some (.frz o (.lst xs))) \/
  ∃ (o:Obj) (its:Array Value) (n:Nat),K.lookup a=some o/\o.cls=.type "list"/\o.dict=none/\o.data=.seq its n/\its.size<=sizeLine/\Vals xs its.toList
theorem Jd.sq {K:aj}{H:Hp}{a:Addr}{xs:List V}(h:Jd K H a xs):SqL K H a xs:=by
 rcases h with ⟨o,h⟩|h
 ·exact .inl (.inr ⟨o,h⟩)
 ·exact .inr h
noncomputable def Aj1 (fd:FuncData):Prop:=∃ (name qual:Str) (ps:Arguments) (x y:Str) (p q pt:Pos) (k:Nat) (sc:Scope) (pm cdv ct:Value),fd=PySem.W.kla_fn name qual ps (.Tuple [.Name x p,.Name y q] k pt) sc [] pm cdv ct /\
  FnScope [x,y] [x,y] sc/\(x==("__debug__":Str))=false/\(x==("__classdict__":Str))=false/\(y==("__debug__":Str))=false/\(y==("__classdict__":Str))=false/\∀ u v,bindArgs fd ⟨[u,v],[]⟩=pure [(x,u),(y,v)]
noncomputable def W7 (H:Hp) (v:Value) (q:Str):Prop:=∃ c oc u vs tq,v=.ref c/\H c=some (.frz oc u)/\oc.data=.fields vs/\vs[1]?=some (.str q tq)
noncomputable def dO (H:Hp) (a:Addr):Prop:=∃ o u fd,H a=some (.frz o u)/\o.data=.func fd/\Aj1 fd/\W7 H fd.code fd.qualname
structure CloSc (I:CloI):Prop where
 kind:I.scope.kind=.function
 co:I.scope.isCoroutine=false
 gen:I.scope.isGenerator=false
 nd:(I.N++I.fr).Nodup
 pre:I.N.take I.ps.length=I.ps
 par:∀ x∈I.ps,I.scope.names.lookup x=some .local
 nocell:∀ y∈I.scope.names,y.2≠.cell
 free:∀ x,I.scope.names.lookup x=some .free->x∈I.fr
 frs:∀ x∈I.fr,I.scope.names.lookup x=some .free
noncomputable def Ac7 (I:CloI) (fd:FuncData) (cl:List (Str×Addr)):Prop:=∃ (name qual:Str) (params:Arguments) (doc pm cdv ctv:Value),fd=PySem.W.fnX name qual params I.body I.scope cl .none .none doc pm none cdv ctv/\∀ us:List Value,us.length=I.ps.length->bindArgs fd ⟨us,[]⟩=pure (I.ps.zip us)
noncomputable def Ig (H:Hp):List Addr->List V->Prop
 | [],[]=>True
 | c::cs,v::vs=>(∃ oc u w,H c=some (.frz oc u)/\oc.data=.cell (some w)/\RelV v w)/\Ig H cs vs
 | _,_=>False
noncomputable def dR (H:Hp) (a:Addr) (I:CloI) (xs:List V):Prop:=∃ o u fd cl,H a=some (.frz o u)/\o.data=.func fd/\CloSc I/\Ac7 I fd cl/\W7 H fd.code fd.qualname/\cl.map (·.1)=I.fr/\(cl.map (·.2)).Nodup/\Ig H (cl.map (·.2)) xs
mutual
inductive RD (K:aj) (H:Hp) (ρ:List Addr):D->V->Prop
 | non:RD K H ρ .non .non
 | bl (b:Bool):RD K H ρ (.bl b) (.bl b)
 | int (i:Int):RD K H ρ (.int i) (.int i)
 | str (x:Str):RD K H ρ (.str x) (.str x)
 | tup {ds:List D} {a:Addr} {xs:List V}:SqT K H a xs->RDs K H ρ ds xs->RD K H ρ (.tup ds) (.ref a)
 | ref {n:Nat} {a:Addr}:ρ[n]?=some a->RD K H ρ (.ref n) (.ref a)
 | rol {ds:List D} {a:Addr} {xs:List V}:Jd K H a xs->RDs K H ρ ds xs->RD K H ρ (.rol ds) (.ref a)
 | obj {c:Str} {ks:List Str} {ds:List D} {a C dx:Addr} {xs:List V}:jo K mainGlobals c=some (some (.ref C))->H a=some (.ins C dx (ks.zip xs))->ks.length=xs.length->RDs K H ρ ds xs->RD K H ρ (.obj c ks ds) (.ref a)
 | fn {x:Str} {a:Addr}:jo K mainGlobals x=some (some (.ref a))->RD K H ρ (.fn x) (.ref a)
 | lam {a:Addr}:dO H a->RD K H ρ .lam (.ref a)
 | clo {I:CloI} {ds:List D} {a:Addr} {xs:List V}:dR H a I xs->RDs K H ρ ds xs->RD K H ρ (.clo I ds) (.ref a)
inductive RDs (K:aj) (H:Hp) (ρ:List Addr):List D->List V->Prop
 | nil:RDs K H ρ [] []
 | cons {d:D} {v:V} {ds:List D} {vs:List V}:RD K H ρ d v->RDs K H ρ ds vs->RDs K H ρ (d::ds) (v::vs)
end
structure Ev (K:aj) (H:Hp) (ρ:List Addr) (H':Hp) (ρ':List Addr):Prop where
 tup:∀ a xs,SqT K H a xs->SqT K H' a xs
 pre:ρ <+: ρ'
 perm:∀ a xs,Jd K H a xs->Jd K H' a xs
 ins:∀ a C dx fs,H a=some (.ins C dx fs)->H' a=some (.ins C dx fs)
 frz:∀ a o u,H a=some (.frz o u)->H' a=some (.frz o u)
theorem Ev.refl {K:aj}{H:Hp}{ρ:List Addr}:Ev K H ρ H ρ:=⟨λ_ _ h=>h,CP _,λ_ _ h=>h,λ_ _ _ _ h=>h,λ_ _ _ h=>h⟩
theorem Ev.trans {K:aj}{H H1 H2:Hp}{ρ ρ1 ρ2:List Addr}(a:Ev K H ρ H1 ρ1) (b:Ev K H1 ρ1 H2 ρ2):Ev K H ρ H2 ρ2:=⟨λx xs h=>b.tup x xs (a.tup x xs h),a.pre.trans b.pre,λx xs h=>b.perm x xs (a.perm x xs h),λx C dx fs h=>b.ins x C dx fs (a.ins x C dx fs h),λx o u h=>b.frz x o u (a.frz x o u h)⟩
theorem Ev.at {K:aj}{H H':Hp}{ρ ρ':List Addr}(e:Ev K H ρ H' ρ') {n:Nat}{a:Addr}(h:ρ[n]?=some a):ρ'[n]?=some a:=by
 obtain ⟨t,rfl⟩:=e.pre;obtain ⟨hl,_⟩:=cg.mp h;rw [ju hl];exact h
theorem W7.mono {H H':Hp}(e:∀ a o u,H a=some (.frz o u)->H' a=some (.frz o u)) {v:Value}{q:Str}(h:W7 H v q):W7 H' v q :=
 let ⟨c,oc,u,vs,tq,h1,h2,h3⟩:=h;⟨c,oc,u,vs,tq,h1,e _ _ _ h2,h3⟩
theorem dO.mono {H H':Hp}(e:∀ a o u,H a=some (.frz o u)->H' a=some (.frz o u)) {a:Addr}(h:dO H a):dO H' a :=
 let ⟨o,u,fd,h1,h2,h3,h4⟩:=h;⟨o,u,fd,e _ _ _ h1,h2,h3,h4.mono e⟩
theorem Ig.mono {H H':Hp}(e:∀ a o u,H a=some (.frz o u)->H' a=some (.frz o u)):∀ {cs:List Addr}{vs:List V},Ig H cs vs->Ig H' cs vs
 | [],[],_=>trivial
 | _::_,_::_,⟨⟨oc,u,w,h1,h2,h3⟩,t⟩=>⟨⟨oc,u,w,e _ _ _ h1,h2,h3⟩,Ig.mono e t⟩
theorem dR.mono {H H':Hp}(e:∀ a o u,H a=some (.frz o u)->H' a=some (.frz o u)) {a:Addr}{I:CloI}{xs:List V}(h:dR H a I xs):dR H' a I xs :=
 let ⟨o,u,fd,cl,h1,h2,h3,h4,h5,h6,h7,h8⟩:=h;⟨o,u,fd,cl,e _ _ _ h1,h2,h3,h4,h5.mono e,h6,h7,h8.mono e⟩
mutual
theorem RD.mono {K:aj}{H H':Hp}{ρ ρ':List Addr}(e:Ev K H ρ H' ρ'):∀ {d:D}{v:V},RD K H ρ d v->RD K H' ρ' d v
 | _,_,.non=>.non
 | _,_,.bl b=>.bl b
 | _,_,.int i=>.int i
 | _,_,.str x=>.str x
 | _,_,.tup s r=>.tup (e.tup _ _ s) (RDs.mono e r)
 | _,_,.ref h=>.ref (e.at h)
 | _,_,.rol s r=>.rol (e.perm _ _ s) (RDs.mono e r)
 | _,_,.obj n s l r=>.obj n (e.ins _ _ _ _ s) l (RDs.mono e r)
 | _,_,.fn h=>.fn h
 | _,_,.lam h=>.lam (h.mono e.frz)
 | _,_,.clo h r=>.clo (h.mono e.frz) (RDs.mono e r)
theorem RDs.mono {K:aj}{H H':Hp}{ρ ρ':List Addr}(e:Ev K H ρ H' ρ'):∀ {ds:List D}{vs:List V},RDs K H ρ ds vs->RDs K H' ρ' ds vs
 | _,_,.nil=>.nil
 | _,_,.cons r t=>.cons (RD.mono e r) (RDs.mono e t)
end
section
variable {K:aj}{H H':Hp}{ρ ρ':List Addr}
theorem RDs.length:∀ {ds:List D}{vs:List V},RDs K H ρ ds vs->ds.length=vs.length
 | _,_,.nil=>rfl
 | _,_,.cons _ t=>by rw [jj,jj,RDs.length t]
theorem RDs.get:∀ {ds:List D}{vs:List V}{i:Nat}{d:D},RDs K H ρ ds vs->ds[i]?=some d->∃ v,vs[i]?=some v/\RD K H ρ d v
 | _,_,_,_,.nil,e=>by simp at e
 | _,_,0,_,.cons r _,e=>by simp at e;subst e;exact ⟨_,by simp,r⟩
 | _,_,i+1,d,.cons _ t,e=>by
  obtain ⟨v,h1,h2⟩:=RDs.get (i:=i) (d:=d) t (by simpa using e);exact ⟨v,by simpa using h1,h2⟩
theorem RDs.append:∀ {ds es:List D}{vs us:List V},RDs K H ρ ds vs->RDs K H ρ es us->RDs K H ρ (ds++es) (vs++us)
 | _,_,_,_,.nil,s=>s
 | _,_,_,_,.cons r t,s=>.cons r (RDs.append t s)
theorem RDs.take:∀ {ds:List D}{vs:List V}(n:Nat),RDs K H ρ ds vs->RDs K H ρ (ds.take n) (vs.take n)
 | _,_,0,_=>.nil
 | _,_,_+1,.nil=>.nil
 | _,_,n+1,.cons r t=>.cons r (RDs.take n t)
theorem RDs.drop:∀ {ds:List D}{vs:List V}(n:Nat),RDs K H ρ ds vs->RDs K H ρ (ds.drop n) (vs.drop n)
 | _,_,0,r=>r
 | _,_,_+1,.nil=>.nil
 | _,_,n+1,.cons _ t=>RDs.drop n t
theorem RDs.set {d:D}{v:V}(r:RD K H ρ d v):∀ {ds:List D}{vs:List V}(n:Nat),RDs K H ρ ds vs->RDs K H ρ (ds.set n d) (vs.set n v)
 | _,_,_,.nil=>.nil
 | _,_,0,.cons _ t=>.cons r t
 | _,_,n+1,.cons q t=>.cons q (RDs.set r n t)
theorem RDs.ints:∀ (ns:List Int),RDs K H ρ (ns.map D.int) (ns.map V.int)
 | []=>.nil
 | n::r=>.cons (.int n) (RDs.ints r)
noncomputable def Amc (K:aj) (a:Addr):Prop:=∃ (f:Addr) (o:Obj) (fd:FuncData) (c bm:Addr) (ob:Obj),jo K mainGlobals "pattern_of"=some (some (.ref f))/\K.lookup f=some o/\o.data=.func fd/\fd.code=.ref c/\PySem.W.codeHdIn K c a=true /\
  jo K mainGlobals "__builtins__"=some (some (.ref bm))/\K.lookup bm=some ob/\ob.cls=.type "module"/\ob.dict=some builtinsNs/\ob.data=.plain/\bm≠builtinsNs/\bm≠mainGlobals
noncomputable abbrev Amd:Str:=("pattern_of":Str) ++ ".<locals>." ++ "<lambda>"
noncomputable def Aj2 (K:aj) (H:Hp) (a:Addr):Prop:=∃ ps,H a=some (.tbl ps)/\TriplesOk ps.toList/\(∀ pos v,codeAmong pos ps.toList=some v->W7 H v Amd)/\Amc K a
noncomputable def Ame (K:aj) (x:Str) (a:Addr):Prop:=∃ (f:Addr) (o:Obj) (fd:FuncData) (c bm:Addr) (ob:Obj),jo K mainGlobals x=some (some (.ref f))/\K.lookup f=some o/\o.data=.func fd/\fd.code=.ref c/\PySem.W.codeHdIn K c a=true /\
  jo K mainGlobals "__builtins__"=some (some (.ref bm))/\K.lookup bm=some ob/\ob.cls=.type "module"/\ob.dict=some builtinsNs/\ob.data=.plain/\bm≠builtinsNs/\bm≠mainGlobals
noncomputable abbrev Amf (x:Str):Str:=x ++ ".<locals>." ++ "_law_pick"
noncomputable def Aj3 (K:aj) (H:Hp) (x:Str) (a:Addr):Prop:=∃ ps,H a=some (.tbl ps)/\TriplesOk ps.toList/\(∀ pos v,codeAmong pos ps.toList=some v->W7 H v (Amf x))/\Ame K x a
mutual
noncomputable def toD:PyData->D
 | .int i=>.int i
 | .str x=>.str x
 | .tuple xs=>.tup (aF xs)
 | _=>.non
noncomputable def aF:List PyData->List D
 | []=>[]
 | x::r=>toD x::aF r
end
noncomputable def kOk (k:PyData):Prop:=kCl k=true/\k.canLay0=true/\k.depth<=8
inductive KN (K:aj) (H:Hp) (ρ:List Addr):List (PyData×D)->List (PyData×Addr×V)->Prop
 | nil:KN K H ρ [] []
 | cons {k:PyData} {d:D} {b:Addr} {v:V} {kvs:List (PyData×D)} {xs:List (PyData×Addr×V)}:kOk k->RD K H ρ (toD k) (.ref b)->RD K H ρ d v->KN K H ρ kvs xs->KN K H ρ ((k,d)::kvs) ((k,b,v)::xs)
theorem KN.mono {kvs:List (PyData×D)}{xs:List (PyData×Addr×V)}(e:Ev K H ρ H' ρ') (h:KN K H ρ kvs xs):KN K H' ρ' kvs xs:=by
 induction h with
 | nil=>exact .nil
 | cons a b c _ ih=>exact .cons a (b.mono e) (c.mono e) ih
noncomputable def RO (K:aj) (H:Hp) (ρ:List Addr) (a:Addr):MO->Prop
 | .lst ds=>∃ xs,H a=some (.lst xs)/\RDs K H ρ ds xs
 | .plc=>Aj2 K H a
 | .plq x=>Aj3 K H x a
 | .dtk kvs=>∃ xs,H a=some (.dN xs)/\KN K H ρ kvs xs
 | .dct kvs=>∃ xs:List (Key×V),H a=some (.dK xs)/\xs.map (·.1)=kvs.map (·.1)/\RDs K H ρ (kvs.map (·.2)) (xs.map (·.2))
structure RS (K:aj) (H:Hp) (ρ:List Addr) (mh:MH):Prop where
 len:ρ.length=mh.length
 nd:ρ.Nodup
 obj:∀ (n:Nat) (a:Addr) (o:MO),ρ[n]?=some a->mh[n]?=some o->RO K H ρ a o
noncomputable def RL (K:aj) (H:Hp) (ρ:List Addr) (loc:Loc) (σ:St):Prop:=loc.length=σ.length/\∀ (i:Nat) (d:D),loc[i]?=some (some d)->∃ v,σ[i]?=some (some v)/\RD K H ρ d v
theorem RL.mono {loc:Loc}{σ:St}(e:Ev K H ρ H' ρ') (h:RL K H ρ loc σ):RL K H' ρ' loc σ:=⟨h.1,λi d q=>let ⟨v,e1,r⟩:=h.2 i d q;⟨v,e1,r.mono e⟩⟩
theorem RL.set {loc:Loc}{σ:St}{d:D}{v:V}{i:Nat}(h:RL K H ρ loc σ) (r:RD K H ρ d v):RL K H ρ (loc.set i (some d)) (σ.set i (some v)):=by
 refine ⟨by rw [jz,jz];exact h.1,λj d' q=>?_⟩
 by_cases e:i=j
 ·subst e;rw [yq] at q;simp only [if_true] at q;split at q
  ·rename_i hl;cases q;refine ⟨v,?_,r⟩;rw [yq];simp only [if_true];rw [if_pos (by rw [← h.1];exact hl)]
  ·cases q
 ·rw [iy e] at q;rw [iy e];exact h.2 j d' q
theorem RS.at {mh:MH}(h:RS K H ρ mh) {n:Nat}{o:MO}(e:mh[n]?=some o):∃ a,ρ[n]?=some a/\RO K H ρ a o:=by
 obtain ⟨hl,_⟩:=cg.mp e;have hl':n < ρ.length:=by rw [h.len];exact hl
 exact ⟨ρ[n],au hl',h.obj n _ o (au hl') e⟩
theorem RS.tracked {mh:MH}(h:RS K H ρ mh) {a:Addr}(ha:a∈ρ):∃ o,H a=some o:=by
 obtain ⟨n,hn,rfl⟩:=CT ha;have hl:n < mh.length:=by rw [← h.len];exact hn
 have q:=h.obj n _ _ (au hn) (au hl);cases e:mh[n] with
 | lst ds=>rw [e] at q;obtain ⟨xs,q,_⟩:=q;exact ⟨_,q⟩
 | dct kvs=>rw [e] at q;obtain ⟨xs,q,_⟩:=q;exact ⟨_,q⟩
 | dtk kvs=>rw [e] at q;obtain ⟨xs,q,_⟩:=q;exact ⟨_,q⟩
 | plc=>rw [e] at q;obtain ⟨xs,q,_⟩:=q;exact ⟨_,q⟩
 | plq x=>rw [e] at q;obtain ⟨xs,q,_⟩:=q;exact ⟨_,q⟩
theorem RO.read {a:Addr}{ds:List D}(h:RO K H ρ a (.lst ds)):∃ xs,SqL K H a xs/\RDs K H ρ ds xs:=by
 obtain ⟨xs,q,r⟩:=h;exact ⟨xs,.inl (.inl q),r⟩
theorem dU {a p:Addr}{o:HO}{xs:List V}(hp:H p=none) (h:SqT K H a xs):SqT K (upd H p o) a xs:=by
 rcases h with (h|⟨ob,h⟩)|h
 ·exact .inl (.inl (by rw [Al (Bb h hp)];exact h))
 ·exact .inl (.inr ⟨ob,by rw [Al (Bb h hp)];exact h⟩)
 ·exact .inr h
theorem Aaf {a p:Addr}{ys zs xs:List V}(hp:H p=some (.lst ys)) (h:SqT K H a xs):SqT K (upd H p (.lst zs)) a xs:=by
 rcases h with (h|⟨ob,h⟩)|h
 ·exact .inl (.inl (by rw [Al (Jm h hp (by intro z;cases z))];exact h))
 ·exact .inl (.inr ⟨ob,by rw [Al (Jm h hp (by intro z;cases z))];exact h⟩)
 ·exact .inr h
theorem W8 {a p:Addr}{o:HO}{xs:List V}(hp:H p=none) (h:Jd K H a xs):Jd K (upd H p o) a xs:=by
 rcases h with ⟨ob,h⟩|h
 ·exact .inl ⟨ob,by rw [Al (Bb h hp)];exact h⟩
 ·exact .inr h
theorem pH {a p:Addr}{ys zs xs:List V}(hp:H p=some (.lst ys)) (h:Jd K H a xs):Jd K (upd H p (.lst zs)) a xs:=by
 rcases h with ⟨ob,h⟩|h
 ·exact .inl ⟨ob,by rw [Al (Jm h hp (by intro z;cases z))];exact h⟩
 ·exact .inr h
theorem Ev.new {p:Addr}{o:HO}(hp:H p=none):Ev K H ρ (upd H p o) ρ:=⟨λ_ _ h=>dU hp h,CP _,λ_ _ h=>W8 hp h,λa _ _ _ h=>by rw [Al (Bb h hp)];exact h,λa _ _ h=>by rw [Al (Bb h hp)];exact h⟩
theorem Ev.newL {p:Addr}{o:HO}(hp:H p=none):Ev K H ρ (upd H p o) (ρ++[p]):=⟨λ_ _ h=>dU hp h,List.prefix_append _ _,λ_ _ h=>W8 hp h,λa _ _ _ h=>by rw [Al (Bb h hp)];exact h,λa _ _ h=>by rw [Al (Bb h hp)];exact h⟩
theorem Ev.lst {p:Addr}{ys zs:List V}(hp:H p=some (.lst ys)):Ev K H ρ (upd H p (.lst zs)) ρ:=⟨λ_ _ h=>Aaf hp h,CP _,λ_ _ h=>pH hp h,λa _ _ _ h=>by rw [Al (Jm h hp (by intro z;cases z))];exact h,λa _ _ h=>by rw [Al (Jm h hp (by intro z;cases z))];exact h⟩
theorem RO.mono {a:Addr}{o:MO}(e:Ev K H ρ H' ρ') (s:H' a=H a) (h:RO K H ρ a o):RO K H' ρ' a o:=by
 cases o with
 | lst ds=>obtain ⟨xs,q,r⟩:=h;exact ⟨xs,by rw [s];exact q,r.mono e⟩
 | dct kvs=>obtain ⟨xs,q,k,r⟩:=h;exact ⟨xs,by rw [s];exact q,k,r.mono e⟩
 | dtk kvs=>obtain ⟨xs,q,r⟩:=h;exact ⟨xs,by rw [s];exact q,r.mono e⟩
 | plc=>obtain ⟨ps,q,t,c,k⟩:=h;exact ⟨ps,by rw [s];exact q,t,λpos v z=>(c pos v z).mono e.frz,k⟩
 | plq x=>obtain ⟨ps,q,t,c,k⟩:=h;exact ⟨ps,by rw [s];exact q,t,λpos v z=>(c pos v z).mono e.frz,k⟩
theorem RS.new {mh:MH}{p:Addr}{o:HO}(h:RS K H ρ mh) (hp:H p=none):RS K (upd H p o) ρ mh :=
 ⟨h.len,h.nd,λn a ob e1 e2=>(h.obj n a ob e1 e2).mono (Ev.new hp) (by
  obtain ⟨oo,q⟩:=h.tracked (gn e1)
  rw [Al (Bb q hp)])⟩
theorem RS.newL {mh:MH}{p:Addr}{xs:List V}{ds:List D}(h:RS K H ρ mh) (hp:H p=none) (r:RDs K H ρ ds xs):RS K (upd H p (.lst xs)) (ρ++[p]) (mh++[.lst ds]):=by
 have hnp:p ∉ ρ:=λz=>by
  obtain ⟨o,q⟩:=h.tracked z;rw [hp] at q;cases q
 refine ⟨by rw [dg,dg,h.len];rfl,?_,λn a ob e1 e2=>?_⟩
 ·rw [qj]
  exact ⟨h.nd,jw _ _,λa ha b hb z=>by
   rw [ao.mp hb] at z;rw [z] at ha;exact hnp ha⟩
 ·by_cases hn:n < ρ.length
  ·rw [ju hn] at e1;rw [ju (by rw [← h.len];exact hn)] at e2;refine (h.obj n a ob e1 e2).mono (Ev.newL hp) ?_;obtain ⟨oo,q⟩:=h.tracked (gn e1);rw [Al (Bb q hp)]
  ·rw [qm (by omega)] at e1;rw [qm (by rw [← h.len];omega)] at e2;have n0:n - ρ.length=0:=by
    have:=(cg.mp e1).1;simp at this;omega
   rw [n0] at e1;rw [← h.len,n0] at e2;cases e1;cases e2;exact ⟨xs,Bw,r.mono (Ev.newL hp)⟩
theorem RS.setL {mh:MH}{n:Nat}{p:Addr}{ys xs:List V}{ds:List D}(h:RS K H ρ mh) (hn:ρ[n]?=some p) (hp:H p=some (.lst ys)) (r:RDs K H ρ ds xs):RS K (upd H p (.lst xs)) ρ (mh.set n (.lst ds)):=by
 refine ⟨by rw [jz];exact h.len,h.nd,λm a ob e1 e2=>?_⟩
 by_cases hm:n=m
 ·subst hm;rw [hn] at e1;cases e1;rw [yq] at e2;simp only [if_true] at e2;split at e2
  ·cases e2;exact ⟨xs,Bw,r.mono (Ev.lst hp)⟩
  ·cases e2
 ·rw [iy hm] at e2;refine (h.obj m a ob e1 e2).mono (Ev.lst hp) ?_;rw [Al];intro z;subst z;exact hm ((KD (cg.mp hn).1 h.nd).mp (hn.trans e1.symm))
end
noncomputable abbrev DM (α:Type):=Loc->MH->Option (α×MH)
noncomputable def DM.bnd {α β:Type}(m:DM α) (f:α->DM β):DM β:=λloc mh=>match m loc mh with
 | none=>none
 | some (a,mh')=>f a loc mh'
theorem Ao {α β:Type}{m:DM α}{f:α->DM β}{loc:Loc}{mh:MH}{r:β×MH}(h:m.bnd f loc mh=some r):∃ a m1,m loc mh=some (a,m1)/\f a loc m1=some r:=by
 unfold DM.bnd at h;split at h
 ·cases h
 ·rename_i a m1 e;exact ⟨a,m1,e,h⟩
noncomputable def Zr {α:Type}(a:α):DM α:=λ_ mh=>some (a,mh)
noncomputable def Zl {α:Type}(f:MH->Option (α×MH)):DM α:=λ_ mh=>f mh
noncomputable def Zb {α:Type}:DM α:=λ_ _=>none
noncomputable def Co (K:aj) (H:Hp) (ρ:List Addr) (mh':MH) (d:D) (Q:VK):Prop:=∀ H' ρ' v,Ev K H ρ H' ρ'->RS K H' ρ' mh'->RD K H' ρ' d v->Q v H'
noncomputable def tD (K:aj) (loc:Loc) (mh:MH) (r:Option (D×MH)):TE:=λσ H Q=>∃ ρ d mh',r=some (d,mh')/\RL K H ρ loc σ/\RS K H ρ mh/\Co K H ρ mh' d Q
noncomputable def tDT (K:aj) (loc:Loc) (mh:MH) (r:Option (Bool×MH)):TT:=λσ H Q=>∃ ρ b mh',r=some (b,mh')/\RL K H ρ loc σ/\RS K H ρ mh/\∀ H' ρ',Ev K H ρ H' ρ'->RS K H' ρ' mh'->Q b H'
noncomputable def tDA (K:aj) (loc:Loc) (mh:MH) (r:Option (List D×MH)):TA:=λσ H Q=>∃ ρ ds mh',r=some (ds,mh')/\RL K H ρ loc σ/\RS K H ρ mh/\∀ H' ρ' vs,Ev K H ρ H' ρ'->RS K H' ρ' mh'->RDs K H' ρ' ds vs->Q vs H'
noncomputable def DE (X:Cx) (e:Expr) (m:DM D):Prop:=∀ loc mh,PE X e (tD X.K loc mh (m loc mh))
noncomputable def DT (X:Cx) (e:Expr) (m:DM Bool):Prop:=∀ loc mh,PT X e (tDT X.K loc mh (m loc mh))
noncomputable def DA (X:Cx) (es:List Expr) (m:DM (List D)):Prop:=∀ loc mh,PA X es (tDA X.K loc mh (m loc mh))
theorem Br {X:Cx}{e:Expr}{t t':TE}(h:PE X e t) (i:∀ σ H Q,t' σ H Q->t σ H Q):PE X e t':=λpins s σ H Q I q=>h pins s σ H Q I (i σ H Q q)
theorem Vh {X:Cx}{e:Expr}{t t':TT}(h:PT X e t) (i:∀ σ H Q,t' σ H Q->t σ H Q):PT X e t':=λpins s σ H Q I q=>h pins s σ H Q I (i σ H Q q)
theorem pI {X:Cx}{es:List Expr}{t t':TA}(h:PA X es t) (i:∀ σ H Q,t' σ H Q->t σ H Q):PA X es t':=λpos pins s σ H Q I q=>h pos pins s σ H Q I (i σ H Q q)
theorem Aag {K:aj}{loc:Loc}{mh:MH}{σ:St}{H:Hp}{Q:VK}(h:tD K loc mh none σ H Q):False:=by obtain ⟨_,_,_,e,_⟩:=h;cases e
theorem Cd {X:Cx}{e:Expr}{loc:Loc}{mh:MH}:PE X e (tD X.K loc mh none):=λ_ _ _ _ _ _ h=>(Aag h).elim
theorem dW {X:Cx}{e:Expr}{loc:Loc}{mh:MH}:PT X e (tDT X.K loc mh none):=λ_ _ _ _ _ _ h=>by obtain ⟨_,_,_,e,_⟩:=h;cases e
theorem dX {X:Cx}{es:List Expr}{loc:Loc}{mh:MH}:PA X es (tDA X.K loc mh none):=λ_ _ _ _ _ _ _ h=>by obtain ⟨_,_,_,e,_⟩:=h;cases e
theorem Av {X:Cx}{e:Expr}:DE X e Zb:=λ_ _=>Cd
theorem Eo {X:Cx}{e:Expr}:DT X e Zb:=λ_ _=>dW
theorem pJ {X:Cx}{es:List Expr}:DA X es Zb:=λ_ _=>dX
section
variable {X:Cx}{a b c e:Expr}{ma mb mc:DM D}{pos:Pos}
theorem Aah {d:D}{v:V}(h:PE X e (tC v)) (r:∀ K H ρ,RD K H ρ d v):DE X e (Zr d):=by
 refine λloc mh=>Br h ?_
 rintro σ H Q ⟨ρ,d',mh',q,rl,rs,co⟩;cases q;exact co H ρ v Ev.refl rs (r _ _ _)
theorem Ae5 {i:Nat}{x:Str}(hN:X.N[i]?=some x) (hv:Vis X.env.scope x) (hd:(x==("__debug__":Str))=false) (hcd:(x==("__classdict__":Str))=false) :
  DE X (.Name x pos) (λloc mh=>match loc[i]? with | some (some d)=>some (d,mh) | _=>none):=by
 refine λloc mh=>Br (Zx hN hv hd hcd) ?_
 rintro σ H Q ⟨ρ,d',mh',q,rl,rs,co⟩;dsimp only at q;split at q
 ·rename_i d e;cases q;obtain ⟨v,h1,h2⟩:=rl.2 i d' e;exact ⟨v,h1,co H ρ v Ev.refl rs h2⟩
 ·cases q
noncomputable def rD (K:aj) (f:D->D->MH->Option (D×MH)):R2:=λx y H Q=>∃ ρ mh dx dy d mh',f dx dy mh=some (d,mh')/\RS K H ρ mh/\RD K H ρ dx x/\RD K H ρ dy y/\Co K H ρ mh' d Q
noncomputable def rD1 (K:aj) (f:D->MH->Option (D×MH)):V->Hp->VK->Prop:=λx H Q=>∃ ρ mh dx d mh',f dx mh=some (d,mh')/\RS K H ρ mh/\RD K H ρ dx x/\Co K H ρ mh' d Q
noncomputable def rDs (K:aj) (f:List D->MH->Option (D×MH)):List V->Hp->VK->Prop:=λxs H Q=>∃ ρ mh ds d mh',f ds mh=some (d,mh')/\RS K H ρ mh/\RDs K H ρ ds xs/\Co K H ρ mh' d Q
theorem Co.ev {K:aj}{H H1:Hp}{ρ ρ1:List Addr}{mh':MH}{d:D}{Q:VK}(e:Ev K H ρ H1 ρ1) (c:Co K H ρ mh' d Q):Co K H1 ρ1 mh' d Q:=λH' ρ' v e' rs r=>c H' ρ' v (e.trans e') rs r
noncomputable def dop (f:D->D->MH->Option (D×MH)) (ma mb:DM D):DM D:=ma.bnd λx=>mb.bnd λy=>Zl (f x y)
theorem two {K:aj}{f:D->D->MH->Option (D×MH)}{loc:Loc}{mh:MH}{σ:St}{H:Hp}{Q:VK}(h:tD K loc mh (dop f ma mb loc mh) σ H Q) :
  ∃ x m1,ma loc mh=some (x,m1)/\tOp (rD K f) (tD K loc mh (ma loc mh)) (tD K loc m1 (mb loc m1)) σ H Q:=by
 obtain ⟨ρ,d,mh',q,rl,rs,co⟩:=h;obtain ⟨x,m1,ea,q⟩:=Ao q;obtain ⟨y,m2,eb,q⟩:=Ao q;refine ⟨x,m1,ea,ρ,x,m1,ea,rl,rs,λH1 ρ1 v1 e1 rs1 r1=>⟨ρ1,y,m2,eb,rl.mono e1,rs1,λH2 ρ2 v2 e2 rs2 r2=>?_⟩⟩;exact ⟨ρ2,m2,x,y,d,mh',q,rs2,r1.mono e2,r2,co.ev (e1.trans e2)⟩
theorem aG {f:D->D->MH->Option (D×MH)}(h:∀ ta tb,PE X a ta->PE X b tb->PE X e (tOp (rD X.K f) ta tb)) (ha:DE X a ma) (hb:DE X b mb):DE X e (dop f ma mb):=λloc mh=>by
 cases ea:ma loc mh with
 | none =>
  have:dop f ma mb loc mh=none:=by unfold dop DM.bnd;rw [ea]
  rw [this];exact Cd
 | some p =>
  refine Br (h _ _ (ha loc mh) (hb loc p.2)) λσ H Q q=>?_
  obtain ⟨x,m1,e1,q⟩:=two q;rw [ea] at e1;cases e1;exact q
theorem Aj4 {op:Operator}{f:D->D->MH->Option (D×MH)}(ho:OpR X (binaryOp op) (rD X.K f)) (ha:DE X a ma) (hb:DE X b mb):DE X (.BinOp a op b pos) (dop f ma mb):=aG (λ_ _ p q=>Ajh ho p q) ha hb
theorem Ae6 {op:CmpOp}{f:D->D->MH->Option (D×MH)}(ho:OpR X (compareOp op) (rD X.K f)) (hm:behindInMarks op b=false) (ha:DE X a ma) (hb:DE X b mb):DE X (.Compare a [op] [b] pos) (dop f ma mb):=aG (λ_ _ p q=>zJ ho p q hm) ha hb
theorem Aj5 {f:D->D->MH->Option (D×MH)}(ho:IxR X (rD X.K f)) (hs:U9 b) (ha:DE X a ma) (hb:DE X b mb):DE X (.Subscript a b pos) (dop f ma mb):=aG (λ_ _ p q=>Ajt ho p q hs) ha hb
theorem Aj6 {op:UnaryOp}{f:D->MH->Option (D×MH)}(ho:UnR X (unaryOp op) (rD1 X.K f)) (ha:DE X a ma):DE X (.UnaryOp op a pos) (ma.bnd λx=>Zl (f x)):=λloc mh =>
 Br (Aji ho (ha loc mh)) λσ H Q ⟨ρ,d,mh',q,rl,rs,co⟩=>by
 obtain ⟨x,m1,ea,q⟩:=Ao q
 ·exact ⟨ρ,x,m1,ea,rl,rs,λH1 ρ1 v1 e1 rs1 r1=>⟨ρ1,m1,x,d,mh',q,rs1,r1,co.ev e1⟩⟩
noncomputable def asB:D->Option Bool
 | .bl b=>some b
 | _=>none
noncomputable def Ah (ma:DM D):DM Bool:=ma.bnd λx=>match asB x with | some b=>Zr b | none=>Zb
theorem Aai {f:D->D->MH->Option (D×MH)}(h:∀ ta tb,PE X a ta->PE X b tb->PT X e (oG (tOp (rD X.K f) ta tb))) (ha:DE X a ma) (hb:DE X b mb):DT X e (Ah (dop f ma mb)):=λloc mh=>by
 cases ea:ma loc mh with
 | none =>
  have:Ah (dop f ma mb) loc mh=none:=by unfold Ah dop DM.bnd;rw [ea]
  rw [this];exact dW
 | some p =>
  refine Vh (h _ _ (ha loc mh) (hb loc p.2)) ?_;rintro σ H Q ⟨ρ,k,mh',q,rl,rs,co⟩;unfold Ah at q;cases ed:dop f ma mb loc mh with
  | none=>unfold DM.bnd at q;rw [ed] at q;cases q
  | some z =>
   obtain ⟨d,m2⟩:=z;unfold DM.bnd at q;rw [ed] at q;cases d with
   | bl k' =>
    cases q;have t:tD X.K loc mh (dop f ma mb loc mh) σ H (λx H'=>∃ k,x=.bl k/\Q k H'):=⟨ρ,.bl k,mh',ed,rl,rs,λH' ρ' v e' rs' r'=>by cases r';exact ⟨k,rfl,co H' ρ' e' rs'⟩⟩;obtain ⟨x,m1,e1,q⟩:=two t;rw [ea] at e1;cases e1;exact q
   | non=>cases q
   | int i=>cases q
   | str s=>cases q
   | tup ds=>cases q
   | ref n=>cases q
   | rol ds=>cases q
   | obj c ks ds=>cases q
   | fn x=>cases q
   | lam=>cases q
   | clo=>cases q
theorem Ae7 {op:CmpOp}{f:D->D->MH->Option (D×MH)}(ho:OpR X (compareOp op) (rD X.K f)) (hm:behindInMarks op b=false) (ha:DE X a ma) (hb:DE X b mb):DT X (.Compare a [op] [b] pos) (Ah (dop f ma mb)):=Aai (λ_ _ p q=>zK ho p q hm) ha hb
noncomputable def Je (t u:DM Bool):DM Bool:=t.bnd λc=>if c=true then u else Zr false
noncomputable def O5 (t u:DM Bool):DM Bool:=t.bnd λc=>if c=true then Zr true else u
noncomputable def Hq (t:DM Bool):DM Bool:=t.bnd λc=>Zr (!c)
noncomputable def DW (X:Cx) (e:Expr) (m:DM Bool):Prop:=∀ loc mh,PW X e (tDT X.K loc mh (m loc mh))
theorem dY {loc:Loc}{mh:MH}:PW X e (tDT X.K loc mh none):=λ_ _ _ _ _ _ _ h=>by obtain ⟨_,_,_,e,_⟩:=h;cases e
theorem pK {t t':TT}(h:PW X e t) (i:∀ σ H Q,t' σ H Q->t σ H Q):PW X e t':=λwh pins s σ H Q I q=>h wh pins s σ H Q I (i σ H Q q)
theorem DW.dt {m:DM Bool}(h:DW X e m):DT X e m:=λloc mh=>(h loc mh).pt
variable {t u:DM Bool}{rest:List Expr}
theorem Aaj (ha:DT X a t):DW X (.BoolOp .And [a] pos) t:=λloc mh=>yV (ha loc mh)
theorem Ae8 (ha:DT X a t):DW X (.BoolOp .Or [a] pos) t:=λloc mh=>Ad0 (ha loc mh)
theorem Ae9 (ha:DT X a t) (hb:DW X (.BoolOp .And (b::rest) pos) u):DW X (.BoolOp .And (a::b::rest) pos) (Je t u):=λloc mh=>by
 cases ea:t loc mh with
 | none =>
  have:Je t u loc mh=none:=by unfold Je DM.bnd;rw [ea]
  rw [this];exact dY
 | some p =>
  obtain ⟨k,m1⟩:=p;refine pK (Ad1 (ha loc mh) (hb loc m1)) ?_;rintro σ H Q ⟨ρ,k',mh',q,rl,rs,co⟩;have q':(if k=true then u else Zr false) loc m1=some (k',mh'):=by unfold Je DM.bnd at q;rw [ea] at q;exact q
  refine ⟨ρ,k,m1,ea,rl,rs,λH1 ρ1 e1 rs1=>?_⟩;cases k with
  | true=>exact W3 ⟨ρ1,k',mh',q',rl.mono e1,rs1,λH2 ρ2 e2 rs2=>co H2 ρ2 (e1.trans e2) rs2⟩
  | false=>cases q';exact W2 (co H1 ρ1 e1 rs1)
theorem Aj7 (ha:DT X a t) (hb:DW X (.BoolOp .Or (b::rest) pos) u):DW X (.BoolOp .Or (a::b::rest) pos) (O5 t u):=λloc mh=>by
 cases ea:t loc mh with
 | none =>
  have:O5 t u loc mh=none:=by unfold O5 DM.bnd;rw [ea]
  rw [this];exact dY
 | some p =>
  obtain ⟨k,m1⟩:=p;refine pK (Ai5 (ha loc mh) (hb loc m1)) ?_;rintro σ H Q ⟨ρ,k',mh',q,rl,rs,co⟩;have q':(if k=true then Zr true else u) loc m1=some (k',mh'):=by unfold O5 DM.bnd at q;rw [ea] at q;exact q
  refine ⟨ρ,k,m1,ea,rl,rs,λH1 ρ1 e1 rs1=>?_⟩;cases k with
  | true=>cases q';exact W3 (co H1 ρ1 e1 rs1)
  | false=>exact W2 ⟨ρ1,k',mh',q',rl.mono e1,rs1,λH2 ρ2 e2 rs2=>co H2 ρ2 (e1.trans e2) rs2⟩
theorem Afa (ha:DT X a t):DT X (.UnaryOp .Not a pos) (Hq t):=λloc mh=>by
 refine Vh (Ad2 (ha loc mh)) ?_;rintro σ H Q ⟨ρ,k',mh',q,rl,rs,co⟩;obtain ⟨k,m1,ea,q⟩:=Ao q
 ·cases q;exact ⟨ρ,k,mh',ea,rl,rs,λH1 ρ1 e1 rs1=>co H1 ρ1 e1 rs1⟩
noncomputable def dIf (t:DM Bool) (ma mb:DM D):DM D:=t.bnd λc=>if c=true then ma else mb
theorem Aj8 (hc:DT X c t) (ha:DE X a ma) (hb:DE X b mb):DE X (.IfExp c a b pos) (dIf t ma mb):=λloc mh=>by
 cases ea:t loc mh with
 | none =>
  have:dIf t ma mb loc mh=none:=by unfold dIf DM.bnd;rw [ea]
  rw [this];exact Cd
 | some p =>
  obtain ⟨k,m1⟩:=p;refine Br (nU (hc loc mh) (ha loc m1) (hb loc m1)) ?_;rintro σ H Q ⟨ρ,d,mh',q,rl,rs,co⟩;have q':(if k=true then ma else mb) loc m1=some (d,mh'):=by unfold dIf DM.bnd at q;rw [ea] at q;exact q
  refine ⟨ρ,k,m1,ea,rl,rs,λH1 ρ1 e1 rs1=>?_⟩;cases k with
  | true=>exact W3 ⟨ρ1,d,mh',q',rl.mono e1,rs1,co.ev e1⟩
  | false=>exact W2 ⟨ρ1,d,mh',q',rl.mono e1,rs1,co.ev e1⟩
noncomputable def Ec (ma mb:DM D):DM D:=(Ah ma).bnd λc=>if c=true then mb else Zr (.bl false)
noncomputable def pL (ma mb:DM D):DM D:=(Ah ma).bnd λc=>if c=true then Zr (.bl true) else mb
theorem Gg {loc:Loc}{mh:MH}{k:Bool}{m1:MH}(h:Ah ma loc mh=some (k,m1)):ma loc mh=some (.bl k,m1):=by
 obtain ⟨x,m2,ea,h⟩:=Ao h
 ·cases x with
  | bl b=>cases h;exact ea
  | non=>cases h
  | int i=>cases h
  | str s=>cases h
  | tup ds=>cases h
  | ref n=>cases h
  | rol ds=>cases h
  | obj c ks ds=>cases h
  | fn x=>cases h
  | lam=>cases h
  | clo=>cases h
theorem Afb {op}(ha:DE X a ma):DE X (.BoolOp op [a] pos) ma:=λloc mh=>Ad3 (ha loc mh)
theorem Afc (ha:DE X a ma) (hb:DE X (.BoolOp .And (b::rest) pos) mb):DE X (.BoolOp .And (a::b::rest) pos) (Ec ma mb):=λloc mh=>by
 cases ea:Ah ma loc mh with
 | none =>
  have:Ec ma mb loc mh=none:=by unfold Ec DM.bnd;rw [ea]
  rw [this];exact Cd
 | some p =>
  obtain ⟨k,m1⟩:=p;refine Br (Ad4 (ha loc mh) (hb loc m1)) ?_;rintro σ H Q ⟨ρ,d,mh',q,rl,rs,co⟩;have q':(if k=true then mb else Zr (.bl false)) loc m1=some (d,mh'):=by unfold Ec DM.bnd at q;rw [ea] at q;exact q
  refine ⟨ρ,.bl k,m1,Gg ea,rl,rs,λH1 ρ1 v e1 rs1 r1=>?_⟩;cases r1;refine ⟨k,rfl,?_⟩;cases k with
  | true=>exact W3 ⟨ρ1,d,mh',q',rl.mono e1,rs1,co.ev e1⟩
  | false=>cases q';exact W2 (co H1 ρ1 _ e1 rs1 (.bl false))
theorem Aj9 (ha:DE X a ma) (hb:DE X (.BoolOp .Or (b::rest) pos) mb):DE X (.BoolOp .Or (a::b::rest) pos) (pL ma mb):=λloc mh=>by
 cases ea:Ah ma loc mh with
 | none =>
  have:pL ma mb loc mh=none:=by unfold pL DM.bnd;rw [ea]
  rw [this];exact Cd
 | some p =>
  obtain ⟨k,m1⟩:=p;refine Br (Ai8 (ha loc mh) (hb loc m1)) ?_;rintro σ H Q ⟨ρ,d,mh',q,rl,rs,co⟩;have q':(if k=true then Zr (.bl true) else mb) loc m1=some (d,mh'):=by unfold pL DM.bnd at q;rw [ea] at q;exact q
  refine ⟨ρ,.bl k,m1,Gg ea,rl,rs,λH1 ρ1 v e1 rs1 r1=>?_⟩;cases r1;refine ⟨k,rfl,?_⟩;cases k with
  | true=>cases q';exact W3 (co H1 ρ1 _ e1 rs1 (.bl true))
  | false=>exact W2 ⟨ρ1,d,mh',q',rl.mono e1,rs1,co.ev e1⟩
theorem Afd (ha:DE X a ma):DE X (.UnaryOp .Not a pos) ((Ah ma).bnd λc=>Zr (.bl (!c))):=λloc mh=>by
 refine Br (Ad5 (ha loc mh)) ?_;rintro σ H Q ⟨ρ,d,mh',q,rl,rs,co⟩;cases ea:Ah ma loc mh with
 | none=>unfold DM.bnd at q;rw [ea] at q;cases q
 | some p =>
  obtain ⟨k,m1⟩:=p;unfold DM.bnd at q;rw [ea] at q;cases q;refine ⟨ρ,.bl k,mh',Gg ea,rl,rs,λH1 ρ1 v e1 rs1 r1=>?_⟩;cases r1;exact ⟨k,rfl,co H1 ρ1 _ e1 rs1 (.bl _)⟩
noncomputable def pM:D->MH->Option Bool
 | .non,_=>some false
 | .bl b,_=>some b
 | .int i,_=>some (i != 0)
 | .str y,_=>if y.length<=sizeLine then some ((y.length:Int) != 0) else none
 | .tup ds,_=>some (!ds.isEmpty)
 | .ref n,mh=>match mh[n]? with | some (.lst o)=>some (!o.isEmpty) | _=>none
 | .rol ds,_=>some (!ds.isEmpty)
 | .obj ..,_=>none
 | .fn _,_=>none
 | .lam,_=>none
 | .clo _ _,_=>none
theorem Jo {K:aj}{H:Hp}{ρ:List Addr}{ds:List D}{xs:List V}(r:RDs K H ρ ds xs):ds.isEmpty=xs.isEmpty:=by cases r <;> rfl
theorem Aak {K:aj}{H:Hp}{ρ:List Addr}{mh:MH}{d:D}{v:V}{k:Bool}(rs:RS K H ρ mh) (r:RD K H ρ d v) (e:pM d mh=some k):Aep K v H k:=by
 cases r with
 | non=>cases e;rfl
 | bl b=>cases e;rfl
 | int i=>cases e;rfl
 | str x =>
  have e:(if x.length<=sizeLine then some ((x.length:Int) != 0) else none)=some k:=e;split at e
  ·rename_i hz;cases e;exact ⟨hz,rfl⟩
  ·cases e
 | tup s r=>cases e;exact .inr (.inl ⟨_,s,by rw [Jo r]⟩)
 | rol s r=>cases e;exact .inl ⟨_,s.sq,by rw [Jo r]⟩
 | obj n s l r=>cases e
 | fn h=>cases e
 | lam h=>cases e
 | clo=>cases e
 | @ref n a h =>
  have e:(match mh[n]? with | some (.lst o)=>some (!o.isEmpty) | _=>none)=some k:=e;split at e
  ·rename_i o eo;cases e;obtain ⟨a',ha,ro⟩:=rs.at eo;rw [h] at ha;cases ha;obtain ⟨xs,q,r⟩:=ro.read;exact .inl ⟨xs,q,by rw [Jo r]⟩
  ·cases e
noncomputable def G6 (ma:DM D):DM Bool:=ma.bnd λx=>λ_ mh=>match pM x mh with | some k=>some (k,mh) | none=>none
theorem W9 (ha:DE X a ma) (he:∀ whole,isTrue a X.env whole=(do let v ← whole;standAt a.pos;holding [v] (truthy v))):DT X a (G6 ma):=λloc mh=>by
 refine Vh (oK (ha loc mh) he) ?_;rintro σ H Q ⟨ρ,k,mh',q,rl,rs,co⟩;obtain ⟨x,m1,ea,q⟩:=Ao q
 ·split at q
  ·rename_i k' ek;cases q;exact ⟨ρ,x,mh',ea,rl,rs,λH1 ρ1 v e1 rs1 r1=>⟨k,Aak rs1 r1 ek,co H1 ρ1 e1 rs1⟩⟩
  ·cases q
noncomputable def Aa (ma:DM D) (mr:DM (List D)):DM (List D):=ma.bnd λx=>mr.bnd λxs=>Zr (x::xs)
theorem Afe:DA X [] (Zr []):=by
 refine λloc mh=>pI G4 ?_
 rintro σ H Q ⟨ρ,ds,mh',q,rl,rs,co⟩;cases q;exact co H ρ [] Ev.refl rs .nil
theorem Aal {es:List Expr}{mr:DM (List D)}(ha:DE X a ma) (hr:DA X es mr) (hs:starEach (a::es) X.env=(false,eval a X.env)::starEach es X.env):DA X (a::es) (Aa ma mr):=λloc mh=>by
 cases ea:ma loc mh with
 | none =>
  have:Aa ma mr loc mh=none:=by unfold Aa DM.bnd;rw [ea]
  rw [this];exact dX
 | some p =>
  obtain ⟨x,m1⟩:=p;refine pI (Ea (ha loc mh) (hr loc m1) hs) ?_;rintro σ H Q ⟨ρ,ds,mh',q,rl,rs,co⟩;obtain ⟨x2,m2,ea2,q⟩:=Ao q;rw [ea] at ea2;cases ea2;obtain ⟨xs,m2,er,q'⟩:=Ao q
  ·cases q';exact ⟨ρ,x,m1,ea,rl,rs,λH1 ρ1 v e1 rs1 r1=>⟨ρ1,xs,mh',er,rl.mono e1,rs1,λH2 ρ2 vs e2 rs2 r2=>co H2 ρ2 _ (e1.trans e2) rs2 (.cons (r1.mono e2) r2)⟩⟩
noncomputable def T4 (ds:List D) (mh:MH):Option (D×MH):=if ds.length<=sizeLine then some (.tup ds,mh) else none
noncomputable def T5 (ds:List D) (mh:MH):Option (D×MH):=if ds.length<=sizeLine then some (.ref mh.length,mh++[.lst ds]) else none
theorem RS.last {K:aj}{H:Hp}{ρ:List Addr}{mh:MH}(h:RS K H ρ mh) (p:Addr):(ρ++[p])[mh.length]?=some p:=by rw [← h.len];simp
theorem Co.newT {K:aj}{H:Hp}{ρ:List Addr}{mh:MH}{ds:List D}{vs:List V}{Q:VK}(rs:RS K H ρ mh) (r:RDs K H ρ ds vs) (co:Co K H ρ mh (.tup ds) Q):∀ p,H p=none->Q (.ref p) (upd H p (.tup vs)):=λp hp =>
 co _ ρ _ (Ev.new hp) (rs.new hp) (.tup (.inl (.inl Bw)) (r.mono (Ev.new hp)))
theorem Co.newL {K:aj}{H:Hp}{ρ:List Addr}{mh:MH}{ds:List D}{vs:List V}{Q:VK}(rs:RS K H ρ mh) (r:RDs K H ρ ds vs) (co:Co K H ρ (mh++[.lst ds]) (.ref mh.length) Q):∀ p,H p=none->Q (.ref p) (upd H p (.lst vs)):=λp hp =>
 co _ (ρ++[p]) _ (Ev.newL hp) (rs.newL hp r) (.ref (rs.last p))
theorem Afg {es:List Expr}{mr:DM (List D)}{x1}(h:DA X es mr):DE X (.Tuple es x1 pos) (mr.bnd λds=>Zl (T4 ds)):=λloc mh=>by
 refine Br (Aeu (h loc mh)) ?_;rintro σ H Q ⟨ρ,d,mh',q,rl,rs,co⟩;obtain ⟨ds,m1,ea,q⟩:=Ao q
 ·unfold Zl T4 at q;split at q
  ·rename_i hz;cases q;exact ⟨ρ,ds,mh',ea,rl,rs,λH1 ρ1 vs e1 rs1 r1=>⟨by rw [← r1.length];exact hz,Co.newT rs1 r1 (co.ev e1)⟩⟩
  ·cases q
theorem Afh {es:List Expr}{mr:DM (List D)}(h:DA X es mr):DE X (.List es pos) (mr.bnd λds=>Zl (T5 ds)):=λloc mh=>by
 refine Br (Aev (h loc mh)) ?_;rintro σ H Q ⟨ρ,d,mh',q,rl,rs,co⟩;obtain ⟨ds,m1,ea,q⟩:=Ao q
 ·unfold Zl T5 at q;split at q
  ·rename_i hz;cases q;exact ⟨ρ,ds,m1,ea,rl,rs,λH1 ρ1 vs e1 rs1 r1=>⟨by rw [← r1.length];exact hz,Co.newL rs1 r1 (co.ev e1)⟩⟩
  ·cases q
theorem Gh {f:List D->MH->Option (D×MH)}{es:List Expr}{mr:DM (List D)}{x:Str}{p:Pos}{id:String}(hc:Bt X (.builtin id) (rDs X.K f)) (hg:Gl X x) (hm:X.mg x=none) (hv:bootBuiltins x=some (.builtin id)) (ha:DA X (a::es) mr)
  (hn:x ≠ "__name__") (hdb:(x==("__debug__":Str))=false) (he:starEach (a::es) X.env=(false,eval a X.env)::starEach es X.env) (hpl:(backTo pos (starEach es X.env)).any (·.1)=false) :
  DE X (.Call (.Name x p) (a::es) [] pos) (mr.bnd λds=>Zl (f ds)):=λloc mh=>by
 refine Br (Qn hc hg hm hv (ha loc mh) hn hdb he hpl) ?_;rintro σ H Q ⟨ρ,d,mh',q,rl,rs,co⟩;obtain ⟨ds,m1,ea,q⟩:=Ao q
 ·exact ⟨ρ,ds,m1,ea,rl,rs,λH1 ρ1 vs e1 rs1 r1=>⟨ρ1,m1,ds,d,mh',q,rs1,r1,co.ev e1⟩⟩
theorem Nh {f:List D->MH->Option (D×MH)}{es:List Expr}{mr:DM (List D)}{x:Str}{p:Pos}{T:String}(hc:Bt X (.type T) (rDs X.K f)) (hg:Gl X x) (hm:X.mg x=none) (hv:bootBuiltins x=some (.type T)) (ha:DA X (a::es) mr)
  (hn:x ≠ "__name__") (hdb:(x==("__debug__":Str))=false) (he:starEach (a::es) X.env=(false,eval a X.env)::starEach es X.env) (hpl:(backTo pos (starEach es X.env)).any (·.1)=false) :
  DE X (.Call (.Name x p) (a::es) [] pos) (mr.bnd λds=>Zl (f ds)):=λloc mh=>by
 refine Br (Fx hc hg hm hv (ha loc mh) hn hdb he hpl) ?_;rintro σ H Q ⟨ρ,d,mh',q,rl,rs,co⟩;obtain ⟨ds,m1,ea,q⟩:=Ao q
 ·exact ⟨ρ,ds,m1,ea,rl,rs,λH1 ρ1 vs e1 rs1 r1=>⟨ρ1,m1,ds,d,mh',q,rs1,r1,co.ev e1⟩⟩
end
section
variable {X:Cx}
theorem Ph {f:Value->Value->Sem Value}{r r':R2}(h:OpR X f r) (i:∀ x y H Q,r' x y H Q->r x y H Q):OpR X f r':=λpins s σ H x y v u Q I rx ry q=>h pins s σ H x y v u Q I rx ry (i x y H Q q)
noncomputable def iop (C:Int->Int->Bool) (g:Int->Int->Int):D->D->MH->Option (D×MH)
 | .int i,.int j,mh=>if C i j=true then some (.int (g i j),mh) else none
 | _,_,_=>none
theorem Ni {f:Value->Value->Sem Value}{C:Int->Int->Prop}{Cb:Int->Int->Bool}{g:Int->Int->Int}(h:OpR X f (rI C λi j=>.int (g i j))) (hC:∀ i j,Cb i j=true->C i j):OpR X f (rD X.K (iop Cb g)):=by
 refine Ph h ?_;rintro x y H Q ⟨ρ,mh,dx,dy,d,mh',q,rs,rx,ry,co⟩;cases rx with
 | int i =>
  cases ry with
  | int j =>
   have q:(if Cb i j=true then some (D.int (g i j),mh) else none)=some (d,mh'):=q;split at q
   ·rename_i hc;cases q;exact ⟨i,j,rfl,rfl,hC i j hc,co H ρ _ Ev.refl rs (.int _)⟩
   ·cases q
  | _=>cases q
 | _=>cases q
theorem Vi {f:Value->Value->Sem Value}{g:Int->Int->Int}(h:OpR X f (rI0 λi j=>.int (g i j))):OpR X f (rD X.K (iop (λ_ _=>true) g)) :=
 Ni (C:=λ_ _=>True) (Ph h λx y H Q ⟨i,j,e1,e2,_,q⟩=>⟨i,j,e1,e2,q⟩) λ_ _ _=>trivial
noncomputable def S5 (g:Int->Int->Bool):D->D->MH->Option (D×MH)
 | .int i,.int j,mh=>some (.bl (g i j),mh)
 | _,_,_=>none
theorem Pj {f:Value->Value->Sem Value}{g:Int->Int->Bool}(h:OpR X f (rI0 λi j=>.bl (g i j))):OpR X f (rD X.K (S5 g)):=by
 refine Ph h ?_;rintro x y H Q ⟨ρ,mh,dx,dy,d,mh',q,rs,rx,ry,co⟩;cases rx with
 | int i =>
  cases ry with
  | int j =>
   cases q;exact ⟨i,j,rfl,rfl,co H ρ _ Ev.refl rs (.bl _)⟩
  | _=>cases q
 | _=>cases q
noncomputable def Cp:D->D->MH->Option (D×MH)
 | .int i,.int j,mh=>some (.int (i+j),mh)
 | .str i,.str j,mh=>if i.length+j.length<=sizeLine then some (.str (i++j),mh) else none
 | .tup xs,.tup ys,mh=>if xs.length+ys.length<=sizeLine then some (.tup (xs++ys),mh) else none
 | .ref n,.ref m,mh=>match mh[n]?,mh[m]? with
  | some (.lst xs),some (.lst ys)=>if xs.length+ys.length<=sizeLine then some (.ref mh.length,mh++[.lst (xs++ys)]) else none
  | _,_=>none
 | _,_,_=>none
end
noncomputable def Bx {α β:Type}(f:α->Option β):List α->Option (List β)
 | []=>some []
 | x::xs=>match f x with
  | some y=>match Bx f xs with
   | some ys=>some (y::ys)
   | none=>none
  | none=>none
noncomputable def py (mh:MH):Nat->D->Option PyData
 | _,.non=>some .none
 | _,.bl b=>some (.bool b)
 | _,.int i=>some (.int i)
 | _,.str x=>if jq x=true then some (.str x) else none
 | 0,.tup _=>none
 | 0,.ref _=>none
 | 0,.rol _=>none
 | 0,.obj ..=>none
 | _+1,.obj ..=>none
 | 0,.fn _=>none
 | 0,.lam=>none
 | 0,.clo _ _=>none
 | _+1,.fn _=>none
 | _+1,.lam=>none
 | _+1,.clo _ _=>none
 | n+1,.tup ds=>match Bx (py mh n) ds with | some xs=>some (.tuple xs) | none=>none
 | n+1,.rol ds=>match Bx (py mh n) ds with | some xs=>some (.list xs) | none=>none
 | n+1,.ref k=>match mh[k]? with
  | some (.lst o)=>match Bx (py mh n) o with | some xs=>some (.list xs) | none=>none
  | _=>none
section
variable {X:Cx}{pins:List (Addr×Obj)}{σ:St}{H:Hp}{s:Shared}{ρ:List Addr}{mh:MH}
theorem Cv (I:Inv X pins σ H s) (rs:RS X.K H ρ mh):∀ (n:Nat) (d:D) (v:V) (u:Value) (a:PyData),py mh n d=some a->RD X.K H ρ d v->RelV v u->(∃ as,Reads s.heap u a as)/\a.canLay0=true/\a.depth<=n:=by
 intro n
 induction n with
 | zero =>
  intro d v u a e r rv;cases r with
  | non=>cases e;cases rv;exact ⟨⟨_,.none⟩,rfl,bh _⟩
  | bl b=>cases e;cases rv;exact ⟨⟨_,.bool b⟩,rfl,bh _⟩
  | int i=>cases e;obtain ⟨t,rfl⟩:=rv;exact ⟨⟨_,.int i t⟩,rfl,bh _⟩
  | str x =>
   have e:(if jq x=true then some (HF x) else none)=some a:=e;split at e
   ·cases e;obtain ⟨t,rfl⟩:=rv;exact ⟨⟨_,.str x t⟩,by assumption,bh _⟩
   ·cases e
  | tup s r=>cases e
  | ref h=>cases e
  | rol s r=>cases e
  | obj n s l r=>cases e
  | fn h=>cases e
  | lam h=>cases e
  | clo=>cases e
 | succ n ih =>
  have all:∀ (ds:List D) (vs:List V) (us:List Value) (as:List PyData),Bx (py mh n) ds=some as->RDs X.K H ρ ds vs->Vals vs us->(∃ bs,ReadsAll s.heap us as bs)/\wk as=true/\uw as<=n:=by
   intro ds
   induction ds with
   | nil=>intro vs us as e r rv;cases e;cases r;cases rv;exact ⟨⟨_,.nil⟩,rfl,jy _⟩
   | cons d ds ihd =>
    intro vs us as e r rv;cases r with
    | cons r1 r2 =>
     cases rv with
     | cons v1 v2 =>
      simp only [Bx] at e;split at e
      ·rename_i y ey;split at e
       ·rename_i ys eys;cases e;obtain ⟨⟨a1,h1⟩,h2,h3⟩:=ih _ _ _ _ ey r1 v1;obtain ⟨⟨b1,g1⟩,g2,g3⟩:=ihd _ _ _ eys r2 v2;refine ⟨⟨_,.cons h1 g1⟩,?_,?_⟩
        ·simp only [wk,h2,g2,JS]
        ·simp only [uw];omega
       ·cases e
      ·cases e
  intro d v u a e r rv;cases r with
  | non=>cases e;cases rv;exact ⟨⟨_,.none⟩,rfl,jy _⟩
  | bl b=>cases e;cases rv;exact ⟨⟨_,.bool b⟩,rfl,jy _⟩
  | int i=>cases e;obtain ⟨t,rfl⟩:=rv;exact ⟨⟨_,.int i t⟩,rfl,jy _⟩
  | str x =>
   have e:(if jq x=true then some (HF x) else none)=some a:=e;split at e
   ·cases e;obtain ⟨t,rfl⟩:=rv;exact ⟨⟨_,.str x t⟩,by assumption,jy _⟩
   ·cases e
  | @tup ds a' xs sq r =>
   cases rv;have e:(match Bx (py mh n) ds with | some xs=>some (PyData.tuple xs) | none=>none)=some a:=e;split at e
   ·rename_i ys ey;cases e;obtain ⟨its,rv,⟨o,h1,h2,n',h3⟩,_⟩:=I.tuple sq;obtain ⟨⟨bs,g1⟩,g2,g3⟩:=all ds xs its ys ey r rv;refine ⟨⟨_,.tuple h1 h2 h3 (by simpa using g1)⟩,by simpa [vq] using g2,?_⟩;simp only [PyData.depth];omega
   ·cases e
  | obj n s l r=>cases e
  | fn h=>cases e
  | lam h=>cases e
  | clo=>cases e
  | @rol ds a' xs sq r =>
   cases rv;have e:(match Bx (py mh n) ds with | some xs=>some (PyData.list xs) | none=>none)=some a:=e;split at e
   ·rename_i ys ey;cases e;obtain ⟨its,rv,⟨ob,n',h1,h2,h2',h3⟩,_⟩:=I.list sq.sq;obtain ⟨⟨bs,g1⟩,g2,g3⟩:=all _ xs its ys ey r rv;refine ⟨⟨_,.list h1 h2 h3 (by simpa using g1)⟩,by simpa [vq] using g2,?_⟩;simp only [PyData.depth];omega
   ·cases e
  | @ref k a' h =>
   cases rv;have e:(match mh[k]? with | some (.lst o)=>(match Bx (py mh n) o with | some xs=>some (PyData.list xs) | none=>none) | _=>none)=some a:=e;split at e
   ·rename_i o eo;split at e
    ·rename_i ys ey;cases e;obtain ⟨a2,ha,ro⟩:=rs.at eo;rw [h] at ha;cases ha;obtain ⟨xs,sq,r⟩:=ro.read;obtain ⟨its,rv,⟨ob,n',h1,h2,h2',h3⟩,_⟩:=I.list sq;obtain ⟨⟨bs,g1⟩,g2,g3⟩:=all _ xs its ys ey r rv;refine ⟨⟨_,.list h1 h2 h3 (by simpa using g1)⟩,by simpa [vq] using g2,?_⟩;simp only [PyData.depth];omega
    ·cases e
   ·cases e
noncomputable def eqB (mh:MH) (x y:D):Option Bool:=match py mh 60 x,py mh 60 y with
 | some a,some b=>some (lz a b)
 | _,_=>none
noncomputable def eqD (x y:D) (mh:MH):Option (D×MH):=match eqB mh x y with | some k=>some (.bl k,mh) | none=>none
noncomputable def neD (x y:D) (mh:MH):Option (D×MH):=match eqB mh x y with | some k=>some (.bl (!k),mh) | none=>none
theorem pN {A:Around}{a b:PyData}(hu:A.units+64 < cLine) (h:a.depth<=60):A.units+min a.depth b.depth < cLine:=by omega
theorem Xa {x y:D}{k:Bool}(h:eqB mh x y=some k):∃ a b,py mh 60 x=some a/\py mh 60 y=some b/\k=lz a b:=by
 unfold eqB at h;split at h
 ·rename_i a b ea eb;cases h;exact ⟨a,b,ea,eb,rfl⟩
 ·cases h
theorem Afi (hu:X.A.units+64 < cLine):OpR X (compareOp .Eq) (rD X.K eqD):=by
 rintro pins s σ H x y v u Q I rx ry ⟨ρ,mh,dx,dy,d,mh',q,rs,r1,r2,co⟩;unfold eqD at q;split at q
 ·rename_i k ek;cases q;obtain ⟨a,b,ea,eb,rfl⟩:=Xa ek;obtain ⟨⟨as,h1⟩,h2,h3⟩:=Cv I rs 60 dx x v a ea r1 rx;obtain ⟨⟨bs,g1⟩,g2,g3⟩:=Cv I rs 60 dy y u b eb r2 ry;exact SeqAt.compareEq_reads h1 g1 h2 g2 (pN hu h3) ⟨.bl _,H,I,rfl,co H ρ _ Ev.refl rs (.bl _)⟩
 ·cases q
theorem Afj (hu:X.A.units+64 < cLine):OpR X (compareOp .NotEq) (rD X.K neD):=by
 rintro pins s σ H x y v u Q I rx ry ⟨ρ,mh,dx,dy,d,mh',q,rs,r1,r2,co⟩;unfold neD at q;split at q
 ·rename_i k ek;cases q;obtain ⟨a,b,ea,eb,rfl⟩:=Xa ek;obtain ⟨⟨as,h1⟩,h2,h3⟩:=Cv I rs 60 dx x v a ea r1 rx;obtain ⟨⟨bs,g1⟩,g2,g3⟩:=Cv I rs 60 dy y u b eb r2 ry;exact SeqAt.compareNe_reads h1 g1 h2 g2 (pN hu h3) ⟨.bl _,H,I,rfl,co H ρ _ Ev.refl rs (.bl _)⟩
 ·cases q
noncomputable def inB (mh:MH) (x c:D):Option Bool:=match py mh 60 x,py mh 60 c with
 | some a,some (.list xs)=>some (xs.any λy=>lz y a)
 | some a,some (.tuple xs)=>some (xs.any λy=>lz y a)
 | _,_=>none
noncomputable def aH (neg:Bool) (x c:D) (mh:MH):Option (D×MH):=match inB mh x c with | some k=>some (.bl (if neg then !k else k),mh) | none=>none
theorem Aam (hu:X.A.units+64 < cLine):OpR X (compareOp .In) (rD X.K (aH false)):=by
 rintro pins s σ H x y v u Q I rx ry ⟨ρ,mh,dx,dy,d,mh',q,rs,r1,r2,co⟩;unfold aH at q;split at q
 ·rename_i k ek;cases q;unfold inB at ek;split at ek
  ·rename_i a xs ea eb;cases ek;obtain ⟨⟨as,h1⟩,h2,h3⟩:=Cv I rs 60 dx x v a ea r1 rx;obtain ⟨⟨bs,g1⟩,g2,g3⟩:=Cv I rs 60 dy y u _ eb r2 ry;exact SeqAt.in_list_reads g1 h1 (by simpa [vq] using g2) h2 (by simp only [PyData.depth] at g3;omega) ⟨.bl _,H,I,rfl,co H ρ _ Ev.refl rs (.bl _)⟩
  ·rename_i a xs ea eb;cases ek;obtain ⟨⟨as,h1⟩,h2,h3⟩:=Cv I rs 60 dx x v a ea r1 rx;obtain ⟨⟨bs,g1⟩,g2,g3⟩:=Cv I rs 60 dy y u _ eb r2 ry;exact SeqAt.in_tuple_reads g1 h1 (by simpa [vq] using g2) h2 (by simp only [PyData.depth] at g3;omega) ⟨.bl _,H,I,rfl,co H ρ _ Ev.refl rs (.bl _)⟩
  ·cases ek
 ·cases q
theorem aJ (hu:X.A.units+64 < cLine):OpR X (compareOp .NotIn) (rD X.K (aH true)):=by
 rintro pins s σ H x y v u Q I rx ry ⟨ρ,mh,dx,dy,d,mh',q,rs,r1,r2,co⟩;unfold aH at q;split at q
 ·rename_i k ek;cases q;unfold inB at ek;split at ek
  ·rename_i a xs ea eb;cases ek;obtain ⟨⟨as,h1⟩,h2,h3⟩:=Cv I rs 60 dx x v a ea r1 rx;obtain ⟨⟨bs,g1⟩,g2,g3⟩:=Cv I rs 60 dy y u _ eb r2 ry;exact SeqAt.notIn_list_reads g1 h1 (by simpa [vq] using g2) h2 (by simp only [PyData.depth] at g3;omega) ⟨.bl _,H,I,rfl,co H ρ _ Ev.refl rs (.bl _)⟩
  ·rename_i a xs ea eb;cases ek;obtain ⟨⟨as,h1⟩,h2,h3⟩:=Cv I rs 60 dx x v a ea r1 rx;obtain ⟨⟨bs,g1⟩,g2,g3⟩:=Cv I rs 60 dy y u _ eb r2 ry;exact SeqAt.notIn_tuple_reads g1 h1 (by simpa [vq] using g2) h2 (by simp only [PyData.depth] at g3;omega) ⟨.bl _,H,I,rfl,co H ρ _ Ev.refl rs (.bl _)⟩
  ·cases ek
 ·cases q
end
section
variable {X:Cx}
noncomputable def isD (neg:Bool) (x y:D) (mh:MH):Option (D×MH):=match y with
 | .non=>some (.bl (if neg then !(match x with | .non=>true | _=>false) else match x with | .non=>true | _=>false),mh)
 | .bl b=>(match x with
  | .bl a=>some (.bl (if neg then a != b else a==b),mh)
  | .non=>some (.bl neg,mh)
  | _=>none)
 | _=>none
theorem Afk:OpR X (compareOp .Is) (rD X.K (isD false)):=by
 rintro pins s σ H x y v u Q I rx ry ⟨ρ,mh,dx,dy,d,mh',q,rs,r1,r2,co⟩;cases r2 with
 | non =>
  cases q;cases ry;refine is_none_gen ⟨.bl _,H,I,?_,co H ρ _ Ev.refl rs (.bl _)⟩;rw [rx.none_iff];cases r1 <;> rfl
 | bl b =>
  cases r1 with
  | bl a=>cases q;cases rx;cases ry;exact is_bool ⟨.bl _,H,I,rfl,co H ρ _ Ev.refl rs (.bl _)⟩
  | non=>cases q;cases rx;cases ry;exact cu (a:=Value.bool false) ⟨.bl _,H,I,rfl,co H ρ _ Ev.refl rs (.bl _)⟩
  | _=>cases q
 | _=>cases q
theorem pO:OpR X (binaryOp .Add) (λx y H Q=>∃ a b ys,x=.ref a/\y=.ref b/\SqT X.K H a []/\SqT X.K H b ys/\Q (.ref b) H):=by
 rintro pins s σ H x y v u Q I rx ry ⟨a,b,ys,e1,e2,ha,hb,q⟩;subst e1;subst e2;cases rx;cases ry;obtain ⟨its,r1,p1,_⟩:=I.tuple ha;obtain ⟨its2,r2,p2,_⟩:=I.tuple hb;cases r1;obtain ⟨⟨cls,dd,data,sl⟩,ho,hc,n,hd⟩:=id p1;obtain ⟨⟨cls2,dd2,data2,sl2⟩,ho2,hc2,n2,hd2⟩:=id p2;simp only at hc hd hc2 hd2;subst hc hd hc2 hd2;exact TJ ⟨_,ho,rfl⟩ ⟨_,ho2,rfl⟩ LQ RP GD FZ (DR _ _) (tuple_addW0 a b _ _ n n2 dd dd2 sl sl2 (by simp)) ⟨ho,ho2,⟨.ref b,H,I,rfl,q⟩⟩
theorem Aan:OpR X (binaryOp .Add) (rD X.K Cp):=by
 refine Ph (Aei.or (Z3.or (zU.or (Ae2.or pO)))) ?_;rintro x y H Q ⟨ρ,mh,dx,dy,d,mh',q,rs,rx,ry,co⟩;cases rx with
 | int i =>
  cases ry with
  | int j=>cases q;exact .inl ⟨i,j,rfl,rfl,co H ρ _ Ev.refl rs (.int _)⟩
  | _=>cases q
 | str i =>
  cases ry with
  | str j =>
   have q:(if i.length+j.length<=sizeLine then some (D.str (i++j),mh) else none)=some (d,mh'):=q;split at q
   ·rename_i hz;cases q;exact .inr (.inl ⟨i,j,rfl,rfl,hz,co H ρ _ Ev.refl rs (.str _)⟩)
   ·cases q
  | _=>cases q
 | @tup xs a us s1 r1 =>
  cases ry with
  | @tup ys b ws s2 r2 =>
   have q:(if xs.length+ys.length<=sizeLine then some (D.tup (xs++ys),mh) else none)=some (d,mh'):=q;split at q
   ·rename_i hz;cases q
    by_cases hne:xs=[]
    ·subst hne;cases r1;exact .inr (.inr (.inr (.inr ⟨a,b,ws,rfl,rfl,s1,s2,co H ρ _ Ev.refl rs (.tup s2 r2)⟩)))
    ·refine .inr (.inr (.inl ⟨a,b,us,ws,rfl,rfl,s1,s2,λz=>hne ?_,by rw [← r1.length,← r2.length];exact hz,?_⟩))
     ·rw [z] at r1;cases r1;rfl
     ·refine ⟨λz=>?_,λz=>Co.newT rs (r1.append r2) co⟩;subst z;cases r2;exact co H ρ _ Ev.refl rs (.tup s1 (by rw [yc];exact r1))
   ·cases q
  | _=>cases q
 | @ref n a ha =>
  cases ry with
  | @ref m b hb =>
   have q:(match mh[n]?,mh[m]? with
    | some (.lst xs),some (.lst ys)=>if xs.length+ys.length<=sizeLine then some (D.ref mh.length,mh++[.lst (xs++ys)]) else none
    | _,_=>none)=some (d,mh'):=q
   split at q
   ·rename_i xs ys e1 e2;split at q
    ·rename_i hz;cases q;obtain ⟨a2,h1,us,g1,r1⟩:=rs.at e1;obtain ⟨b2,h2,ws,g2,r2⟩:=rs.at e2;rw [ha] at h1;rw [hb] at h2;cases h1;cases h2;exact .inr (.inr (.inr (.inl ⟨a,b,us,ws,rfl,rfl,g1,g2,by rw [← r1.length,← r2.length];exact hz,Co.newL rs (r1.append r2) co⟩)))
    ·cases q
   ·cases q
  | _=>cases q
 | _=>cases q
end
section
variable {X:Cx}
theorem Nj {f:Value}{r r':List V->Hp->VK->Prop}(h:Bt X f r) (i:∀ xs H Q,r' xs H Q->r xs H Q):Bt X f r':=λpins s σ H xs us Q I rx q=>h pins s σ H xs us Q I rx (i xs H Q q)
theorem Aao {r r':R2}(h:IxR X r) (i:∀ x y H Q,r' x y H Q->r x y H Q):IxR X r':=λa b pins s σ H x y v u Q I rx ry q hs=>h a b pins s σ H x y v u Q I rx ry (i x y H Q q) hs
theorem Aap {r r':V->Option Int->Option Int->Hp->VK->Prop}(h:SlR X r) (i:∀ x lo hi H Q,r' x lo hi H Q->r x lo hi H Q):SlR X r':=λpins s σ H x v vl vu lo hi sl Q I rx hs pl pu q=>h pins s σ H x v vl vu lo hi sl Q I rx hs pl pu (i x lo hi H Q q)
noncomputable def En:D->MH->Option (List D)
 | .tup ds,_=>some ds
 | .ref n,mh=>match mh[n]? with | some (.lst o)=>some o | _=>none
 | .rol ds,_=>some ds
 | _,_=>none
theorem J4 {K:aj}{H:Hp}{ρ:List Addr}{mh:MH}{d:D}{v:V}{ds:List D}(rs:RS K H ρ mh) (r:RD K H ρ d v) (e:En d mh=some ds):∃ p xs,v=.ref p/\(SqL K H p xs\/SqT K H p xs)/\RDs K H ρ ds xs:=by
 cases r with
 | tup s r=>cases e;exact ⟨_,_,rfl,.inr s,r⟩
 | rol s r=>cases e;exact ⟨_,_,rfl,.inl s.sq,r⟩
 | @ref n a h =>
  have e:(match mh[n]? with | some (.lst o)=>some o | _=>none)=some ds:=e;split at e
  ·rename_i o eo;cases e;obtain ⟨a',ha,ro⟩:=rs.at eo;rw [h] at ha;cases ha;obtain ⟨xs,q,r⟩:=ro.read;exact ⟨_,xs,rfl,.inl q,r⟩
  ·cases e
 | _=>cases e
theorem Aaq {K:aj}{H:Hp}{ρ:List Addr}{ds:List D}{xs:List V}{i:Int}{d:D}(r:RDs K H ρ ds xs) (e:atI ds i=some d):∃ v,atI xs i=some v/\RD K H ρ d v:=by
 unfold atI at e ⊢;rw [← r.length];cases q:ixN ds.length i with
 | none=>rw [q] at e;cases e
 | some j =>
  rw [q] at e;exact r.get e
noncomputable def pP (x y:D) (mh:MH):Option (D×MH):=match y with
 | .int i=>(match x with
  | .str z=>if z.length<=sizeLine then (match atI z.cps.toList i with | some c=>some (.str ⟨#[c]⟩,mh) | none=>none) else none
  | _=>match En x mh with
   | some ds=>(match atI ds i with | some d=>some (d,mh) | none=>none)
   | none=>none)
 | _=>none
theorem Aka:IxR X (rD X.K pP):=by
 refine Aao (Ae0 (X:=X)) ?_;rintro x y H Q ⟨ρ,mh,dx,dy,d,mh',q,rs,rx,ry,co⟩;have seq:∀ i:Int,y=.int i->(match En dx mh with | some ds=>(match atI ds i with | some d=>some (d,mh) | none=>none) | none=>none)=some (d,mh')->rIx X.K x y H Q:=λi ey q=>by
  split at q
  ·rename_i ds e1;split at q
   ·rename_i d' e2;cases q;obtain ⟨p,xs,rfl,hq,r⟩:=J4 rs rx e1;obtain ⟨v,e3,r3⟩:=Aaq r e2;rcases hq with hq|hq
    ·exact .inl ⟨p,xs,i,v,rfl,ey,hq,e3,co H ρ v Ev.refl rs r3⟩
    ·exact .inr (.inl ⟨p,xs,i,v,rfl,ey,hq,e3,co H ρ v Ev.refl rs r3⟩)
   ·cases q
  ·cases q
 cases ry with
 | int i =>
  cases rx with
  | str z =>
   have q:(if z.length<=sizeLine then (match atI z.cps.toList i with | some c=>some (D.str ⟨#[c]⟩,mh) | none=>none) else none)=some (d,mh'):=q;split at q
   ·rename_i hz;split at q
    ·rename_i c ec;cases q;exact .inr (.inr ⟨z,i,c,rfl,rfl,hz,ec,co H ρ _ Ev.refl rs (.str _)⟩)
    ·cases q
   ·cases q
  | non=>exact seq i rfl q
  | bl b=>exact seq i rfl q
  | int j=>exact seq i rfl q
  | tup s r=>exact seq i rfl q
  | ref h=>exact seq i rfl q
  | rol s r=>exact seq i rfl q
  | obj n s l r=>exact seq i rfl q
  | fn h=>exact seq i rfl q
  | lam h=>exact seq i rfl q
  | clo=>exact seq i rfl q
 | _=>cases q
noncomputable def cutD {α:Type}(xs:List α) (lo hi:Option Int):List α:=(xs.drop (HT.sIx xs.length 0 lo)).take (HT.sIx xs.length xs.length hi - HT.sIx xs.length 0 lo)
theorem Vj {K:aj}{H:Hp}{ρ:List Addr}{ds:List D}{xs:List V}{lo hi:Option Int}(r:RDs K H ρ ds xs):RDs K H ρ (cutD ds lo hi) (Wz xs lo hi):=by
 unfold cutD Wz;rw [r.length];exact (r.drop _).take _
theorem Kr {prog:Program}{w:World}{A:Around}{E:Value->Shared->Prop}{s:Shared}{t sl:Addr}{items:Array Value}{vl vu:Value}{lo hi:Option Int}{Q:Value->Shared->Prop}(ht:IsTup s.heap t items) (hs:s.heap.IsSliceOf sl vl vu .none) (pl:IsPart vl lo) (pu:IsPart vu hi)
  (h0:HT.sIx items.size 0 lo=0) (h1:HT.sIx items.size items.size hi=items.size) (h:Q (.ref t) s):wpAny (model prog w) A (getItem (.ref t) (.ref sl)) Q E s:=by
 obtain ⟨os,hos,hcs,hds⟩:=id hs
 have hTs:s.TypeIs (.ref sl) "slice":=⟨os,hos,hcs⟩
 unfold getItem
 try with_reducible refine wu ?_
 first | refine aq (cu ?_) | skip
 refine aq (VJ ht.typeIs (by decide) ?_)
 refine aq (uq (name:=Str.ofString "__getitem__") ht.typeIs PyProof.Rows.slot_tuple_getitem
  (CK PyProof.Rows.slot_tuple_getitem ht.typeIs RZ ?_ (TQ _ _)))
 show wpAny _ _ (CQ (.ref t) >>= _) _ _ s;refine aq (tupleItemsOf_ ht ?_);refine aq (LR hTs ?_);rw [if_pos (by decide)];refine aq (HT.sliceApplied_gen hs pl pu ?_);rw [h0,h1];have hyes:((((0:Nat):Int)==0&&(1:Int)==1&&(items.size - 0)==items.size)=true):=by simp
 show wpAny _ _ (if (((0:Nat):Int)==0&&(1:Int)==1&&(items.size - 0)==items.size)=true then _ else _) _ _ s;rw [if_pos hyes];unfold Builtin.Tuple.tupleIsExact;refine aq (aq (LR ht.typeIs (cu ?_)));rw [if_pos (by decide)];exact aq (KR (cu ⟨_,rfl,cu h⟩))
theorem jU:SlR X (λx lo hi H Q=>∃ a xs,x=.ref a/\SqT X.K H a xs/\HT.sIx xs.length 0 lo=0/\HT.sIx xs.length xs.length hi=xs.length/\Q (.ref a) H):=by
 intro pins s σ H x v vl vu lo hi sl Q I rx hs pl pu h;obtain ⟨a,xs,rfl,hx,h0,h1,q⟩:=h;cases rx;obtain ⟨its,r,ht,hz⟩:=I.tuple hx;have hlen:its.toArray.size=xs.length:=by rw [dw];exact r.length.symm
 refine ⟨"tuple",_,PyProof.Rows.slot_tuple_getitem.lookup,ht.typeIs,?_⟩;exact Kr ht hs pl pu (by rw [hlen];exact h0) (by rw [hlen];exact h1) ⟨.ref a,H,I,rfl,q⟩
noncomputable def slD (x:D) (lo hi:Option Int) (mh:MH):Option (D×MH):=match x with
 | .tup ds=>if HT.sIx ds.length 0 lo=0/\HT.sIx ds.length ds.length hi=ds.length then some (.tup ds,mh) else some (.tup (cutD ds lo hi),mh)
 | .ref n=>match mh[n]? with
  | some (.lst o)=>some (.ref mh.length,mh++[.lst (cutD o lo hi)])
  | _=>none
 | .rol ds=>some (.ref mh.length,mh++[.lst (cutD ds lo hi)])
 | _=>none
noncomputable def Amg (K:aj):V->Option Int->Option Int->Hp->VK->Prop:=λx lo hi H Q=>∃ ρ mh dx d mh',slD dx lo hi mh=some (d,mh')/\RS K H ρ mh/\RD K H ρ dx x/\Co K H ρ mh' d Q
theorem Amh:SlR X (Amg X.K):=by
 refine Aap (jU.or (Aex.or zW)) ?_;rintro x lo hi H Q ⟨ρ,mh,dx,d,mh',q,rs,rx,co⟩;cases rx with
 | @tup ds a xs s r =>
  have q:(if HT.sIx ds.length 0 lo=0/\HT.sIx ds.length ds.length hi=ds.length then some (D.tup ds,mh) else some (D.tup (cutD ds lo hi),mh))=some (d,mh'):=q;have hl:=r.length;split at q
  ·rename_i hw;cases q;exact .inl ⟨a,xs,rfl,s,by rw [← hl];exact hw.1,by rw [← hl];exact hw.2,co H ρ _ Ev.refl rs (.tup s r)⟩
  ·rename_i hw;cases q;exact .inr (.inl ⟨a,xs,rfl,s,by rw [← hl];exact hw,Co.newT rs (Vj r) co⟩)
 | @ref n a h =>
  have q:(match mh[n]? with | some (.lst o)=>some (D.ref mh.length,mh++[.lst (cutD o lo hi)]) | _=>none)=some (d,mh'):=q;split at q
  ·rename_i o eo;cases q;obtain ⟨a',ha,ro⟩:=rs.at eo;rw [h] at ha;cases ha;obtain ⟨xs,sq,r⟩:=ro.read;exact .inr (.inr ⟨a,xs,rfl,sq,Co.newL rs (Vj r) co⟩)
  ·cases q
 | @rol ds a xs s r =>
  cases q;exact .inr (.inr ⟨a,xs,rfl,s.sq,Co.newL rs (Vj r) co⟩)
 | _=>cases q
noncomputable def Lr (m:Option (DM D)):DM (Option Int):=match m with
 | none=>Zr none
 | some m=>m.bnd λx=>match x with | .int i=>Zr (some i) | _=>Zb
noncomputable def pQ (X:Cx) (e:Option Expr) (m:Option (DM D)):Prop:=match e,m with
 | none,none=>True
 | some e,some m=>DE X e m
 | _,_=>False
noncomputable def tDO (K:aj) (loc:Loc) (mh:MH) (r:Option (Option Int×MH)):TO:=λσ H Q=>∃ ρ o mh',r=some (o,mh')/\RL K H ρ loc σ/\RS K H ρ mh/\∀ H' ρ',Ev K H ρ H' ρ'->RS K H' ρ' mh'->Q o H'
theorem Akb {e:Option Expr}{m:Option (DM D)}(h:pQ X e m) (loc:Loc) (mh:MH):PO X e (tDO X.K loc mh (Lr m loc mh)):=by
 rintro pins s σ H Q I ⟨ρ,o,mh',q,rl,rs,co⟩;cases e with
 | none =>
  cases m with
  | none =>
   cases q;exact zR pins s σ H Q I (co H ρ Ev.refl rs)
  | some m=>exact h.elim
 | some e =>
  cases m with
  | none=>exact h.elim
  | some m =>
   obtain ⟨x,m1,ea,q⟩:=Ao q;cases x with
   | int i =>
    cases q;refine zT (h loc mh) pins s σ H Q I ⟨ρ,.int i,mh',ea,rl,rs,λH' ρ' v e' rs' r'=>?_⟩;cases r';exact ⟨i,rfl,co H' ρ' e' rs'⟩
   | non=>cases q
   | bl b=>cases q
   | str z=>cases q
   | tup ds=>cases q
   | ref n=>cases q
   | rol ds=>cases q
   | obj c ks ds=>cases q
   | fn x=>cases q
   | lam=>cases q
   | clo=>cases q
noncomputable def dSl (ma:DM D) (ml mu:Option (DM D)):DM D:=ma.bnd λx=>(Lr ml).bnd λl=>(Lr mu).bnd λu=>Zl (slD x l u)
theorem pR {a:Expr}{ma:DM D}{lo hi:Option Expr}{ml mu:Option (DM D)}{p2 pos:Pos}(ha:DE X a ma) (hl:pQ X lo ml) (hu:pQ X hi mu):DE X (.Subscript a (.Slice lo hi none p2) pos) (dSl ma ml mu):=λloc mh=>by
 cases ea:ma loc mh with
 | none =>
  have:dSl ma ml mu loc mh=none:=by unfold dSl DM.bnd;rw [ea]
  rw [this];exact Cd
 | some p =>
  obtain ⟨x,m1⟩:=p;cases el:Lr ml loc m1 with
  | none =>
   have:dSl ma ml mu loc mh=none:=by unfold dSl;unfold DM.bnd;rw [ea];dsimp only;rw [el]
   rw [this];exact Cd
  | some p2 =>
   obtain ⟨l,m2⟩:=p2;refine Br (oW Amh (ha loc mh) (Akb hl loc m1) (Akb hu loc m2)) ?_;rintro σ H Q ⟨ρ,d,mh',q,rl,rs,co⟩;obtain ⟨x',m1',ea',q⟩:=Ao q;rw [ea] at ea';cases ea';obtain ⟨l',m2',el',q⟩:=Ao q;rw [el] at el';cases el';obtain ⟨u,m3,eu,q⟩:=Ao q
   exact ⟨ρ,x,m1,ea,rl,rs,λH1 ρ1 v e1 rs1 r1=>⟨ρ1,l,m2,el,rl.mono e1,rs1,λH2 ρ2 e2 rs2=>⟨ρ2,u,m3,eu,(rl.mono e1).mono e2,rs2,λH3 ρ3 e3 rs3 =>
    ⟨ρ3,m3,x,d,mh',q,rs3,(r1.mono e2).mono e3,co.ev (e1.trans (e2.trans e3))⟩⟩⟩⟩
end
end DL
namespace HT
open PySem PySem.Spec PyProof.Rows
section
variable {prog:Program}{w:World}{A:Around}{E:Value->Shared->Prop}{s:Shared}
end
end HT
namespace DL
open PySem PySem.Spec PyProof.Rows L2
section
variable {X:Cx}
noncomputable def T6:List D->MH->Option (D×MH)
 | [.str z],mh=>if z.length<=sizeLine then some (.int z.length,mh) else none
 | [x],mh=>match En x mh with | some ds=>some (.int ds.length,mh) | none=>none
 | _,_=>none
theorem O6 {K:aj}{H:Hp}{ρ:List Addr}{d:D}{xs:List V}(h:RDs K H ρ [d] xs):∃ v,xs=[v]/\RD K H ρ d v:=by
 cases h with
 | cons r t=>cases t;exact ⟨_,rfl,r⟩
theorem Qt:Bt X (.builtin "len") (rDs X.K T6):=by
 refine Nj (Vb.or Vc) ?_;rintro xs H Q ⟨ρ,mh,ds,d,mh',q,rs,r,co⟩
 match ds,q with
 | [x],q =>
  obtain ⟨v,rfl,rx⟩:=O6 r;have seq:(match En x mh with | some ds=>some (D.int ds.length,mh) | none=>none)=some (d,mh')->∃ p ys,[v]=[.ref p]/\(SqL X.K H p ys\/SqT X.K H p ys)/\Q (.int ys.length) H:=λq=>by
   split at q
   ·rename_i ds e1;cases q;obtain ⟨p,ys,rfl,hq,r⟩:=J4 rs rx e1;exact ⟨p,ys,rfl,hq,by rw [← r.length];exact co H ρ _ Ev.refl rs (.int _)⟩
   ·cases q
  cases rx with
  | str z =>
   have q:(if z.length<=sizeLine then some (D.int z.length,mh) else none)=some (d,mh'):=q;split at q
   ·rename_i hz;cases q;exact .inr ⟨z,rfl,hz,co H ρ _ Ev.refl rs (.int _)⟩
   ·cases q
  | non=>exact .inl (seq q)
  | bl b=>exact .inl (seq q)
  | int i=>exact .inl (seq q)
  | tup s r=>exact .inl (seq q)
  | ref h=>exact .inl (seq q)
  | rol s r=>exact .inl (seq q)
  | obj n s l r=>exact .inl (seq q)
  | fn h=>exact .inl (seq q)
  | lam h=>exact .inl (seq q)
  | clo=>exact .inl (seq q)
 | [],q=>cases q
 | _::_::_,q=>simp [T6] at q
noncomputable def Xb:List D->MH->Option (D×MH)
 | [x],mh=>match En x mh with | some ds=>some (.ref mh.length,mh++[.lst ds]) | none=>none
 | _,_=>none
theorem aK:Bt X (.type "list") (rDs X.K Xb):=by
 refine Nj Vd ?_;rintro xs H Q ⟨ρ,mh,ds,d,mh',q,rs,r,co⟩
 match ds,q with
 | [x],q =>
  obtain ⟨v,rfl,rx⟩:=O6 r;have q:(match En x mh with | some ds=>some (D.ref mh.length,mh++[.lst ds]) | none=>none)=some (d,mh'):=q;split at q
  ·rename_i ds e1;cases q;obtain ⟨p,ys,rfl,hq,r⟩:=J4 rs rx e1;exact ⟨p,ys,rfl,hq,Co.newL rs r co⟩
  ·cases q
 | [],q=>cases q
 | _::_::_,q=>cases q
noncomputable def Dg:List D->MH->Option (D×MH)
 | [x],mh=>match En x mh with | some ds=>some (.tup ds,mh) | none=>none
 | _,_=>none
theorem Xc:Bt X (.type "tuple") (rDs X.K Dg):=by
 refine Nj Sy ?_;rintro xs H Q ⟨ρ,mh,ds,d,mh',q,rs,r,co⟩
 match ds,q with
 | [x],q =>
  obtain ⟨v,rfl,rx⟩:=O6 r;have q:(match En x mh with | some ds=>some (D.tup ds,mh) | none=>none)=some (d,mh'):=q;split at q
  ·rename_i ds e1;cases q;obtain ⟨p,ys,rfl,hq,r⟩:=J4 rs rx e1;rcases hq with hq|hq
   ·exact ⟨p,ys,rfl,.inl ⟨hq,Co.newT rs r co⟩⟩
   ·exact ⟨p,ys,rfl,.inr ⟨hq,co H ρ _ Ev.refl rs (.tup hq r)⟩⟩
  ·cases q
 | [],q=>cases q
 | _::_::_,q=>cases q
noncomputable def pU:D->MH->Option String
 | .non,_=>some "NoneType"
 | .bl _,_=>some "bool"
 | .int _,_=>some "int"
 | .str _,_=>some "str"
 | .tup _,_=>some "tuple"
 | .ref n,mh=>match mh[n]? with | some (.lst _)=>some "list" | _=>none
 | .rol _,_=>some "list"
 | .obj ..,_=>none
 | .fn _,_=>none
 | .lam,_=>none
 | .clo _ _,_=>none
noncomputable def Afl (t c:String):Option Bool :=
 if t==c then some true else
 if ["NoneType", "bool", "int", "str", "tuple", "list"].contains t&&["bool", "int", "str", "tuple", "list", "dict"].contains c then some (t == "bool"&&c == "int") else none
theorem Ih {K:aj}{t c:String}{b:Bool}(ht:t∈["NoneType", "bool", "int", "str", "tuple", "list"]) (hc:c∈["bool", "int", "str", "tuple", "list", "dict"]) (h:Afl t c=some b):PySem.W.kitOne K (.type t) (.type c)=some b:=by
 simp only [gb,lu,or_false] at ht hc;rcases ht with rfl | rfl | rfl | rfl | rfl | rfl <;> rcases hc with rfl | rfl | rfl | rfl | rfl | rfl <;> (first | (have e:b=true:=by (have h':=h;revert h';decide +revert));subst e;kernel_rfl | (have e:b=false:=by (have h':=h;revert h';decide +revert));subst e;kernel_rfl)
end
inductive Src where
 | seq (ds:List D) | lref (n:Nat) | enum (s:Src) | zip (s t:Src)
noncomputable def Jf:Nat->List D->List D
 | _,[]=>[]
 | i,d::r=>.tup [.int i,d]::Jf (i+1) r
noncomputable def Src.items:Src->MH->List D
 | .seq ds,_=>ds
 | .lref n,mh=>match mh[n]? with | some (.lst o)=>o | _=>[]
 | .enum s,mh=>Jf 0 (s.items mh)
 | .zip s t,mh=>NK (λa b=>.tup [a,b]) (s.items mh) (t.items mh)
noncomputable def Src.ok:Src->MH->Bool
 | .seq _,_=>true
 | .lref n,mh=>match mh[n]? with | some (.lst _)=>true | _=>false
 | .enum s,mh=>s.ok mh
 | .zip s t,mh=>s.ok mh&&t.ok mh
noncomputable def Src.get (s:Src) (mh:MH) (i:Nat):Option D:=(s.items mh)[i]?
noncomputable def Src.stop (s:Src) (mh:MH) (i:Nat):Bool:=s.ok mh&&decide ((s.items mh).length<=i)
structure JR (K:aj) (H0:Hp) (ρ0:List Addr) (src:Src) (J:It):Prop where
 go:∀ H ρ mh i d,Ev K H0 ρ0 H ρ->RS K H ρ mh->src.get mh i=some d->J.go i H/\∀ x H',J.yld i H x H'->Ev K H ρ H' ρ/\RS K H' ρ mh/\RD K H' ρ d x
 stop:∀ H ρ mh i,Ev K H0 ρ0 H ρ->RS K H ρ mh->src.stop mh i=true->J.stop i H
noncomputable def tDI (K:aj) (loc:Loc) (mh:MH) (r:Option (Src×MH)):TI:=λσ H R=>∃ ρ src mh',r=some (src,mh')/\RL K H ρ loc σ/\RS K H ρ mh/\∀ H' ρ' J,Ev K H ρ H' ρ'->RS K H' ρ' mh'->JR K H' ρ' src J->R J H'
noncomputable def DI (X:Cx) (tg iter:Expr) (m:DM Src):Prop:=∀ loc mh,PI X tg iter (tDI X.K loc mh (m loc mh))
theorem Afm {X:Cx}{tg e:Expr}{t t':TI}(h:PI X tg e t) (i:∀ σ H R,t' σ H R->t σ H R):PI X tg e t':=λpins s σ H R I q=>h pins s σ H R I (i σ H R q)
theorem Ef {X:Cx}{tg e:Expr}{loc:Loc}{mh:MH}:PI X tg e (tDI X.K loc mh none):=λ_ _ _ _ _ _ h=>by obtain ⟨_,_,_,e,_⟩:=h;cases e
section
variable {X:Cx}{tg:Expr}
theorem JR.tup {K:aj}{H0:Hp}{ρ0:List Addr}{ds:List D}{a:Addr}{xs:List V}(s:SqT K H0 a xs) (r:RDs K H0 ρ0 ds xs):JR K H0 ρ0 (.seq ds) (Itt K a) where
 go:=λH ρ mh i d e rs q=>by
  obtain ⟨v,e1,r1⟩:=(r.mono e).get q;refine ⟨⟨xs,v,e.tup _ _ s,e1⟩,?_⟩;rintro x H' ⟨h1,h2⟩;subst h1;have:=h2 xs (e.tup _ _ s);rw [e1] at this;cases this;exact ⟨Ev.refl,rs,r1⟩
 stop:=λH ρ mh i e rs q=>by
  refine ⟨xs,e.tup _ _ s,?_⟩;rw [← r.length];have q:(true&&decide (ds.length<=i))=true:=q;rw [yj] at q;exact of_decide_eq_true q
theorem JR.lst {K:aj}{H0:Hp}{ρ0:List Addr}{n:Nat}{a:Addr}(h:ρ0[n]?=some a):JR K H0 ρ0 (.lref n) (Itl K a) where
 go:=λH ρ mh i d e rs q=>by
  unfold Src.get Src.items at q;cases eo:mh[n]? with
  | none=>simp only [eo] at q;simp at q
  | some ob =>
   cases ob with
   | dct kvs=>simp only [eo] at q;simp at q
   | dtk kvs=>simp only [eo] at q;simp at q
   | plc=>simp only [eo] at q;simp at q
   | plq=>simp only [eo] at q;simp at q
   | lst o =>
   simp only [eo] at q;obtain ⟨a',ha,ro⟩:=rs.at eo;rw [e.at h] at ha;cases ha;obtain ⟨xs,sq,r⟩:=ro.read;obtain ⟨v,e1,r1⟩:=r.get q;refine ⟨⟨xs,v,sq,e1⟩,?_⟩;rintro x H' ⟨h1,h2⟩;subst h1;have:=h2 xs sq;rw [e1] at this;cases this;exact ⟨Ev.refl,rs,r1⟩
 stop:=λH ρ mh i e rs q=>by
  unfold Src.stop Src.ok Src.items at q;cases eo:mh[n]? with
  | none=>simp only [eo] at q;simp at q
  | some ob =>
   cases ob with
   | dct kvs=>simp only [eo] at q;simp at q
   | dtk kvs=>simp only [eo] at q;simp at q
   | plc=>simp only [eo] at q;simp at q
   | plq=>simp only [eo] at q;simp at q
   | lst o =>
   simp only [eo] at q;obtain ⟨a',ha,ro⟩:=rs.at eo;rw [e.at h] at ha;cases ha;obtain ⟨xs,sq,r⟩:=ro.read;exact ⟨xs,sq,by rw [← r.length];simpa using q⟩
theorem JR.rol {K:aj}{H0:Hp}{ρ0:List Addr}{ds:List D}{a:Addr}{xs:List V}(s:Jd K H0 a xs) (r:RDs K H0 ρ0 ds xs):JR K H0 ρ0 (.seq ds) (Itl K a) where
 go:=λH ρ mh i d e rs q=>by
  obtain ⟨v,e1,r1⟩:=(r.mono e).get q;have sq:=(e.perm _ _ s).sq;refine ⟨⟨xs,v,sq,e1⟩,?_⟩;rintro x H' ⟨h1,h2⟩;subst h1;have:=h2 xs sq;rw [e1] at this;cases this;exact ⟨Ev.refl,rs,r1⟩
 stop:=λH ρ mh i e rs q=>by
  refine ⟨xs,(e.perm _ _ s).sq,?_⟩;rw [← r.length];have q:(true&&decide (ds.length<=i))=true:=q;rw [yj] at q;exact of_decide_eq_true q
noncomputable def Cg (lo:Int) (n:Nat):List D:=(dm n).map λ(k:Nat)=>D.int (lo+(k:Int))
theorem JR.rng {K:aj}{H0:Hp}{ρ0:List Addr}{lo:Int}{n:Nat}:JR K H0 ρ0 (.seq (Cg lo n)) (Itr lo n) where
 go:=λH ρ mh i d e rs q=>by
  have q:(Cg lo n)[i]?=some d:=q;unfold Cg at q;rw [cj] at q
  by_cases hi:i < n
  ·rw [uy hi] at q;cases q;refine ⟨hi,?_⟩;rintro x H' ⟨h1,h2⟩;subst h1;subst h2;exact ⟨Ev.refl,rs,.int _⟩
  ·rw [GZ (by simp;omega)] at q;cases q
 stop:=λH ρ mh i e rs q=>by
  show n<=i;have q:(true&&decide ((Cg lo n).length<=i))=true:=q;rw [yj] at q;have:=of_decide_eq_true q;unfold Cg at this
  simpa using this
noncomputable def srcOf:D->MH->Option Src
 | .tup ds,_=>some (.seq ds)
 | .ref n,mh=>match mh[n]? with | some (.lst _)=>some (.lref n) | _=>none
 | .rol ds,_=>some (.seq ds)
 | _,_=>none
noncomputable def Cq (ma:DM D):DM Src:=ma.bnd λx=>λ_ mh=>match srcOf x mh with | some s=>some (s,mh) | none=>none
theorem G7 {a:Expr}{ma:DM D}(ha:DE X a ma):DI X tg a (Cq ma):=λloc mh=>by
 cases ea:ma loc mh with
 | none =>
  have:Cq ma loc mh=none:=by unfold Cq DM.bnd;rw [ea]
  rw [this];exact Ef
 | some p =>
  obtain ⟨x,m1⟩:=p;have eq:Cq ma loc mh=(match srcOf x m1 with | some s=>some (s,m1) | none=>none):=by unfold Cq DM.bnd;rw [ea]
  rw [eq];cases x with
  | tup ds =>
   rintro pins s σ H R I ⟨ρ,src,mh',q,rl,rs,co⟩;cases q;refine Aee (ha loc mh) pins s σ H R I ⟨ρ,_,_,ea,rl,rs,λH1 ρ1 v e1 rs1 r1=>?_⟩;cases r1 with
   | tup s r=>exact ⟨_,rfl,⟨_,s⟩,co H1 ρ1 _ e1 rs1 (JR.tup s r)⟩
  | ref n =>
   rintro pins s σ H R I ⟨ρ,src,mh',q,rl,rs,co⟩;cases eo:m1[n]? with
   | none=>simp only [srcOf,eo] at q;cases q
   | some ob =>
    cases ob with
    | dct kvs=>simp only [srcOf,eo] at q;cases q
    | dtk kvs=>simp only [srcOf,eo] at q;cases q
    | plc=>simp only [srcOf,eo] at q;cases q
    | plq=>simp only [srcOf,eo] at q;cases q
    | lst o =>
    simp only [srcOf,eo] at q;cases q;refine dG (ha loc mh) pins s σ H R I ⟨ρ,_,_,ea,rl,rs,λH1 ρ1 v e1 rs1 r1=>?_⟩;cases r1 with
    | @ref _ a' h =>
     obtain ⟨a2,ha2,ro⟩:=rs1.at eo;rw [h] at ha2;cases ha2;obtain ⟨xs,sq,r⟩:=ro.read;exact ⟨_,rfl,⟨xs,sq⟩,co H1 ρ1 _ e1 rs1 (JR.lst h)⟩
  | rol ds =>
   rintro pins s σ H R I ⟨ρ,src,mh',q,rl,rs,co⟩;cases q;refine dG (ha loc mh) pins s σ H R I ⟨ρ,_,_,ea,rl,rs,λH1 ρ1 v e1 rs1 r1=>?_⟩;cases r1 with
   | rol s r=>exact ⟨_,rfl,⟨_,s.sq⟩,co H1 ρ1 _ e1 rs1 (JR.rol s r)⟩
  | non=>exact Ef
  | bl b=>exact Ef
  | int i=>exact Ef
  | str z=>exact Ef
  | obj c ks ds=>exact Ef
  | fn x=>exact Ef
  | lam=>exact Ef
  | clo=>exact Ef
noncomputable def K9 (ds:List D):Option Src:=match ds with
 | [.int j]=>if -(2 ^ 62)<=j/\j < 2 ^ 62 then some (.seq (Cg 0 j.toNat)) else none
 | _=>none
theorem jV {ds:List D}{s:Src}(h:K9 ds=some s):∃ j,ds=[.int j]/\-(2 ^ 62)<=j/\j < 2 ^ 62/\s=.seq (Cg 0 j.toNat):=by
 unfold K9 at h;split at h
 ·rename_i j;split at h
  ·rename_i hj;cases h;exact ⟨j,rfl,hj.1,hj.2,rfl⟩
  ·cases h
 ·cases h
noncomputable def Ls (f:List D->Option Src) (mr:DM (List D)):DM Src:=mr.bnd λds=>match f ds with | some s=>Zr s | none=>Zb
theorem jW {f:List D->Option Src}{mr:DM (List D)}{loc:Loc}{mh:MH}{r:Src×MH}(h:Ls f mr loc mh=some r):∃ ds,mr loc mh=some (ds,r.2)/\f ds=some r.1:=by
 obtain ⟨ds,m1,ea,q⟩:=Ao h;cases e:f ds with
 | none=>rw [e] at q;cases q
 | some s=>rw [e] at q;cases q;exact ⟨ds,ea,e⟩
theorem Ami {K:aj}{H:Hp}{ρ:List Addr}{d e:D}{xs:List V}(h:RDs K H ρ [d,e] xs):∃ v u,xs=[v,u]/\RD K H ρ d v/\RD K H ρ e u:=by
 cases h with
 | cons r t =>
  cases t with
  | cons r2 t=>cases t;exact ⟨_,_,rfl,r,r2⟩
theorem jX {a:Expr}{mr:DM (List D)}{p pos:Pos}(hg:Gl X "range") (hm:X.mg "range"=none) (ha:DA X [a] mr) (hs:starEach [a] X.env=[(false,eval a X.env)]):DI X tg (.Call (.Name "range" p) [a] [] pos) (Ls K9 mr):=λloc mh=>by
 refine Afm (jG hg hm (ha loc mh) hs) ?_;rintro σ H R ⟨ρ,src,mh',q,rl,rs,co⟩;obtain ⟨ds,ea,q⟩:=jW q;refine ⟨ρ,ds,mh',ea,rl,rs,λH1 ρ1 vs e1 rs1 r1=>?_⟩;obtain ⟨j,rfl,h1,h2,e⟩:=jV q;obtain ⟨v,rfl,rv⟩:=O6 r1;cases rv;have e:src=.seq (Cg 0 j.toNat):=e;subst e;exact ⟨j,rfl,h1,h2,co H1 ρ1 _ e1 rs1 JR.rng⟩
end
inductive Fl where
 | nx | bk | ct | rt (d:D)
noncomputable abbrev SM:=Loc->MH->Option (Fl×Loc×MH)
noncomputable def CoS (K:aj) (H:Hp) (ρ:List Addr) (f:Fl) (loc':Loc) (mh':MH) (N:Ends):Prop:=match f with
 | .nx=>∀ H' ρ' σ',Ev K H ρ H' ρ'->RS K H' ρ' mh'->RL K H' ρ' loc' σ'->N.nx σ' H'
 | .bk=>∀ H' ρ' σ',Ev K H ρ H' ρ'->RS K H' ρ' mh'->RL K H' ρ' loc' σ'->N.bk σ' H'
 | .ct=>∀ H' ρ' σ',Ev K H ρ H' ρ'->RS K H' ρ' mh'->RL K H' ρ' loc' σ'->N.ct σ' H'
 | .rt d=>∀ H' ρ' v,Ev K H ρ H' ρ'->RS K H' ρ' mh'->RD K H' ρ' d v->N.rt v H'
theorem CoS.ev {K:aj}{H H1:Hp}{ρ ρ1:List Addr}{f:Fl}{loc':Loc}{mh':MH}{N:Ends}(e:Ev K H ρ H1 ρ1) (c:CoS K H ρ f loc' mh' N):CoS K H1 ρ1 f loc' mh' N:=by
 cases f with
 | nx=>exact λH' ρ' σ' e' rs r=>c H' ρ' σ' (e.trans e') rs r
 | bk=>exact λH' ρ' σ' e' rs r=>c H' ρ' σ' (e.trans e') rs r
 | ct=>exact λH' ρ' σ' e' rs r=>c H' ρ' σ' (e.trans e') rs r
 | rt d=>exact λH' ρ' σ' e' rs r=>c H' ρ' σ' (e.trans e') rs r
noncomputable def tS (K:aj) (m:SM):TS:=λN σ H=>∃ loc mh ρ f loc' mh',m loc mh=some (f,loc',mh')/\RL K H ρ loc σ/\RS K H ρ mh/\CoS K H ρ f loc' mh' N
noncomputable def DS (X:Cx) (st:Stmt) (m:SM):Prop:=PS X st (tS X.K m)
noncomputable def DSs (X:Cx) (sts:List Stmt) (m:SM):Prop:=PSs X sts (tS X.K m)
theorem G8 {X:Cx}{st:Stmt}{t t':TS}(h:PS X st t) (i:∀ N σ H,t' N σ H->t N σ H):PS X st t':=λpins s σ H N I q=>h pins s σ H N I (i N σ H q)
theorem dZ {X:Cx}{st:List Stmt}{t t':TS}(h:PSs X st t) (i:∀ N σ H,t' N σ H->t N σ H):PSs X st t':=λpins s σ H N I q=>h pins s σ H N I (i N σ H q)
noncomputable def SM.bad:SM:=λ_ _=>none
theorem Ep {X:Cx}{st:Stmt}:DS X st SM.bad:=λ_ _ _ _ _ _ h=>by obtain ⟨_,_,_,_,_,_,e,_⟩:=h;cases e
noncomputable def tDx (K:aj) (m:DM D):TE:=λσ H Q=>∃ loc mh,tD K loc mh (m loc mh) σ H Q
noncomputable def tTx (K:aj) (m:DM Bool):TT:=λσ H Q=>∃ loc mh,tDT K loc mh (m loc mh) σ H Q
noncomputable def tIx (K:aj) (m:DM Src):TI:=λσ H R=>∃ loc mh,tDI K loc mh (m loc mh) σ H R
theorem DE.x {X:Cx}{e:Expr}{m:DM D}(h:DE X e m):PE X e (tDx X.K m):=λpins s σ H Q I ⟨loc,mh,q⟩=>h loc mh pins s σ H Q I q
theorem DT.x {X:Cx}{e:Expr}{m:DM Bool}(h:DT X e m):PT X e (tTx X.K m):=λpins s σ H Q I ⟨loc,mh,q⟩=>h loc mh pins s σ H Q I q
theorem DI.x {X:Cx}{tg e:Expr}{m:DM Src}(h:DI X tg e m):PI X tg e (tIx X.K m):=λpins s σ H Q I ⟨loc,mh,q⟩=>h loc mh pins s σ H Q I q
section
variable {X:Cx}{st:Stmt}{sts:List Stmt}{m m1 m2:SM}{e:Expr}{me:DM D}{pos:Pos}
noncomputable def Zn:SM:=λloc mh=>some (.nx,loc,mh)
noncomputable def Ab (m1 m2:SM):SM:=λloc mh=>match m1 loc mh with
 | some (.nx,l,h)=>m2 l h
 | r=>r
theorem Aar:DSs X [] Zn:=by
 refine dZ yW ?_;rintro N σ H ⟨loc,mh,ρ,f,loc',mh',q,rl,rs,co⟩;cases q;exact co H ρ σ Ev.refl rs rl
theorem pW (h1:DS X st m1) (h2:DSs X sts m2):DSs X (st::sts) (Ab m1 m2):=by
 refine dZ (nW h1 h2) ?_;rintro N σ H ⟨loc,mh,ρ,f,loc',mh',q,rl,rs,co⟩;unfold Ab at q;split at q
 ·rename_i l h e1;exact ⟨loc,mh,ρ,.nx,l,h,e1,rl,rs,λH1 ρ1 σ1 ev1 rs1 rl1=>⟨l,h,ρ1,f,loc',mh',q,rl1,rs1,co.ev ev1⟩⟩
 ·rename_i r hne;refine ⟨loc,mh,ρ,f,loc',mh',q,rl,rs,?_⟩;cases f with
  | nx=>exact absurd q (hne _ _)
  | bk=>exact co
  | ct=>exact co
  | rt d=>exact co
theorem Aas:DS X (.Pass pos) Zn:=by
 refine G8 yZ ?_;rintro N σ H ⟨loc,mh,ρ,f,loc',mh',q,rl,rs,co⟩;cases q;exact co H ρ σ Ev.refl rs rl
theorem pX:DS X (.Break pos) (λloc mh=>some (.bk,loc,mh)):=by
 refine G8 nY ?_;rintro N σ H ⟨loc,mh,ρ,f,loc',mh',q,rl,rs,co⟩;cases q;exact co H ρ σ Ev.refl rs rl
theorem Xd:DS X (.Continue pos) (λloc mh=>some (.ct,loc,mh)):=by
 refine G8 Wx ?_;rintro N σ H ⟨loc,mh,ρ,f,loc',mh',q,rl,rs,co⟩;cases q;exact co H ρ σ Ev.refl rs rl
noncomputable def retS (me:DM D):SM:=λloc mh=>match me loc mh with | some (d,mh')=>some (.rt d,loc,mh') | none=>none
theorem Afn (he:DE X e me):DS X (.Return (some e) pos) (retS me):=by
 refine G8 (Ad7 he.x) ?_;rintro N σ H ⟨loc,mh,ρ,f,loc',mh',q,rl,rs,co⟩;unfold retS at q;split at q
 ·rename_i d h1 ee;cases q;exact ⟨loc,mh,ρ,d,_,ee,rl,rs,co⟩
 ·cases q
theorem Aat:DS X (.Return none pos) (λloc mh=>some (.rt .non,loc,mh)):=by
 refine G8 zB ?_;rintro N σ H ⟨loc,mh,ρ,f,loc',mh',q,rl,rs,co⟩;cases q;exact co H ρ _ Ev.refl rs .non
noncomputable def Jg (me:DM D):SM:=λloc mh=>match me loc mh with | some (_,mh')=>some (.nx,loc,mh') | none=>none
theorem Aau (he:DE X e me) (hs:swapsWith e none pos.line X.env=pure false):DS X (.Expr e pos) (Jg me):=by
 refine G8 (zA he.x hs) ?_;rintro N σ H ⟨loc,mh,ρ,f,loc',mh',q,rl,rs,co⟩;unfold Jg at q;split at q
 ·rename_i d h1 ee;cases q;exact ⟨loc,mh,ρ,d,_,ee,rl,rs,λH' ρ' v e' rs' r'=>co H' ρ' σ e' rs' (rl.mono e')⟩
 ·cases q
noncomputable def ifS (t:DM Bool) (m1 m2:SM):SM:=λloc mh=>match t loc mh with
 | some (k,h)=>if k=true then m1 loc h else m2 loc h
 | none=>none
theorem Akc {c:Expr}{a b:List Stmt}{t:DM Bool}(hc:DT X c t) (ha:DSs X a m1) (hb:DSs X b m2):DS X (.If c a b pos) (ifS t m1 m2):=by
 refine G8 (Ajc hc.x ha hb) ?_;rintro N σ H ⟨loc,mh,ρ,f,loc',mh',q,rl,rs,co⟩;unfold ifS at q;split at q
 ·rename_i k h ek;refine ⟨loc,mh,ρ,k,h,ek,rl,rs,λH1 ρ1 e1 rs1=>?_⟩;cases k with
  | true=>exact W3 ⟨loc,h,ρ1,f,loc',mh',by rw [if_pos rfl] at q;exact q,rl.mono e1,rs1,co.ev e1⟩
  | false=>exact W2 ⟨loc,h,ρ1,f,loc',mh',by rw [if_neg kj] at q;exact q,rl.mono e1,rs1,co.ev e1⟩
 ·cases q
noncomputable abbrev GM:=D->Loc->MH->Option (Loc×MH)
noncomputable def J5 (ws:List Nat) (σ σ':St):Prop:=σ'.length=σ.length/\∀ i,i ∉ ws->σ'[i]?=σ[i]?
noncomputable def tG (K:aj) (ws:List Nat) (g:GM):TG:=λv σ H Q=>∃ d loc mh ρ loc' mh',g d loc mh=some (loc',mh')/\RL K H ρ loc σ/\RS K H ρ mh/\RD K H ρ d v /\
 ∀ H' ρ' σ',Ev K H ρ H' ρ'->RS K H' ρ' mh'->RL K H' ρ' loc' σ'->J5 ws σ σ'->Q σ' H'
noncomputable def DG (X:Cx) (tg:Expr) (ws:List Nat) (g:GM):Prop:=PG X tg (tG X.K ws g)
theorem aL {tg:Expr}{t t':TG}(h:PG X tg t) (i:∀ v σ H Q,t' v σ H Q->t v σ H Q):PG X tg t':=λpins s σ H v u Q I r q=>h pins s σ H v u Q I r (i v σ H Q q)
noncomputable def Ai (i:Nat):GM:=λd loc mh=>some (loc.set i (some d),mh)
theorem J5.set {σ:St}{i:Nat}{o:Option V}:J5 [i] σ (σ.set i o):=⟨jz,λj hj=>iy (λe=>hj (by simp [e]))⟩
theorem Aav {i:Nat}{x:Str}(hN:X.N.Nodup) (hi:X.N[i]?=some x) (hx:L2.Loc X.env.scope x) (hf:X.fn x=true\/X.env.scope.names.lookup x=some .local):DG X (.Name x pos) [i] (Ai i):=by
 refine aL (dF hN hi hx hf) ?_;rintro v σ H Q ⟨d,loc,mh,ρ,loc',mh',q,rl,rs,r,co⟩;cases q;exact co H ρ _ Ev.refl rs (rl.set r) J5.set
noncomputable def Qu:List Nat->List D->Loc->Loc
 | i::is,d::ds,loc=>Qu is ds (loc.set i (some d))
 | _,_,loc=>loc
noncomputable def Lx:List Nat->List V->St->St
 | i::is,d::ds,loc=>Lx is ds (loc.set i (some d))
 | _,_,loc=>loc
noncomputable def gNs:List Nat->TGs
 | []=>Aje
 | i::is=>Ac3 (nZ i) (gNs is)
theorem pY:∀ (is:List Nat) (vs:List V) (σ:St) (H:Hp) (Q:St->Hp->Prop),vs.length=is.length->Q (Lx is vs σ) H->gNs is vs σ H Q
 | [],[],_,_,_,_,q=>⟨rfl,q⟩
 | [],_::_,_,_,_,h,_=>by simp at h
 | _::_,[],_,_,_,h,_=>by simp at h
 | i::is,v::vs,σ,H,Q,h,q=>⟨v,vs,rfl,pY is vs _ H Q (by simpa using h) q⟩
theorem T7 {K:aj}{H:Hp}{ρ:List Addr}:∀ (is:List Nat) {ds:List D}{vs:List V}{loc:Loc}{σ:St},RDs K H ρ ds vs->RL K H ρ loc σ->RL K H ρ (Qu is ds loc) (Lx is vs σ)
 | [],_,_,_,_,.nil,rl=>rl
 | [],_,_,_,_,.cons _ _,rl=>rl
 | _::_,_,_,_,_,.nil,rl=>rl
 | i::is,_,_,_,_,.cons r t,rl=>T7 is t (rl.set r)
theorem Oj:∀ (is:List Nat) (vs:List V) (σ:St),J5 is σ (Lx is vs σ)
 | [],[],_=>⟨rfl,λ_ _=>rfl⟩
 | [],_::_,_=>⟨rfl,λ_ _=>rfl⟩
 | _::_,[],_=>⟨rfl,λ_ _=>rfl⟩
 | i::is,v::vs,σ=>by
  obtain ⟨h1,h2⟩:=Oj is vs (σ.set i (some v));refine ⟨h1.trans jz,λj hj=>?_⟩;have hj':¬ (j=i)/\j ∉ is:=by simpa using hj
  show (Lx is vs (σ.set i (some v)))[j]?=σ[j]?;rw [h2 j hj'.2,iy (λe=>hj'.1 e.symm)]
noncomputable def T8 (is:List Nat):GM:=λd loc mh=>match d with
 | .tup ds=>if ds.length=is.length then some (Qu is ds loc,mh) else none
 | _=>none
theorem Afo {es:List Expr}{k:Nat}{is:List Nat}(hc:X.calm=true) (h:PGs X es (gNs is)) (hn:(assignEach es X.env).length=is.length) (hst:(assignEach es X.env).findIdx? (·.1)=none):DG X (.Tuple es k pos) is (T8 is):=by
 refine aL (Ad9 hc h hn hst) ?_;rintro v σ H Q ⟨d,loc,mh,ρ,loc',mh',q,rl,rs,r,co⟩;cases r with
 | @tup ds a xs s r =>
  have q:(if ds.length=is.length then some (Qu is ds loc,mh) else none)=some (loc',mh'):=q;split at q
  ·rename_i hl;cases q;exact ⟨a,xs,rfl,s,by rw [← r.length];exact hl,pY is xs σ H Q (by rw [← r.length];exact hl) (co H ρ _ Ev.refl rs (T7 is r rl) (Oj is xs σ))⟩
  ·cases q
 | _=>cases q
noncomputable def Jp (o i v:D) (mh:MH):Option MH:=match o with
 | .ref n=>(match i with
  | .int k=>(match mh[n]? with
   | some (.lst ds)=>(match ixN ds.length k with
    | some j=>some (mh.set n (.lst (ds.set j v)))
    | none=>none)
   | _=>none)
  | _=>none)
 | _=>none
noncomputable def Xe (mo mi:DM D):GM:=λv loc mh=>match mo loc mh with
 | some (o,m1)=>match mi loc m1 with
  | some (i,m2)=>match Jp o i v m2 with
   | some m3=>some (loc,m3)
   | none=>none
  | none=>none
 | none=>none
theorem aM {o i v:D}{mh m:MH}(h:Jp o i v mh=some m):∃ n k ds j,o=.ref n/\i=.int k/\mh[n]?=some (.lst ds)/\ixN ds.length k=some j/\m=mh.set n (.lst (ds.set j v)):=by
 cases o with
 | ref n =>
  cases i with
  | int k =>
   have h:(match mh[n]? with | some (.lst ds)=>(match ixN ds.length k with | some j=>some (mh.set n (.lst (ds.set j v))) | none=>none) | _=>none)=some m:=h;split at h
   ·rename_i ds em;split at h
    ·rename_i j ej;cases h;exact ⟨n,k,ds,j,rfl,rfl,em,ej,rfl⟩
    ·cases h
   ·cases h
  | _=>cases h
 | _=>cases h
theorem Afp {o i:Expr}{mo mi:DM D}(ho:DE X o mo) (hi:DE X i mi) (ha:∀ v,assign (.Subscript o i pos) X.env v=(do
      let ov ← holding [v] (eval o X.env)
      let iv ← holding [v,ov] (eval i X.env)
      standAt pos
      holding [v,ov,iv] (setItem ov iv v)
      release [v,ov,iv] [])):DG X (.Subscript o i pos) [] (Xe mo mi):=by
  refine aL (Aea ho.x hi.x set_list ha) ?_;rintro v σ H Q ⟨d,loc,mh,ρ,loc',mh',q,rl,rs,r,co⟩;unfold Xe at q;split at q
  · rename_i od m1 eo;split at q
    · rename_i idx m2 ei;split at q
      · rename_i m3 es;cases q;refine ⟨loc,mh,ρ,od,m1,eo,rl,rs,λH1 ρ1 v1 e1 rs1 r1=>⟨loc,m1,ρ1,idx,m2,ei,rl.mono e1,rs1,λH2 ρ2 v2 e2 rs2 r2=>?_⟩⟩;obtain ⟨n,k,ds,j,rfl,rfl,em,ej,rfl⟩:=aM es;have r':=(r.mono e1).mono e2;cases r1.mono e2 with
        | @ref _ a hn =>
          cases r2;obtain ⟨a',ha',xs,hx,rx⟩:=rs2.at em;rw [hn] at ha';cases ha';refine ⟨a,xs,k,j,rfl,rfl,hx,by rw [← rx.length];exact ej,?_⟩;exact co _ ρ2 σ ((e1.trans e2).trans (Ev.lst hx)) (rs2.setL hn hx (rx.set r' j)) (((rl.mono e1).mono e2).mono (Ev.lst hx)) ⟨rfl,λ_ _=>rfl⟩
      · cases q
    · cases q
  · cases q
noncomputable def Aq (me:DM D) (g:GM):SM:=λloc mh=>match me loc mh with
 | some (d,h)=>match g d loc h with
  | some (l,h')=>some (.nx,l,h')
  | none=>none
 | none=>none
theorem Xf {ws:List Nat}{g:GM}{N:Ends}{σ:St}{H:Hp}(h:tS X.K (Aq me g) N σ H):Aeb (tDx X.K me) (tG X.K ws g) N σ H:=by
 obtain ⟨loc,mh,ρ,f,loc',mh',q,rl,rs,co⟩:=h;unfold Aq at q;split at q
 ·rename_i d h1 ee;split at q
  ·rename_i l h2 eg;cases q;exact ⟨loc,mh,ρ,d,h1,ee,rl,rs,λH1 ρ1 v e1 rs1 r1=>⟨d,loc,h1,ρ1,_,_,eg,rl.mono e1,rs1,r1,λH2 ρ2 σ2 e2 rs2 rl2 _=>co H2 ρ2 σ2 (e1.trans e2) rs2 rl2⟩⟩
  ·cases q
 ·cases q
theorem aN {tg:Expr}{ws:List Nat}{g:GM}(he:DE X e me) (hg:DG X tg ws g) (hs:swapsWithSole [tg] e pos.line X.env=pure false) (hw:swappedStores [tg] e X.env=pure none) (h1:(assignEach [tg] X.env).map (·.2)=[assign tg X.env]):DS X (.Assign [tg] e pos) (Aq me g) :=
 G8 (Aec he.x hg hs hw h1) λN σ H h=>Xf h
noncomputable def O7 (src:Src) (g:GM) (body:SM):Nat->Nat->SM
 | 0,i,loc,mh=>if src.stop mh i=true then some (.nx,loc,mh) else none
 | k+1,i,loc,mh=>match src.get mh i with
  | none=>if src.stop mh i=true then some (.nx,loc,mh) else none
  | some d=>match g d loc mh with
   | none=>none
   | some (l1,h1)=>match body l1 h1 with
    | some (.nx,l,h)=>O7 src g body k (i+1) l h
    | some (.ct,l,h)=>O7 src g body k (i+1) l h
    | some (.bk,l,h)=>some (.nx,l,h)
    | some (.rt d,l,h)=>some (.rt d,l,h)
    | none=>none
noncomputable def Hr (mi:DM Src) (g:GM) (body:SM):SM:=λloc mh=>match mi loc mh with
 | some (src,h)=>O7 src g body (src.items h).length 0 loc h
 | none=>none
theorem Afq {tg iter:Expr}{body:List Stmt}{mi:DM Src}{ws:List Nat}{g:GM}{mb:SM}(hp:PassesOwn (model X.prog X.w) X.A X.env X.xe) (hc:X.calm=true) (hi:DI X tg iter mi) (hg:DG X tg ws g) (hb:DSs X body mb)
  (hs:∀ x,foldedSetIterable iter X.env x=pure x):DS X (.For tg iter body [] pos) (Hr mi g mb):=by
 refine G8 (Aef hp hc hi.x hg hb hs) ?_;rintro N σ H ⟨loc,mh,ρ,f,loc',mh',q,rl,rs,co⟩;unfold Hr at q;split at q
 ·rename_i src h0 ei;refine ⟨loc,mh,ρ,src,h0,ei,rl,rs,λH1 ρ1 J e1 rs1 jr=>?_⟩
  refine ⟨λi k σ H=>∃ ρ loc mh f loc' mh',Ev X.K H1 ρ1 H ρ/\RL X.K H ρ loc σ/\RS X.K H ρ mh/\O7 src g mb k i loc mh=some (f,loc',mh')/\CoS X.K H ρ f loc' mh' N,
   ⟨_,ρ1,loc,h0,f,loc',mh',Ev.refl,rl.mono e1,rs1,q,co.ev e1⟩,?_⟩
  rintro i k σ H ⟨ρ,loc,mh,f,loc',mh',ev,rl,rs,q,co⟩;have stop:(if src.stop mh i=true then some (Fl.nx,loc,mh) else none)=some (f,loc',mh')->J.stop i H/\N.nx σ H:=λq=>by
   split at q
   ·rename_i hst;cases q;exact ⟨jr.stop H ρ mh i ev rs hst,co H ρ σ Ev.refl rs rl⟩
   ·cases q
  cases k with
  | zero=>exact .inl (stop q)
  | succ k =>
   simp only [O7] at q;split at q
   ·exact .inl (stop q)
   ·rename_i d ed;obtain ⟨hgo,hyld⟩:=jr.go H ρ mh i d ev rs ed;split at q
    ·cases q
    ·rename_i l1 h1 eg
     refine .inr ⟨hgo,λσ' H'=>∃ ρ' loc mh f loc' mh',Ev X.K H1 ρ1 H' ρ'/\RL X.K H' ρ' loc σ'/\RS X.K H' ρ' mh/\O7 src g mb k (i+1) loc mh=some (f,loc',mh')/\CoS X.K H' ρ' f loc' mh' N,
      λσ' H' h=>⟨k,qz _,h⟩,λx H' hy=>?_⟩
     obtain ⟨ev2,rs2,rd2⟩:=hyld x H' hy;refine ⟨d,loc,mh,ρ,l1,h1,eg,rl.mono ev2,rs2,rd2,λH3 ρ3 σ3 ev3 rs3 rl3 _=>?_⟩;split at q
     ·rename_i l h eb;exact ⟨l1,h1,ρ3,.nx,l,h,eb,rl3,rs3,λH4 ρ4 σ4 ev4 rs4 rl4=>⟨ρ4,l,h,f,loc',mh',ev.trans (ev2.trans (ev3.trans ev4)),rl4,rs4,q,co.ev (ev2.trans (ev3.trans ev4))⟩⟩
     ·rename_i l h eb;exact ⟨l1,h1,ρ3,.ct,l,h,eb,rl3,rs3,λH4 ρ4 σ4 ev4 rs4 rl4=>⟨ρ4,l,h,f,loc',mh',ev.trans (ev2.trans (ev3.trans ev4)),rl4,rs4,q,co.ev (ev2.trans (ev3.trans ev4))⟩⟩
     ·rename_i l h eb;cases q;exact ⟨l1,h1,ρ3,.bk,_,_,eb,rl3,rs3,λH4 ρ4 σ4 ev4 rs4 rl4=>co H4 ρ4 σ4 (ev2.trans (ev3.trans ev4)) rs4 rl4⟩
     ·rename_i d' l h eb;cases q;exact ⟨l1,h1,ρ3,.rt d',_,_,eb,rl3,rs3,λH4 ρ4 v4 ev4 rs4 r4=>co H4 ρ4 v4 (ev2.trans (ev3.trans ev4)) rs4 r4⟩
     ·cases q
 ·cases q
end
section
variable {X:Cx}{pos:Pos}
end
noncomputable def Nk (cs:List (Option Nat)) (loc:Loc):Loc:=cs.map λo=>match o with | some j=>(match loc[j]? with | some d=>d | none=>none) | none=>none
noncomputable def S6 (cs:List (Option Nat)) (σ:St):St:=cs.map λo=>match o with | some j=>(match σ[j]? with | some d=>d | none=>none) | none=>none
theorem Afr {K:aj}{H:Hp}{ρ:List Addr}{loc:Loc}{σ:St}(cs:List (Option Nat)) (h:RL K H ρ loc σ):RL K H ρ (Nk cs loc) (S6 cs σ):=by
 refine ⟨by unfold Nk S6;rw [ak,ak],λi d e=>?_⟩;unfold Nk at e;unfold S6;rw [cj] at e ⊢;cases q:cs[i]? with
 | none=>rw [q] at e;cases e
 | some o =>
  rw [q] at e;cases o with
  | none=>simp at e
  | some j =>
   simp only [ux,KH] at e;cases ej:loc[j]? with
   | none=>rw [ej] at e;cases e
   | some d' =>
    rw [ej] at e;have e:d'=some d:=e;subst e;obtain ⟨v,e1,r⟩:=h.2 j d ej;exact ⟨v,by simp only [ux,e1],r⟩
structure CapOk (X:Cx) (N':List Str) (scope:Scope) (cs:List (Option Nat)):Prop where
 len:N'.length=cs.length
 cap:∀ (i:Nat) (x:Str) (j:Nat),N'[i]?=some x->cs[i]?=some (some j)->scope.names.lookup x=some .free/\X.N[j]?=some x
theorem CapOk.to {X:Cx}{N':List Str}{scope:Scope}{cs:List (Option Nat)}(h:CapOk X N' scope cs) (σ:St):Cap X N' scope σ (S6 cs σ):=by
 refine ⟨by unfold S6;rw [ak];exact h.len.symm,λi x v e1 e2=>?_⟩;unfold S6 at e2;rw [cj] at e2;cases q:cs[i]? with
 | none=>rw [q] at e2;cases e2
 | some o =>
  rw [q] at e2;cases o with
  | none=>simp at e2
  | some j =>
   obtain ⟨h1,h2⟩:=h.cap i x j e1 q;refine ⟨h1,j,h2,?_⟩;simp only [ux,KH] at e2;cases ej:σ[j]? with
   | none=>rw [ej] at e2;cases e2
   | some d'=>rw [ej] at e2;have e2:d'=some v:=e2;rw [e2]
theorem Aaw {cs:List (Option Nat)}{ws:List Nat}{σ σ2:St}(hw:∀ i∈ws,∀ j,cs[i]?≠some (some j)) (h:J5 ws (S6 cs σ) σ2):Kept (S6 cs σ) σ2:=by
 refine ⟨h.1,λi v e=>?_⟩;rw [h.2 i λhi=>?_]
 ·exact e
 ·unfold S6 at e;rw [cj] at e;cases q:cs[i]? with
  | none=>rw [q] at e;cases e
  | some o =>
   cases o with
   | none=>rw [q] at e;simp at e
   | some j=>exact hw i hi j q
noncomputable def Ky (src:Src) (g:GM) (tc:DM Bool) (me:DM D) (loc:Loc):Nat->Nat->List D->MH->Option (List D×MH)
 | 0,i,acc,mh=>if src.stop mh i=true then some (acc,mh) else none
 | k+1,i,acc,mh=>match src.get mh i with
  | none=>if src.stop mh i=true then some (acc,mh) else none
  | some d=>match g d loc mh with
   | none=>none
   | some (l1,h1)=>match tc l1 h1 with
    | none=>none
    | some (c,h2)=>if c=true then (match me l1 h2 with
      | some (y,h3)=>if acc.length < sizeLine then Ky src g tc me loc k (i+1) (acc++[y]) h3 else none
      | none=>none) else Ky src g tc me loc k (i+1) acc h2
noncomputable def Bp (mi:DM Src) (cs:List (Option Nat)) (g:GM) (tc:DM Bool) (me:DM D):DM D:=λloc mh=>match mi loc mh with
 | some (src,h)=>match Ky src g tc me (Nk cs loc) (src.items h).length 0 [] h with
  | some (ds,h')=>some (.ref h'.length,h'++[.lst ds])
  | none=>none
 | none=>none
section
variable {X:Cx}{N':List Str}{scope:Scope}{cs:List (Option Nat)}{ws:List Nat}{mi:DM Src}{g:GM}{tc:DM Bool}{me:DM D}{elt target iter:Expr}{ifs:List Expr}{pos:Pos}
theorem Xg (hcap:CapOk X N' scope cs) (hw:∀ i∈ws,∀ j,cs[i]?≠some (some j)) {σ:St}{H:Hp}{Q:VK}(h:tDx X.K (Bp mi cs g tc me) σ H Q) :
  pG X N' scope (tIx X.K mi) (tG X.K ws g) (tTx X.K tc) (tDx X.K me) σ H Q:=by
 obtain ⟨loc,mh,ρ,d,mh',q,rl,rs,co⟩:=h;unfold Bp at q;split at q
 ·rename_i src h0 ei;split at q
  ·rename_i ds h1 ec;cases q;refine ⟨loc,mh,ρ,src,h0,ei,rl,rs,λH1 ρ1 J e1 rs1 jr=>?_⟩;refine ⟨S6 cs σ,hcap.to σ,λi k acc H=>∃ ρ accD mh,Ev X.K H1 ρ1 H ρ/\RS X.K H ρ mh/\RDs X.K H ρ accD acc/\Ky src g tc me (Nk cs loc) k i accD mh=some (ds,h1),⟨_,ρ1,[],h0,Ev.refl,rs1,.nil,ec⟩,?_⟩;have co1:=co.ev e1;have rl1:=Afr cs (rl.mono e1);rintro i k acc H ⟨ρ,accD,mh,ev,rs,ra,q⟩;have stop:(if src.stop mh i=true then some (accD,mh) else none)=some (ds,h1)->J.stop i H/\∀ p,H p=none->Q (.ref p) (upd H p (.lst acc)):=λq=>by
    split at q
    ·rename_i hst;cases q;exact ⟨jr.stop H ρ _ i ev rs hst,Co.newL rs ra (co1.ev ev)⟩
    ·cases q
   cases k with
   | zero=>exact .inl (stop q)
   | succ k =>
    simp only [Ky] at q;split at q
    ·exact .inl (stop q)
    ·rename_i d ed;obtain ⟨hgo,hyld⟩:=jr.go H ρ mh i d ev rs ed;split at q
     ·cases q
     ·rename_i l1 h2 eg;refine .inr ⟨hgo,λacc' H'=>∃ ρ accD mh,Ev X.K H1 ρ1 H' ρ/\RS X.K H' ρ mh/\RDs X.K H' ρ accD acc'/\Ky src g tc me (Nk cs loc) k (i+1) accD mh=some (ds,h1),λacc' H' h=>⟨k,qz _,h⟩,λx H' hy=>?_⟩;obtain ⟨ev2,rs2,rd2⟩:=hyld x H' hy;refine ⟨d,Nk cs loc,mh,ρ,l1,h2,eg,rl1.mono (ev.trans ev2),rs2,rd2,λH3 ρ3 σ3 ev3 rs3 rl3 kb=>⟨Aaw hw kb,?_⟩⟩;split at q
      ·cases q
      ·rename_i c h3 et;refine ⟨l1,h2,ρ3,c,h3,et,rl3,rs3,λH4 ρ4 ev4 rs4=>?_⟩;have evA:=ev2.trans (ev3.trans ev4);cases c with
       | false =>
        rw [if_neg kj] at q;exact W2 ⟨ρ4,accD,h3,ev.trans evA,rs4,ra.mono evA,q⟩
       | true =>
        rw [if_pos rfl] at q;split at q
        ·rename_i y h4 ey;split at q
         ·rename_i hz;refine W3 ⟨by rw [← ra.length];exact hz,l1,h3,ρ4,y,h4,ey,rl3.mono ev4,rs4,λH5 ρ5 v ev5 rs5 r5=>⟨ρ5,accD++[y],h4,ev.trans (evA.trans ev5),rs5,(ra.mono (evA.trans ev5)).append (.cons r5 .nil),q⟩⟩
         ·cases q
        ·cases q
  ·cases q
 ·cases q
noncomputable def DIf (X:Cx) (ifs:List Expr) (m:DM Bool):Prop:=PIf X ifs (tTx X.K m)
theorem Aax:DIf X [] (Zr true):=by
 rintro pins s σ H Q I ⟨loc,mh,ρ,b,mh',q,rl,rs,co⟩;cases q;exact Aac pins s σ H Q I (co H ρ Ev.refl rs)
theorem Aay {c:Expr}{m:DM Bool}(h:DT X c m):DIf X [c] m:=Aad h.x
theorem Aaz (hc:X.calm=true) (S:CompOk X scope) (hcap:CapOk X N' scope cs) (hw:∀ i∈ws,∀ j,cs[i]?≠some (some j)) (hit:DI X target iter mi)
  (hg:∀ pins C cells s₀ H₀ fp,DG (Dc X pins N' scope C cells s₀ H₀ fp) target ws g)
  (hi:∀ pins C cells s₀ H₀ fp,DIf (Dc X pins N' scope C cells s₀ H₀ fp) ifs tc)
  (he:∀ pins C cells s₀ H₀ fp,DE (Dc X pins N' scope C cells s₀ H₀ fp) elt me)
  (hs:∀ x,foldedSetIterable iter X.env x=pure x):DE X (.ListComp elt [⟨target,iter,ifs,0⟩] scope pos) (Bp mi cs g tc me):=λloc mh =>
 Br (Aae (N':=N') (g:=tG X.K ws g) (tc:=tTx X.K tc) (te:=tDx X.K me) hc S hit.x (λp C c s h f=>hg p C c s h f) (λp C c s h f=>hi p C c s h f) (λp C c s h f=>(he p C c s h f).x) hs) λσ H Q h=>Xg hcap hw ⟨loc,mh,h⟩
theorem aO {y:Str}{py spos:Pos}{wy:List Nat}{gy:GM}(hc:X.calm=true) (S:CompOk X scope) (hcap:CapOk X N' scope cs) (hw:∀ i∈ws,∀ j,cs[i]?≠some (some j)) (hit:DI X target iter mi)
  (hg:∀ pins C cells s₀ H₀ fp,DG (Dc X pins N' scope C cells s₀ H₀ fp) target ws g)
  (hi:∀ pins C cells s₀ H₀ fp,DIf (Dc X pins N' scope C cells s₀ H₀ fp) ifs tc)
  (he:∀ pins C cells s₀ H₀ fp,DE (Dc X pins N' scope C cells s₀ H₀ fp) elt me) (hgy:DG X (.Name y py) wy gy)
  (hsw:swapsWith (.ListComp elt [⟨target,iter,ifs,0⟩] scope pos) (some (.Name y py)) spos.line X.env=pure true)
  (hs:∀ x,foldedSetIterable iter X.env x=pure x):DS X (.Assign [.Name y py] (.ListComp elt [⟨target,iter,ifs,0⟩] scope pos) spos) (Aq (Bp mi cs g tc me) gy) :=
 G8 (aD (N':=N') (g:=tG X.K ws g) (tc:=tTx X.K tc) (te:=tDx X.K me) hc S hit.x (λp C c s h f=>hg p C c s h f) (λp C c s h f=>hi p C c s h f) (λp C c s h f=>(he p C c s h f).x) hgy hsw hs) λN σ H h=>Xg hcap hw (Xf h)
end
noncomputable def spD (K:aj) (n:Nat) (f:List D->MH->Option (D×MH)):Sp:=λvs H Q _=>vs.length=n/\rDs K f vs H Q
section
variable {X:Cx}
theorem Aa0 {CX:CXT}{k:Nat}{fa:Addr}{fd:FuncData}{ps:List Str}{f:List D->MH->Option (D×MH)}{x:Str}{p pos:Pos}{a:Expr}{es:List Expr}{mr:DM (List D)}{E:XK}
  (F:FnOk X.prog X.w X.K X.mg X.base CX k fa fd ps (spD X.K ps.length f)) (hr:Room k X.A) (hg:Gl X x) (hm:X.mg x=some (.ref fa)) (hk:ug X.K (.ref fa)=true) (hb:Binds X.K fd ps []) (hx:Du CX X E)
  (ha:DA X (a::es) mr) (hf:∀ ds mh r,f ds mh=some r->ds.length=ps.length) (hdb:(x==("__debug__":Str))=false) (he:starEach (a::es) X.env=(false,eval a X.env)::starEach es X.env) (hpl:(backTo pos (starEach es X.env)).any (·.1)=false) :
  DE X (.Call (.Name x p) (a::es) [] pos) (mr.bnd λds=>Zl (f ds)):=λloc mh=>by
 refine Br (zN F hr hg hm hk hb .nil hx (ha loc mh) hdb he hpl) ?_;rintro σ H Q ⟨ρ,d,mh',q,rl,rs,co⟩;obtain ⟨ds,m1,ea,q⟩:=Ao q;refine ⟨ρ,ds,m1,ea,rl,rs,λH1 ρ1 vs e1 rs1 r1=>?_⟩;show spD X.K ps.length f (vs++[]) H1 Q E;rw [yc];exact ⟨by rw [← r1.length];exact hf _ _ _ q,ρ1,m1,ds,d,mh',q,rs1,r1,co.ev e1⟩
theorem pZ {CX:CXT}{k:Nat}{fa:Addr}{fd:FuncData}{f:List D->MH->Option (D×MH)}{x:Str}{p pos:Pos}{E:XK}
  (F:FnOk X.prog X.w X.K X.mg X.base CX k fa fd [] (spD X.K 0 f)) (hr:Room k X.A) (hg:Gl X x) (hm:X.mg x=some (.ref fa)) (hk:ug X.K (.ref fa)=true) (hb:Binds X.K fd [] []) (hx:Du CX X E) (hdb:(x==("__debug__":Str))=false) :
  DE X (.Call (.Name x p) [] [] pos) (Zl (f [])):=λloc mh=>by
 refine Br (oO F hr hg hm hk hb .nil hx hdb) ?_;rintro σ H Q ⟨ρ,d,mh',q,rl,rs,co⟩;exact ⟨rfl,ρ,mh,[],d,mh',q,rs,.nil,co⟩
noncomputable def Xh (c:String) (x:D) (mh:MH):Option (D×MH):=match pU x mh with
 | some t=>match Afl t c with
  | some b=>some (.bl b,mh)
  | none=>none
 | none=>none
theorem qC {c:String}(hc:c∈["bool", "int", "str", "tuple", "list", "dict"]):Bt X (.builtin "isinstance") (λxs H Q=>∃ v,xs=[v,.ty c]/\rD1 X.K (Xh c) v H Q):=by
 rintro pins s σ H xs us Q I r ⟨v,e,ρ,mh,dx,d,mh',q,rs,rd,co⟩;subst e;obtain ⟨u,w',rfl,r1,r2⟩:=Vals.two r;cases (show w'=Value.type c from r2);unfold Xh at q;split at q
 ·rename_i t et;split at q
  ·rename_i b eb;cases q;have fin:∀ tk,EP X pins σ Q (.bool b) { s with toks:=tk }:=λtk=>⟨.bl b,H,I.tok tk,rfl,co H ρ _ Ev.refl rs (.bl b)⟩
   cases rd with
   | non=>cases et;cases (show u=Value.none from r1);exact yg PySem.W.kitx_none I.kIn True.intro (Ih (by decide) hc eb) (λz=>nomatch z) fin
   | bl y=>cases et;cases (show u=Value.bool y from r1);exact yg PySem.W.kitx_bool I.kIn True.intro (Ih (by decide) hc eb) (λz=>nomatch z) fin
   | int i=>cases et;obtain ⟨t,q⟩:=(show ∃ t,u=Value.int i t from r1);cases q;exact yg PySem.W.kitx_int I.kIn True.intro (Ih (by decide) hc eb) (λz=>nomatch z) fin
   | str y=>cases et;obtain ⟨t,q⟩:=(show ∃ t,u=Value.str y t from r1);cases q;exact yg PySem.W.kitx_str I.kIn True.intro (Ih (by decide) hc eb) (λz=>nomatch z) fin
   | @tup ds a xs sq r =>
    cases et;cases (show u=Value.ref a from r1);obtain ⟨its,_,⟨o,h1,h2,_⟩,_⟩:=I.tuple sq;exact yg PySem.W.kitx_tuple I.kIn ⟨o,h1,h2⟩ (Ih (by decide) hc eb) (λz=>nomatch z) fin
   | obj n s l r=>cases et
   | fn h=>cases et
   | lam h=>cases et
   | clo=>cases et
   | @rol ds a xs sq r =>
    cases et;cases (show u=Value.ref a from r1);obtain ⟨its,_,⟨ob,n',h1,h2,_⟩,_⟩:=I.list sq.sq;exact yg VN I.kIn ⟨ob,h1,h2⟩ (Ih (by decide) hc eb) (λz=>nomatch z) fin
   | @ref n a h =>
    have et:(match mh[n]? with | some (.lst _)=>some "list" | _=>none)=some t:=et;split at et
    ·rename_i o eo;cases et;cases (show u=Value.ref a from r1);obtain ⟨a',ha,ro⟩:=rs.at eo;rw [h] at ha;cases ha;obtain ⟨xs,sq,_⟩:=ro.read;obtain ⟨its,_,⟨ob,n',h1,h2,_⟩,_⟩:=I.list sq;exact yg VN I.kIn ⟨ob,h1,h2⟩ (Ih (by decide) hc eb) (λz=>nomatch z) fin
    ·cases et
  ·cases q
 ·cases q
theorem Afs {c:Str}{T:String}{p p2 pos:Pos}{a:Expr}{ma:DM D}(hT:T∈["bool", "int", "str", "tuple", "list", "dict"]) (hg:Gl X "isinstance") (hm:X.mg "isinstance"=none) (hg2:Gl X c) (hm2:X.mg c=none) (hv2:bootBuiltins c=some (.type T)) (hn2:c ≠ "__name__") (hd2:(c==("__debug__":Str))=false) (ha:DE X a ma)
  (he:starEach (a::[.Name c p2]) X.env=(false,eval a X.env)::starEach [.Name c p2] X.env):DE X (.Call (.Name "isinstance" p) [a,.Name c p2] [] pos) (ma.bnd λx=>Zl (Xh T x)):=λloc mh=>by
 refine Br (Qn (qC hT) hg hm boot_isinstance (Ea (ha loc mh) (Ea (yU hg2 hm2 hv2 (v:=.ty T) rfl hn2 hd2) G4) he) (by decide) (by decide) he) ?_;rintro σ H Q ⟨ρ,d,mh',q,rl,rs,co⟩;obtain ⟨x,m1,ea,q⟩:=Ao q;exact ⟨ρ,x,m1,ea,rl,rs,λH1 ρ1 v e1 rs1 r1=>⟨v,rfl,ρ1,m1,x,d,mh',q,rs1,r1,co.ev e1⟩⟩
end
section
variable {X:Cx}{a b c e o:Expr}{ma mb mc mo:DM D}{pos:Pos}
noncomputable def G9 (f f':D->D->MH->Option (D×MH)) (ma mb mc:DM D):DM D:=ma.bnd λx=>mb.bnd λy=>(Ah (Zl (f x y))).bnd λk=>if k=true then mc.bnd λz=>Zl (f' y z) else Zr (.bl false)
theorem T9 {f f':D->D->MH->Option (D×MH)}{σ:St}{H:Hp}{Q:VK}(h:tDx X.K (G9 f f' ma mb mc) σ H Q):Z1 (rD X.K f) (rD X.K f') (tDx X.K ma) (tDx X.K mb) (tDx X.K mc) σ H Q:=by
 obtain ⟨loc,mh,ρ,d,mh',q,rl,rs,co⟩:=h;obtain ⟨x,m1,ea,q⟩:=Ao q;obtain ⟨y,m2,eb,q⟩:=Ao q;obtain ⟨k,m3,ek,q⟩:=Ao q;have ek:=Gg ek;refine ⟨loc,mh,ρ,x,m1,ea,rl,rs,λH1 ρ1 v1 e1 rs1 r1=>⟨loc,m1,ρ1,y,m2,eb,rl.mono e1,rs1,λH2 ρ2 v2 e2 rs2 r2=>⟨ρ2,m2,x,y,.bl k,m3,ek,rs2,r1.mono e2,r2,λH3 ρ3 v3 e3 rs3 r3=>?_⟩⟩⟩;cases r3;refine ⟨k,rfl,?_⟩;cases k with
 | true =>
  rw [if_pos rfl] at q;obtain ⟨z,m4,ec,q⟩:=Ao q;exact W3 ⟨loc,m3,ρ3,z,m4,ec,((rl.mono e1).mono e2).mono e3,rs3,λH4 ρ4 v4 e4 rs4 r4=>⟨ρ4,m4,y,z,d,mh',q,rs4,(r2.mono e3).mono e4,r4,co.ev (e1.trans (e2.trans (e3.trans e4)))⟩⟩
 | false =>
  rw [if_neg kj] at q;cases q;exact W2 (co H3 ρ3 _ (e1.trans (e2.trans e3)) rs3 (.bl false))
theorem qD {op op':CmpOp}{f f':D->D->MH->Option (D×MH)}(ho:OpR X (compareOp op) (rD X.K f)) (ho':OpR X (compareOp op') (rD X.K f')) (hm:lastMarks [op,op'] [b,c]=false) (ha:DE X a ma) (hb:DE X b mb) (hc:DE X c mc) :
  DE X (.Compare a [op,op'] [b,c] pos) (G9 f f' ma mb mc):=λloc mh=>Br (oH ho ho' ha.x hb.x hc.x hm) λσ H Q h=>T9 ⟨loc,mh,h⟩
theorem qF {op op':CmpOp}{f f':D->D->MH->Option (D×MH)}(ho:OpR X (compareOp op) (rD X.K f)) (ho':OpR X (compareOp op') (rD X.K f')) (hm:lastMarks [op,op'] [b,c]=false) (ha:DE X a ma) (hb:DE X b mb) (hc:DE X c mc) :
  DT X (.Compare a [op,op'] [b,c] pos) (Ah (G9 f f' ma mb mc)):=by
 refine λloc mh=>Vh (oJ ho ho' ha.x hb.x hc.x hm) ?_
 rintro σ H Q ⟨ρ,k,mh',q,rl,rs,co⟩;have q:=Gg q;exact T9 ⟨loc,mh,ρ,_,_,q,rl,rs,λH' ρ' v e' rs' r'=>by cases r';exact ⟨k,rfl,co H' ρ' e' rs'⟩⟩
noncomputable def rDM (K:aj) (f:D->List D->MH->Option (D×MH)):V->List V->Hp->VK->Prop:=λx xs H Q=>∃ ρ mh dx ds d mh',f dx ds mh=some (d,mh')/\RS K H ρ mh/\RD K H ρ dx x/\RDs K H ρ ds xs/\Co K H ρ mh' d Q
noncomputable def Vk (T:String) (x:D) (mh:MH):Bool:=match x with
 | .str _=>T == "str"
 | .int _=>T == "int"
 | .ref n=>T == "list"&&(match mh[n]? with | some (.lst _)=>true | _=>false)
 | .tup _=>T == "tuple"
 | _=>false
theorem qG {K:aj}{H:Hp}{ρ:List Addr}{mh:MH}{T:String}{x:D}{v:V}(rs:RS K H ρ mh) (r:RD K H ρ x v) (h:Vk T x mh=true):tyV K T v H:=by
 cases r with
 | str z=>exact dj h
 | int i=>exact dj h
 | @ref n a hn =>
  have h:(T == "list"&&(match mh[n]? with | some (.lst _)=>true | _=>false))=true:=h;rw [bf] at h;obtain ⟨o,eo⟩:∃ o,mh[n]?=some (.lst o):=by
   have h:=h.2;split at h
   ·exact ⟨_,‹_›⟩
   ·cases h
  obtain ⟨a',ha,ro⟩:=rs.at eo;rw [hn] at ha;cases ha;obtain ⟨xs,sq,_⟩:=ro.read;exact .inl ⟨dj h.1,xs,sq⟩
 | tup s r=>exact .inr (.inl ⟨dj h,_,s⟩)
 | _=>cases h
noncomputable def Dq (T:String) (f:D->List D->MH->Option (D×MH)) (mo:DM D) (mr:DM (List D)):DM D:=mo.bnd λx=>λloc mh=>if Vk T x mh=true then (mr.bnd λds=>Zl (f x ds)) loc mh else none
theorem Ol {T id:String}{name:Str}{apos:Pos}{es:List Expr}{mr:DM (List D)}{f:D->List D->MH->Option (D×MH)}(pa:PlainAttrs T) (slot:Slot T name id) (hty:typeOf (.builtin id)=pure (.type "method_descriptor")) (hm:MtR X id (rDM X.K f)) (ho:DE X o mo) (ha:DA X (a::es) mr)
  (hbase:attributeBase o name X.env (eval o X.env)=eval o X.env)
  (hfew:((backTo pos (starEach (a::es) X.env)).all (λx=>!x.1)&&(backToKw pos (keywordEach [] X.env)).all (λx=>x.1.isSome)
   && decide ((a::es).length+([]:List Keyword).length+(if ([]:List Keyword).isEmpty then 0 else 1) < 30))=true)
  (hline:(apos.endLine==pos.line)=true) (hs:starEach (a::es) X.env=(false,eval a X.env)::starEach es X.env) (hplain:(backTo pos (starEach es X.env)).any (·.1)=false) :
  DE X (.Call (.Attribute o name apos) (a::es) [] pos) (Dq T f mo mr):=λloc mh=>by
 cases eo:mo loc mh with
 | none =>
  have:Dq T f mo mr loc mh=none:=by unfold Dq DM.bnd;rw [eo]
  rw [this];exact Cd
 | some p =>
  obtain ⟨x,m1⟩:=p;refine Br (Ajy pa slot hty hm (ho loc mh) (ha loc m1) hbase hfew hline hs hplain) ?_;rintro σ H Q ⟨ρ,d,mh',q,rl,rs,co⟩;obtain ⟨x',m1',eo',q⟩:=Ao q;rw [eo] at eo';cases eo';split at q
  ·rename_i ht;obtain ⟨ds,m2,er,q⟩:=Ao q;exact ⟨ρ,x,m1,eo,rl,rs,λH1 ρ1 v e1 rs1 r1=>⟨qG rs1 r1 ht,ρ1,ds,m2,er,rl.mono e1,rs1,λH2 ρ2 vs e2 rs2 r2=>⟨ρ2,m2,x,ds,d,mh',q,rs2,r1.mono e2,r2,co.ev (e1.trans e2)⟩⟩⟩
  ·cases q
theorem qH {T id:String}{name:Str}{apos:Pos}{f:D->List D->MH->Option (D×MH)}(pa:PlainAttrs T) (slot:Slot T name id) (hty:typeOf (.builtin id)=pure (.type "method_descriptor")) (hm:MtR X id (rDM X.K f)) (ho:DE X o mo)
  (hbase:attributeBase o name X.env (eval o X.env)=eval o X.env) (hline:(apos.endLine==pos.line)=true):DE X (.Call (.Attribute o name apos) [] [] pos) (Dq T f mo (Zr [])):=λloc mh=>by
 refine Br (Ae1 pa slot hty hm (ho loc mh) hbase hline) ?_;rintro σ H Q ⟨ρ,d,mh',q,rl,rs,co⟩;obtain ⟨x,m1,eo,q⟩:=Ao q;split at q
 ·rename_i ht;exact ⟨ρ,x,m1,eo,rl,rs,λH1 ρ1 v e1 rs1 r1=>⟨qG rs1 r1 ht,ρ1,m1,x,[],d,mh',q,rs1,r1,.nil,co.ev e1⟩⟩
 ·cases q
theorem eE {id:String}{r r':V->List V->Hp->VK->Prop}(h:MtR X id r) (i:∀ x xs H Q,r' x xs H Q->r x xs H Q):MtR X id r':=λpins s σ H x xs v us Q I rx rs q=>h pins s σ H x xs v us Q I rx rs (i x xs H Q q)
noncomputable def Eg:D->List D->MH->Option (D×MH)
 | .ref n,[y],mh=>match mh[n]? with
  | some (.lst ds)=>if ds.length < sizeLine then some (.non,mh.set n (.lst (ds++[y]))) else none
  | _=>none
 | _,_,_=>none
theorem aP:MtR X "list.append" (rDM X.K Eg):=by
 refine eE jN ?_;rintro x xs H Q ⟨ρ,mh,dx,ds,d,mh',q,rs,rx,r,co⟩
 match ds,q with
 | [y],q =>
  obtain ⟨v,rfl,rv⟩:=O6 r;cases rx with
  | @ref n a hn =>
   have q:(match mh[n]? with | some (.lst ds)=>if ds.length < sizeLine then some (D.non,mh.set n (.lst (ds++[y]))) else none | _=>none)=some (d,mh'):=q;split at q
   ·rename_i ds em;split at q
    ·rename_i hz;cases q;obtain ⟨a',ha,us,hu,ru⟩:=rs.at em;rw [hn] at ha;cases ha;exact ⟨a,us,v,rfl,rfl,hu,by rw [← ru.length];exact hz,co _ ρ _ (Ev.lst hu) (rs.setL hn hu (ru.append (.cons rv .nil))) .non⟩
    ·cases q
   ·cases q
  | _=>cases q
 | [],q=>cases dx <;> cases q
 | _::_::_,q=>cases dx <;> cases q
noncomputable def qI:D->List D->MH->Option (D×MH)
 | .int i,[],mh=>some (.int (qg i),mh)
 | _,_,_=>none
theorem qJ:MtR X "int.bit_length" (rDM X.K qI):=by
 rintro pins s σ H x xs v us Q I rx rv ⟨ρ,mh,dx,ds,d,mh',q,rs,r1,r2,co⟩
 match ds,q with
 | [],q =>
  cases r2;cases rv;cases r1 with
  | int i =>
   cases q;obtain ⟨t,rfl⟩:=rx;exact call_int_bit_length ⟨.int _,H,I.tok _,⟨_,rfl⟩,co H ρ _ Ev.refl rs (.int _)⟩
  | _=>cases q
 | _::_,q=>cases dx <;> cases q
noncomputable def Aft:D->MH->Option (D×MH)
 | .int i,mh=>some (.int (-i),mh)
 | _,_=>none
theorem Aa1:UnR X (unaryOp .USub) (rD1 X.K Aft):=by
 rintro pins s σ H x v Q I rx ⟨ρ,mh,dx,d,mh',q,rs,r1,co⟩;cases r1 with
 | int i=>cases q;exact Aeo pins s σ H _ v Q I rx ⟨i,rfl,co H ρ _ Ev.refl rs (.int _)⟩
 | _=>cases q
end
noncomputable def Xi (xs:Array Nat):Prop:=xs.toList.Pairwise (· < ·)
theorem Xi.lt {xs:Array Nat}(h:Xi xs) {i j:Nat}{x y:Nat}(hij:i < j) (hx:xs[i]?=some x) (hy:xs[j]?=some y):x < y:=by
 obtain ⟨h1,rfl⟩:=vh.mp hx;obtain ⟨h2,rfl⟩:=vh.mp hy;have:=List.pairwise_iff_getElem.mp h i j (by simpa using h1) (by simpa using h2) hij
 simpa using this
structure Below (xs:Array Nat) (j p:Nat):Prop where
 le:p<=xs.size
 lo:∀ i x,i < p->xs[i]?=some x->x < j
 hi:∀ i x,p<=i->xs[i]?=some x->j<=x
theorem Qv {xs:Array Nat}(h:Xi xs) {j:Nat}:∀ (fuel lo hi:Nat),lo<=hi->hi<=xs.size->hi<=lo+fuel->(∀ i x,i < lo->xs[i]?=some x->x < j)->(∀ i x,hi<=i->xs[i]?=some x->j<=x)->Below xs j (SetTable.below.go xs j fuel lo hi)
 | 0,lo,hi,h1,h2,h3,a,b=>by
  have e:lo=hi:=by omega
  subst e;exact ⟨h2,a,b⟩
 | fuel+1,lo,hi,h1,h2,h3,a,b=>by
  unfold SetTable.below.go
  by_cases hl:lo < hi
  ·rw [if_pos hl];have hm:(lo+hi) / 2 < xs.size:=by omega
   have hg:xs.getD ((lo+hi) / 2) j=xs[(lo+hi) / 2]:=by simp [Array.getD,hm]
   dsimp only;rw [hg]
   by_cases hc:xs[(lo+hi) / 2] < j
   ·rw [if_pos hc];refine Qv h fuel _ _ (by omega) h2 (by omega) (λi x hi' hx=>?_) b
    by_cases e:i=(lo+hi) / 2
    ·subst e;obtain ⟨_,rfl⟩:=vh.mp hx;exact hc
    ·exact UG (h.lt (by omega) hx (yw hm)) hc
   ·rw [if_neg hc];refine Qv h fuel _ _ (by omega) (by omega) (by omega) a λi x hi' hx=>?_
    by_cases e:i=(lo+hi) / 2
    ·subst e;obtain ⟨_,rfl⟩:=vh.mp hx;exact MK hc
    ·exact dz (MK hc) (LK (h.lt (by omega) (yw hm) hx))
  ·rw [if_neg hl];have e:lo=hi:=by omega
   subst e;exact ⟨h2,a,b⟩
theorem qK {xs:Array Nat}(h:Xi xs) (j:Nat):Below xs j (SetTable.below xs j):=by
 unfold SetTable.below;exact Qv h _ _ _ (jy _) (bh _) (by omega) (λi x hi=>absurd hi (Nat.not_lt_zero _)) λi x hi hx=>by
  obtain ⟨h1,_⟩:=vh.mp hx;omega
theorem Xj {xs:Array Nat}(h:Xi xs) {j:Nat}(hn:xs[SetTable.below xs j]?≠some j):Xi (SetTable.insertAt xs (SetTable.below xs j) j):=by
 have B:=qK h j;generalize SetTable.below xs j=p at B hn;unfold Xi;rw [SetTable.toList_insertAt,List.pairwise_append];have hp:∀ (l:List Nat) (i:Nat) (x:Nat),l[i]?=some x->x∈l:=λl i x q=>gn q
 have get:∀ x,x∈xs.toList.take p->x < j:=λx hx=>by
  obtain ⟨i,hi,rfl⟩:=CT hx;rw [qd] at hi;have:xs[i]?=some (xs.toList.take p)[i]:=by
   rw [← HB,List.getElem_take,au]
  exact B.lo i _ (by omega) this
 have get2:∀ x,x∈xs.toList.drop p->j < x:=λx hx=>by
  obtain ⟨i,hi,rfl⟩:=CT hx;rw [CJ] at hi;have e:xs[p+i]?=some (xs.toList.drop p)[i]:=by
   rw [← HB,List.getElem_drop,au]
  have le:=B.hi (p+i) _ (by omega) e
  by_cases q:(xs.toList.drop p)[i]=j
  ·exfalso;rw [q] at e
   by_cases hi0:i=0
   ·subst hi0;exact hn e
   ·have hps:p < xs.size:=by
     rw [mq] at hi;omega
    have:=B.hi p _ (bh _) (yw hps);have:=h.lt (i:=p) (j:=p+i) (by omega) (yw hps) e;omega
  ·omega
 refine ⟨h.sublist (JZ _ _),List.pairwise_cons.mpr ⟨get2,h.sublist (List.drop_sublist _ _)⟩,λx hx y hy=>?_⟩;rcases gb.mp hy with rfl|hy
 ·exact get x hx
 ·exact UG (get x hx) (get2 y hy)
theorem jY {t:SetTable}{j:Nat}(h:t.slot j=.empty\/t.slot j=.dummy):t.place[SetTable.below t.place j]?≠some j:=by
 intro e;unfold SetTable.slot at h;rw [if_pos (by rw [e];exact beq_self_eq_true _)] at h;rcases h with h | h <;> cases h
theorem Kz (t:SetTable) (p:SetTable.Probe):(t.advance p).dummy=p.dummy:=by
 unfold SetTable.advance;split <;> rfl
theorem La {t:SetTable}{ha:Nat->Int}{h:Int}:∀ (fuel:Nat) (p:SetTable.Probe) (j:Nat) (d:Option Nat),(∀ x,p.dummy=some x->t.slot x=.dummy)->SetTable.probe.go t ha h fuel p=some (.empty j d) ->
  t.slot j=.empty/\∀ x,d=some x->t.slot x=.dummy
 | 0,p,j,d,_,e=>by cases e
 | fuel+1,p,j,d,hd,e=>by
  unfold SetTable.probe.go at e;cases hs:t.slot p.j with
  | empty =>
   simp only [hs] at e;cases e;exact ⟨hs,hd⟩
  | dummy =>
   simp only [hs] at e;refine La fuel _ j d (λx hx=>?_) e;rw [Kz] at hx;cases hx;exact hs
  | live i =>
   simp only [hs] at e;split at e
   ·cases e
   ·exact La fuel _ j d (λx hx=>hd x (by rw [Kz] at hx;exact hx)) e
structure Good (b:Bool) (t:SetTable):Prop where
 led:t.led=b
 rise:t.plain=true->Xi t.place
theorem Good.off {b:Bool}{t:SetTable}(h:Good b t):Good b { t with plain:=false }:=⟨h.led,λz=>by cases z⟩
theorem Good.stand {b:Bool}{t:SetTable}(h:Good b t) (n:Nat):Good b (t.standIn n):=⟨h.led,λz=>by cases z⟩
theorem Good.orStand {b:Bool}{t:SetTable}(h:Good b t) (n:Nat):Good b (t.orStandIn n):=by
 unfold SetTable.orStandIn;split
 ·exact h
 ·exact h.stand n
theorem qL {b:Bool}{t:SetTable}(g:Good b t) (es:Array (Int×Value)) (h:Int) (x:Value):Good b (layNew t es h x).2.1:=by
 unfold layNew;cases hf:t.freeSlot h with
 | none=>exact g.stand _
 | some q =>
  obtain ⟨slot,wd⟩:=q;show Good b ((t.put slot).1.orStandIn (SetTable.insertAt es (t.put slot).2 (h,x)).size);refine Good.orStand (t:=(t.put slot).1) ⟨g.led,λhp=>Xj (j:=slot) (g.rise hp) (jY ?_)⟩ _;unfold SetTable.freeSlot at hf;unfold SetTable.probe at hf;split at hf
  ·rename_i j d e;cases hf;obtain ⟨h1,h2⟩:=La _ _ _ _ (λx hx=>by cases hx) e;cases d with
   | none=>exact .inl h1
   | some y=>exact .inr (h2 y rfl)
  ·cases hf
theorem jZ (n:Nat) (f:Nat->Option Nat):(((dm n).filterMap λj=>(f j).map (j,·)).map (·.1)).Pairwise (· < ·):=by
 have e:((dm n).filterMap λj=>(f j).map (j,·)).map (·.1)=(dm n).filter λj=>(f j).isSome:=by
  rw [List.map_filterMap]
  induction dm n with
  | nil=>rfl
  | cons a r ih =>
   rw [qt,NP,ih];cases f a <;> rfl
 rw [e];exact List.pairwise_lt_range.filter _
theorem aQ {b:Bool}{t:SetTable}(g:Good b t) (es:Array (Int×Value)) (n:Nat):Good b (relayAll t es n).2.1:=by
 unfold relayAll;cases hr:t.relaid (es.map (·.1)) n with
 | none=>exact g.stand _
 | some q =>
  obtain ⟨t',order⟩:=q;dsimp only;split
  ·unfold SetTable.relaid SetTable.laid at hr;cases ho:SetTable.layClean (SetTable.sizeAbove n - 1) (es.map (·.1)) with
   | none=>rw [ho] at hr;cases hr
   | some owner =>
    rw [ho] at hr;cases hr;exact ⟨g.led,λ_=>jZ _ _⟩
  ·exact g.stand _
theorem aR (b:Bool):Good b (.fresh 0 0 b):=⟨rfl,λ_=>List.Pairwise.nil⟩
section
variable {P:Program}{w:World}
structure SetD (P:Program) (w:World) (o:Obj) (es:Array (Int×Value)) (ep:Nat) (t:SetTable) (S:Int->Bool) (n:Nat):Prop where
 ex:o.ExactSet
 dt:o.data=.set es ep t
 el:ElemsOf (intKind P w) es.toList
 mem:∀ k,S k=true ↔ ∃ e∈es.toList,(intKind P w).is k e.2=true
 few:es.size < scanBound
 fit:t.fits es.size=true
 sz:es.size=n
 good:Good (!w.params.followText "set-order") t
noncomputable def Ii (P:Program) (w:World) (h:Heap) (a:Addr) (S:Int->Bool) (n:Nat):Prop:=∃ o es ep t,h.get? a=some o/\SetD P w o es ep t S n
theorem Ii.stay {h h':Heap}{a:Addr}{S:Int->Bool}{n:Nat}(g:Ii P w h a S n) (k:∀ o,h.get? a=some o->h'.get? a=some o):Ii P w h' a S n:=by
 obtain ⟨o,es,ep,t,e,d⟩:=g;exact ⟨o,es,ep,t,k o e,d⟩
theorem Ii.congr {h:Heap}{a:Addr}{S S':Int->Bool}{n n':Nat}(g:Ii P w h a S n) (e:∀ k,S k=S' k) (en:n=n'):Ii P w h a S' n':=by
 have:S=S':=funext e;subst this;subst en;exact g
variable {A:Around}{E:Value->Shared->Prop}{s:Shared}
theorem Xk {h:Heap}{a:Addr}{o:Obj}{es:Array (Int×Value)}{ep:Nat}{t:SetTable}{S:Int->Bool}{n:Nat}{es':Array (Int×Value)}{t':SetTable}{S':Int->Bool}(e:h.get? a=some o) (d:SetD P w o es ep t S n)
  (h1:ElemsOf (intKind P w) es'.toList) (h2:∀ k,S' k=true ↔ ∃ e∈es'.toList,(intKind P w).is k e.2=true) (h3:es'.size < scanBound) (h4:t'.fits es'.size=true) (h5:Good (!w.params.followText "set-order") t') :
  ∃ o',(h.update a (Obj.putSet es' t')).get? a=some o'/\SetD P w o' es' (ep+1) t' S' es'.size:=by
 refine ⟨{ o with data:=.set es' (ep+1) t' },?_,d.ex,rfl,h1,h2,h3,h4,rfl,h5⟩;have z:=GX (Obj.putSet es' t') e (by rw [putSet_of es' t' d.dt];rfl)
 rwa [putSet_of es' t' d.dt] at z
theorem Ua {g:Bool->Sem Unit}(hg:∀ (b:Bool) (s₁:Shared) (Q':Unit->Shared->Prop),Q' () s₁->wpAny (model P w) A (g b) Q' E s₁) {a:Addr}{o:Obj}{es es1:Array (Int×Value)}{ep:Nat}{t t2:SetTable}{S S':Int->Bool}{n:Nat}{wd:Bool}
  (e:s.heap.get? a=some o) (d:SetD P w o es ep t S n) (h1:ElemsOf (intKind P w) es1.toList) (h2:∀ k,S' k=true ↔ ∃ e∈es1.toList,(intKind P w).is k e.2=true) (h3:es1.size < scanBound) (h4:t2.fits es1.size=true) (h5:Good (!w.params.followText "set-order") t2)
  {R:Option Bool->Shared->Prop} (hR:∀ h',vd a s.heap h'->Ii P w h' a S' es1.size->R (some true) { s with heap:=h' }) :
  wpAny (model P w) A (storeSet a es1 t2 >>= λ_=>if (!wd&&t2.tooFull)=true then (g (relayAll t2 es1 (SetTable.grown es1.size)).2.2 >>= λ_=>storeSet a (relayAll t2 es1 (SetTable.grown es1.size)).1 (relayAll t2 es1 (SetTable.grown es1.size)).2.1 >>= λ_=>pure (some true)) else pure (some true)) R E s:=by
 obtain ⟨o1,e1,d1⟩:=Xk e d h1 h2 h3 h4 h5;refine aq (VP e d.dt ?_ (VR h3))
 by_cases hc:(!wd&&t2.tooFull)=true
 ·rw [if_pos hc];have rp:=relayAll_perm t2 es1 (SetTable.grown es1.size);have rf:=relayAll_fits t2 es1 (SetTable.grown es1.size);have rg:=aQ h5 es1 (SetTable.grown es1.size);generalize relayAll t2 es1 (SetTable.grown es1.size)=z at rp rf rg;obtain ⟨es2,t3,gv⟩:=z;have sz:es2.size=es1.size:=by rw [← mq,← mq];exact rp.length_eq
  refine aq (hg _ _ _ (aq (VP e1 d1.dt ?_ (VR (by rw [sz];exact h3)))));obtain ⟨o2,e2,d2⟩:=Xk e1 d1 (h1.perm rp) (λk=>(h2 k).trans ⟨λ⟨x,hx,q⟩=>⟨x,rp.mem_iff.mpr hx,q⟩,λ⟨x,hx,q⟩=>⟨x,rp.mem_iff.mp hx,q⟩⟩) (by rw [sz];exact h3) rf rg;refine cu (hR _ ((zp s.heap a _).trans (zp _ a _)) ⟨o2,es2,ep+1+1,t3,e2,?_⟩);rw [← sz];exact d2
 ·rw [if_neg hc];exact cu (hR _ (zp s.heap a _) ⟨o1,es1,_,t2,e1,d1⟩)
theorem qM {a:Addr}{S:Int->Bool}{n:Nat}{k:Int}{x:Value}{Q:Bool->Shared->Prop}(hk:(intKind P w).is k x=true) (hx:x.scannable=true) (g:Ii P w s.heap a S n) (hr:n+1 < scanBound)
  (h:∀ h',vd a s.heap h'->Ii P w h' a (λj=>S j || decide (j=k)) (if S k then n else n+1)->Q (!S k) { s with heap:=h' }):wpAny (model P w) A (setAddHashed a x ((intKind P w).hash k)) Q E s:=by
 obtain ⟨o,es,ep,t,e,d⟩:=g;have few1:es.size+1 < scanBound:=by rw [d.sz];exact hr
 unfold setAddHashed setAddHashedIn;refine wu (aq (wpAny_setState_of e d.dt d.fit ?_));dsimp only;rw [if_pos (byScan_of hx d.few d.el)];unfold setAddByScan;refine aq (aq (KR (aq (wpAny_setScan_of hk e d.dt d.fit d.el ?_))));cases hf:es.toList.findIdx? λe=>(intKind P w).is k e.2 with
 | some j =>
  obtain ⟨hj,hpj,_⟩:=GF.mp hf;have hS:S k=true:=(d.mem k).mpr ⟨_,ni hj,hpj⟩
  have z:=h s.heap (Heap.SameBut.refl a s.heap) ⟨o,es,ep,t,e,d.ex,d.dt,d.el,λj=>by
   rw [wg,decide_eq_true_eq,← d.mem j]
   exact ⟨λq=>q.elim id λe=>by rw [e];exact hS,.inl⟩,d.few,d.fit,by rw [if_pos hS];exact d.sz,d.good⟩
  rw [hS] at z;exact cu (cu z)
 | none =>
  have hS:S k=false:=by
   cases q:S k with
   | false=>rfl
   | true =>
    obtain ⟨y,hy,hp⟩:=(d.mem k).mp q;have:=List.findIdx?_eq_none_iff.mp hf y hy;rw [hp] at this;cases this
  have way:∀ (b:Bool) (s₁:Shared) (Q':Unit->Shared->Prop),Q' () s₁->wpAny (model P w) A (match b with | true=>rule "set.scan.the-table-gave-way" | false=>pure ()) Q' E s₁:=λb s₁ Q' hq=>by
   cases b with
   | true=>exact KR hq
   | false=>exact cu hq
  dsimp only;have lp:=layNew_perm t es ((intKind P w).hash k) x;have lf:=layNew_fits t es ((intKind P w).hash k) x;have lg:=qL d.good es ((intKind P w).hash k) x;generalize layNew t es ((intKind P w).hash k) x=z at lp lf lg;obtain ⟨es1,t1,wd,gv⟩:=z;rw [Array.toList_push] at lp;have sz:es1.size=n+1:=by rw [← mq,lp.length_eq,dg,mq,d.sz];rfl
  have el1:ElemsOf (intKind P w) es1.toList:=(d.el.push hk hx).perm lp;have mem1:=mem_push_iff hk d.mem lp;have few:es1.size < scanBound:=by rw [sz];exact hr
  have fin:∀ h',vd a s.heap h'->Ii P w h' a (λj=>S j || decide (j=k)) es1.size->Q true { s with heap:=h' }:=λh' sb g'=>by
   have q:=h h' sb;rw [hS,if_neg kj] at q;rw [sz] at g';exact q g'
  refine aq (way _ _ _ ?_)
  by_cases hp:t1.plain=true
  ·simp only [hp,if_true];rw [hashByValue_scannable 8 hx];refine aq (cu ?_);refine Ua way e d el1 mem1 few ?_ ?_ λh' sb g'=>cu (fin h' sb g')
   ·split
    ·exact lf
    ·exact SetTable.fits_plain_off lf
   ·split
    ·exact lg
    ·exact lg.off
  ·simp only [hp,if_false];refine aq (cu ?_);exact Ua way e d el1 mem1 few lf lg λh' sb g'=>cu (fin h' sb g')
end
noncomputable abbrev aU (val:Nat->Int) (i:Nat):List Int:=firstMet val i
section
variable {P:Program}{w:World}{A:Around}{R:Result->Shared->Prop}{I:Addr}{fp wr:List Addr}{G:Array GenState->Array GenState->Prop}{n:Nat}{V:Nat->Value->Prop}{T:Nat->Shared->Prop}
theorem kE (W:WalksS P w A.in1 I fp wr G n V T) (a:Addr) (ha:a ∉ fp) (val:Nat->Int) (hv:∀ i v,V i v->∃ t,v=.int (val i) t) (hb:n+1 < scanBound) :
  ∀ (k i:Nat) (s:Shared),n - i=k->i<=n->T i s->Ii P w s.heap a (λj=>(aU val i).any (·==j)) (aU val i).length ->
   (∀ s',Moved (a::wr) G s s'->Ii P w s'.heap a (λj=>(aU val n).any (·==j)) (aU val n).length->R (.ok (.ret .none)) s') ->
   codeAny (model P w) A (.builtin "set.update.loop" ⟨[.ref a,.ref I],[]⟩) R s:=by
 have aw:a ∉ wr:=λz=>ha (W.sub _ z)
 have sub:∀ b∈wr,b∈a::wr:=λb hb=>.tail _ hb
 intro k
 induction k with
 | zero =>
  intro i s hk hi st g hR;have e:i=n:=by omega
  subst e;refine BK PL ?_;rw [yx GC _];refine aq (m:=pyNext (.ref I)) (W.done s _ _ st λs' mv=>?_);exact cu (hR s' (mv.mono sub) (g.stay λo q=>mv.heap a o aw q))
 | succ k ih =>
  intro i s hk hi st g hR;have lt:i < n:=by omega
  refine BK PL ?_;rw [yx GC _];refine aq (m:=pyNext (.ref I)) (W.item i s _ _ lt st λv s' hV st' mv=>?_);obtain ⟨t,rfl⟩:=hv i v hV;have g':=g.stay (h':=s'.heap) λo q=>mv.heap a o aw q
  refine aq (m:=holding [Value.int (val i) t] (setAdd a (.int (val i) t))) (wu ?_);unfold setAdd;refine wu (aq ((intKind P w).pyHash (k:=val i) (intKind_is _ _ _ _) ?_));have room:(aU val i).length+1 < scanBound:=by
   have:=firstMet_length_le val i;show (firstMet val i).length+1 < scanBound;omega
  refine qM (s:={ s' with toks:=s'.toks+1 }) (intKind_is _ _ _ _) rfl g' room λh' sb g2=>?_
  have g3:Ii P w h' a (λj=>(aU val (i+1)).any (·==j)) (aU val (i+1)).length:=g2.congr (λj=>by show _=(firstMet val (i+1)).any _;rw [RV,step_any]) (by show _=(firstMet val (i+1)).length;rw [RV,step_length]);refine cu ⟨RW GC _,ih (i+1) _ (by omega) lt (W.frame _ s' _ _ st' (vf _) λb hb o q=>?_) g3 λs2 mv2 gl=>?_⟩
  ·rw [sb.2 b λz:b=a=>ha (by rw [← z];exact hb)];exact q
  ·refine hR s2 (Moved.trans W.gtrans ((mv.mono sub).then_heap (vf _) λb o hb q=>?_) mv2) gl;rw [sb.2 b λz:b=a=>hb (by rw [z];exact .head _)];exact q
end
section
variable {P:Program}{w:World}{A:Around}{E:Value->Shared->Prop}{s:Shared}
theorem qN (u:Value) {Q:Value->Shared->Prop}
  (h:Q (.ref s.heap.objs.size) { s with heap:=s.heap.push { cls:=.type "set",dict:=none,data:=.set #[] 0 (.fresh 0 0 (!w.params.followText "set-order")) } }) :
  codeAny (model P w) A (.call (.builtin "set.__new__") ⟨[.type "set",u],[]⟩) (wants Q E) s:=by
 refine codeAny_of_tree ?_
 show wpAny _ A.in1 (checkBuiltinCall "set.__new__" ⟨[.type "set",u],[]⟩ >>= λ_=>again (.builtin "set.__new__" ⟨[.type "set",u],[]⟩)) _ _ s;refine aq (wpAny_of_eq (F.newCall_set_1 u) (cu ⟨RW F.plain_set_new _,BK F.entry_set_new ?_⟩));rw [yx F.plain_set_new _];unfold Builtin.«set.__new__» Builtin.Frozenset.newClass;have sub:=sub_set_self;obtain ⟨hp,g,d,tk,os⟩:=s;dsimp only at h ⊢;wp_walk;refine wpAny_askSetting (cu ?_);dsimp only;simp only [newObj];exact aq (wpAny_alloc (cu (cu h)))
end
section
variable {P:Program}{w:World}{A:Around}{E:Value->Shared->Prop}{s:Shared}
noncomputable abbrev Xl (b:Bool):Obj:={ cls:=.type "set",dict:=none,data:=.set #[] 0 (.fresh 0 0 b) }
theorem aV {h:Heap}{a:Addr}(e:h.get? a=some (Xl (!w.params.followText "set-order"))):Ii P w h a (λ_=>false) 0 :=
 ⟨_,#[],0,_,e,⟨rfl,rfl,rfl⟩,rfl,λe he=>by simp at he,λk=>by simp,by decide,by rfl,rfl,aR _⟩
noncomputable def Dw (ns:List Int):List Int:=firstMet (λi=>ns.getD i 0) ns.length
end
theorem Qw:isSubtype (.type "tuple") (.type "set")=pure false:=by rw [isSubtype_type];kernel_rfl
theorem Qx:isSubtype (.type "tuple") (.type "frozenset")=pure false:=by rw [isSubtype_type];kernel_rfl
section
variable {P:Program}{w:World}{A:Around}{E:Value->Shared->Prop}{s:Shared}
theorem aW {l:Addr}{its:Array Value}{ns:List Int}{Q:Value->Shared->Prop}(hh:A.handled=none) (hl:s.heap.IsTuple l its) (hi:IntsAre its.toList ns) (hb:its.size+1 < scanBound)
  (h:∀ (h':Heap) (tk:Nat),Ii P w h' s.heap.objs.size (λj=>(Dw ns).any (·==j)) (Dw ns).length->(∀ b o,b < s.heap.objs.size->s.heap.get? b=some o->h'.get? b=some o)->s.toks<=tk->Q (.ref s.heap.objs.size) { s with heap:=h',toks:=tk }) :
  wpAny (model P w) A (call (.type "set") [.ref l]) Q E s:=by
 have hn:its.size=ns.length:=by rw [← mq];exact hi.length
 have em:Dw ns=firstMet (λi=>ns.getD i 0) its.size:=by unfold Dw;rw [hn]
 rw [em] at h;obtain ⟨c,tl,hmro⟩:=F.called_set.mro;have hmade:=F.called_set.made;have hsub:=F.called_set.sub;have hnt:=F.called_set.notType;have hcc:=F.called_set.canCreate;have hct:=F.typeCall_set_1 (.ref l)
 refine WX (codeAny_of_tree (show wpAny _ _ (callAny (.type "set") _) _ _ _ from cu ⟨Code.quiet_builtin _ (by decide +kernel),BK F.entry_type_call ?_⟩))
 rw [Around.under_plain (weight_type_call_type "set" [.ref l] []) rfl];repeat (any_goals (first | assumption | wp_step))
 refine DQ (qN (.ref l) (E:=E) (Q:=λv s₁=>v=.ref s.heap.objs.size/\s₁={ s with heap:=s.heap.push (Xl (!w.params.followText "set-order")) }) ⟨rfl,rfl⟩) λr s₁ hr=>?_
 cases r with
 | error z=>exact hr
 | ok fl =>
 cases fl with
 | next=>exact hr.elim
 | brk=>exact hr.elim
 | cont=>exact hr.elim
 | ret v =>
  obtain ⟨rfl,rfl⟩:=hr
  have e0:(s.heap.push (Xl (!w.params.followText "set-order"))).get? s.heap.objs.size=some (Xl (!w.params.followText "set-order")):=gq _ rfl
  have hT:Shared.TypeIs { s with heap:=s.heap.push (Xl (!w.params.followText "set-order")) } (.ref s.heap.objs.size) "set":=⟨_,e0,rfl⟩
  have hli:=F.called_set.init.lookup;have hbi:=F.called_set.init.bind (.ref s.heap.objs.size);repeat (any_goals (first | assumption | wp_step))
  refine DQ (codeAny_call_builtin (R:=wants (λr s₂=>r=.none/\∃ h' tk,s₂={ s with heap:=h',toks:=tk }/\s.toks<=tk /\
    Ii P w h' s.heap.objs.size (λj=>(firstMet (λi=>ns.getD i 0) its.size).any (·==j)) (firstMet (λi=>ns.getD i 0) its.size).length /\
    (∀ b o,b < s.heap.objs.size->s.heap.get? b=some o->h'.get? b=some o)) E) F.called_set.init.plain F.entry_set_init (check_set_init_1 hT ?_)) λr₂ s₂ hr₂=>?_
  ·obtain ⟨ol,hol,hcl,nl,hdl⟩:=hl;obtain ⟨ocls,odict,odata,oslots⟩:=ol;simp only at hcl hdl;subst hcl;subst hdl
   have hol':(s.heap.push (Xl (!w.params.followText "set-order"))).get? l=some { cls:=.type "tuple",dict:=odict,data:=.seq its nl,slots:=oslots }:=bw _ hol
   have hl1:(s.heap.push (Xl (!w.params.followText "set-order"))).IsTuple l its:=⟨_,hol',rfl,nl,rfl⟩;have q1:=Qw;have q2:=Qx
   have q3:(Value.type "tuple"==Value.type "dict")=false:=by decide
   unfold Builtin.«set.__init__» noKeywords Builtin.Frozenset.updateFrom;generalize hPI:pyIter=PI;wp_walk;subst hPI;have lt:l < s.heap.objs.size:=Heap.lt_size hol
   have sz:(s.heap.push (Xl (!w.params.followText "set-order"))).objs.size=s.heap.objs.size+1:=mj ..;refine xr hl1 (aq (wpAny_runValue ?_));refine kE (V:=λi v=>its[i]?=some v) ((Walks.tuple (by simp [hh]) _ l (by rw [sz];exact iz (qi lt)) its).toS) s.heap.objs.size ?_ (λi=>ns.getD i 0) (λi v hv=>IntsAre.int_at hi i v (by rw [HB];exact hv)) hb (its.size - 0) 0 _ (by omega) (jy _) ⟨⟨_,gq _ rfl,rfl,rfl⟩,hl1.push _⟩ ?_ λs' mv g=>?_
   ·rw [sz];simp only [gb,List.not_mem_nil,or_false,not_or];exact ⟨iz (qz _),BX lt⟩
   ·exact (aV (bw _ e0)).congr (λ_=>rfl) rfl
   ·obtain ⟨h',g',d',tk',os'⟩:=s';have e1:g'=s.gens:=mv.gens;have e2:d'=s.drawn:=mv.drawn;have e3:os'=s.os:=mv.os;have e4:s.toks<=tk':=mv.toks;subst e1;subst e2;subst e3;refine cu (cu ⟨rfl,h',tk',rfl,e4,g,λb o hb q=>mv.heap b o ?_ (bw _ (bw _ q))⟩);rw [sz];simp only [gb,List.not_mem_nil,or_false,not_or];exact ⟨iz hb,iz (qi hb)⟩
  ·cases r₂ with
   | error z=>exact hr₂
   | ok fl₂ =>
    cases fl₂ with
    | ret r =>
     obtain ⟨rfl,h',tk,rfl,ht,g,kp⟩:=hr₂;repeat (any_goals (first | assumption | wp_step))
     exact h _ _ g kp ht
    | _=>exact hr₂.elim
end
section
variable {P:Program}{w:World}{A:Around}{E:Value->Shared->Prop}
end
namespace SI
end SI
section
variable {P:Program}{w:World}{A:Around}{E:Value->Shared->Prop}{s:Shared}{a I:Addr}{o:Obj}{es:Array (Int×Value)}{ep n:Nat}{t:SetTable}{S:Int->Bool}
end
section
variable {P:Program}{w:World}{A:Around}{E:Value->Shared->Prop}{s:Shared}{a I:Addr}{o:Obj}{es:Array (Int×Value)}{ep n:Nat}{t:SetTable}{S:Int->Bool}
end
theorem Om:∀ {l l':List Int},l.Nodup->(∀ x∈l,x∈l')->l'.length<=l.length->l.Perm l'
 | [],l',_,_,h=>by
  have:l'=[]:=zu.mp (Nat.le_zero.mp h);rw [this]
 | a::r,l',nd,sub,h=>by
  obtain ⟨na,nr⟩:=pq.mp nd;have ha:=sub a (.head _);refine .trans (.cons a ?_) (RB ha).symm;refine Om nr (λx hx=>(RG (λe=>na (by rw [← e];exact hx))).mpr (sub x (.tail _ hx))) ?_;have:=NQ ha;simp at h;omega
theorem Lb:∀ {l l':List Int},l.Nodup->(∀ x∈l,x∈l')->l.length<=l'.length
 | [],l',_,_=>jy _
 | a::r,l',nd,sub=>by
  obtain ⟨na,nr⟩:=pq.mp nd;have ha:=sub a (.head _);have:=Lb (l':=l'.erase a) nr λx hx=>(RG (λe=>na (by rw [← e];exact hx))).mpr (sub x (.tail _ hx))
  have h2:=NQ ha;have h3:=List.length_pos_of_mem ha;rw [jj];omega
theorem Aa2 (val:Nat->Int) (i:Nat) (k:Int):k∈firstMet val i ↔ k∈(dm i).map val:=by
 have h:=firstMet_any val i k;have q:∀ l:List Int,l.any (·==k)=true ↔ k∈l:=λl=>by simp
 rw [← q,← q,h]
theorem Nm (val:Nat->Int):∀ i,(firstMet val i).Nodup
 | 0=>.nil
 | i+1=>by
  rw [RV];unfold step_dedup;split
  ·exact Nm val i
  ·rename_i h;rw [qj];refine ⟨Nm val i,jw _ _,λa ha b hb e=>h ?_⟩;rw [ao] at hb;subst hb;subst e;simp [ha]
theorem Ub {ns:List Int}{k:Int}:k∈Dw ns ↔ k∈ns:=by
 unfold Dw;rw [Aa2];constructor
 ·intro h;obtain ⟨i,hi,rfl⟩:=di.mp h;rw [ir] at hi;rw [JT,au hi];exact ni hi
 ·intro h;obtain ⟨i,hi,rfl⟩:=CT h;refine di.mpr ⟨i,ir.mpr hi,?_⟩;rw [JT,au hi];rfl
theorem Xm (ns:List Int):(Dw ns).Nodup:=Nm _ _
theorem qO {l l':List Int}(p:l.Perm l') (h:l.Pairwise (·<=·)) (h':l'.Pairwise (·<=·)):l=l':=p.eq_of_pairwise (le:=(·<=·)) (λa b _ _ x y=>Int.le_antisymm x y) h h'
theorem Ho:∀ {us:List Value}{ns:List Int},IntsAre us ns->Vals (ns.map V.int) us
 | _,_,.nil=>.nil
 | _,_,.cons n t h=>.cons ⟨t,rfl⟩ (Ho h)
noncomputable abbrev Afu (ns:List Int):Int->Bool:=λj=>(Dw ns).any (·==j)
section
variable {X:Cx}
noncomputable def Aa3 (P:Program) (w:World) (a:Addr) (ns:List Int):HO:=.ext λh=>Ii P w h a (Afu ns) (Dw ns).length
theorem Aa4 {P:Program}{w:World}{H:Hp}{h:Heap}{a:Addr}{ns:List Int}(g:Ii P w h a (Afu ns) (Dw ns).length):Di P w H h a (Aa3 P w a ns) :=
 ⟨g,let ⟨o,_,_,_,e,_⟩:=g;⟨o,e⟩,λh1 h2 g k=>g.stay k⟩
theorem Aa5 {P:Program}{w:World}{H:Hp}{h:Heap}{a:Addr}{ns:List Int}(k:HOk P w H h) (e:H a=some (Aa3 P w a ns)):Ii P w h a (Afu ns) (Dw ns).length:=(k a _ e).1
theorem kI (hc:X.calm=true):Bt X (.type "set") (λxs H Q=>∃ p ns,xs=[.ref p]/\SqT X.K H p (ns.map V.int)/\ns.length+1 < scanBound/\∀ a,H a=none->Q (.ref a) (upd H a (Aa3 X.prog X.w a ns))):=by
 rintro pins s σ H xs us Q I r ⟨p,ns,e,sq,hb,q⟩;subst e;obtain ⟨u,rfl,rx⟩:=vals1 r;cases rx;obtain ⟨its,rv,pl,hz⟩:=I.tuple sq;have hi:=intsAre_of rv;refine aW (I.ok.hd hc) pl (by simpa using hi) (by rw [dw,hi.length];exact hb) λh' tk g kp ht=>?_
 exact ⟨.ref s.heap.objs.size,_,I.laid (t':=tk) (λb o e=>kp b o (Heap.lt_size e) e) (bh _) (Aa4 g),rfl,q _ (I.hok.fresh (bh _))⟩
theorem Xn:Bt X (.builtin "len") (λxs H Q=>∃ a ns,xs=[.ref a]/\H a=some (Aa3 X.prog X.w a ns)/\Q (.int (Dw ns).length) H):=by
 rintro pins s σ H xs us Q I r ⟨a,ns,e,hH,q⟩;subst e;obtain ⟨u,rfl,rx⟩:=vals1 r;cases rx;obtain ⟨o,es,ep,t,e,d⟩:=Aa5 I.hok hH;have lt:(es.size:Int) < 2 ^ 63:=by
  have:=d.few;unfold scanBound at this;omega
 refine PySem.call_len_set e d.ex d.dt d.fit lt ⟨.int (Dw ns).length,H,I.tok _,⟨_,by rw [d.sz]⟩,q⟩
end
section
variable {P:Program}{w:World}{A:Around}{E:Value->Shared->Prop}{s:Shared}{a b:Addr}{o o':Obj}{es es':Array (Int×Value)}{ep n ep' n':Nat}{t t':SetTable}{S S':Int->Bool}
end
noncomputable def Akd (ns ms:List Int):Bool:=ns.all (λk=>ms.contains k)&&ms.all λk=>ns.contains k
section
variable {P:Program}{w:World}{K:Type} [DecidableEq K] {knd:KeyKind P w K}{A:Around}{E:Value->Shared->Prop}{s:Shared}
end
section
variable {P:Program}{w:World}{K:Type} [DecidableEq K] {knd:KeyKind P w K}{A:Around}{E:Value->Shared->Prop}{s:Shared}
end
section
variable {P:Program}{w:World}{K:Type} [DecidableEq K] {knd:KeyKind P w K}
end
section
variable {P:Program}{w:World}{K:Type} [DecidableEq K] {knd:KeyKind P w K}{A:Around}{R:Result->Shared->Prop}{I:Addr}{fp wr:List Addr}{G:Array GenState->Array GenState->Prop}{n:Nat}{V:Nat->Value->Prop}{T:Nat->Shared->Prop}
end
section
variable {P:Program}{w:World}{K:Type} [DecidableEq K] {knd:KeyKind P w K}{A:Around}{E:Value->Shared->Prop}{s:Shared}
end
section
variable {X:Cx}
end
noncomputable def intsOf:List D->Option (List Int)
 | []=>some []
 | .int i::r=>match intsOf r with
  | some l=>some (i::l)
  | none=>none
 | _=>none
noncomputable def Xo:D->MH->Option (List Int)
 | .tup ds,_=>intsOf ds
 | _,_=>none
theorem Gi:∀ (ns:List Int),intsOf (ns.map D.int)=some ns
 | []=>rfl
 | n::r=>by
  show (match intsOf (r.map D.int) with | some l=>some (n::l) | none=>none)=_;rw [Gi r]
theorem Fe:∀ {ds:List D}{ns:List Int},intsOf ds=some ns->ds=ns.map D.int
 | [],ns,h=>by cases h;rfl
 | d::r,ns,h=>by
  cases d with
  | int i =>
   have h:(match intsOf r with | some l=>some (i::l) | none=>none)=some ns:=h;split at h
   ·rename_i l e;cases h;rw [Fe e];rfl
   ·cases h
  | _=>cases h
section
variable {K:aj}{H:Hp}{ρ:List Addr}{mh:MH}
theorem Ly {ns:List Int}{vs:List V}(h:RDs K H ρ (ns.map D.int) vs):vs=ns.map V.int:=by
 induction ns generalizing vs with
 | nil=>cases h;rfl
 | cons n r ih =>
  cases h with
  | cons a t=>cases a;rw [ih t];rfl
theorem qP {x:D}{v:V}{ns:List Int}(rs:RS K H ρ mh) (r:RD K H ρ x v) (h:Xo x mh=some ns):∃ p,v=.ref p/\SqT K H p (ns.map V.int):=by
 cases r with
 | @tup ds a xs pm rr =>
  have h:intsOf ds=some ns:=h;rw [Fe h] at rr;rw [Ly rr] at pm;exact ⟨a,rfl,pm⟩
 | _=>cases h
end
noncomputable def Ij (x:D) (mh:MH):Option (D×MH):=match Xo x mh with
 | some ns=>if ns.length < 4000 then some (.int (Dw ns).length,mh) else none
 | none=>none
noncomputable def Afv (x y:D) (mh:MH):Option (D×MH):=match Xo x mh,Xo y mh with
 | some ns,some ms=>if ns.length < 4000/\ms.length < 4000 then some (.bl (Akd ns ms),mh) else none
 | _,_=>none
section
variable {X:Cx}{a:Expr}{ma:DM D}{p p2 pos pos2:Pos}
theorem boot_set:bootBuiltins "set"=some (.type "set"):=by decide +kernel
theorem kJ (hc:X.calm=true) (hg:Gl X "len") (hm:X.mg "len"=none) (hg2:Gl X "set") (hm2:X.mg "set"=none) (ha:DE X a ma) (hs:starEach [a] X.env=(false,eval a X.env)::starEach [] X.env) :
  DE X (.Call (.Name "len" p) [.Call (.Name "set" p2) [a] [] pos2] [] pos) (ma.bnd λx=>Zl (Ij x)):=λloc mh =>
 Br (Qn Xn hg hm PySem.boot_len (Ea (Fx (kI hc) hg2 hm2 boot_set (Ea (ha loc mh) G4 hs) (by decide) (by decide) hs) G4)) λσ H Q ⟨ρ,d,mh',q,rl,rs,co⟩=>by
  obtain ⟨x,m1,ea,q⟩:=Ao q;refine ⟨ρ,x,m1,ea,rl,rs,λH1 ρ1 v e1 rs1 r1=>?_⟩;have q:Ij x m1=some (d,mh'):=q;unfold Ij at q;split at q
  ·rename_i ns en;split at q
   ·rename_i hl;cases q;obtain ⟨pp,rfl,sq⟩:=qP rs1 r1 en;refine ⟨pp,ns,rfl,sq,by unfold scanBound;omega,λb hb=>⟨b,ns,rfl,Bw,?_⟩⟩;exact co _ ρ1 _ (e1.trans (Ev.new hb)) (rs1.new hb) (.int _)
   ·cases q
  ·cases q
noncomputable def qQ (mx my:DM D):DM D:=mx.bnd λx=>my.bnd λy=>Zl (Afv x y)
end
section
variable {X:Cx}{pins:List (Addr×Obj)}{σ:L2.St}{H:Hp}{s:Shared}
theorem Xp (I:Inv X pins σ H s) {A:Around}(hh:A.handled=none) {p:Addr}{ys:List V}(hq:SqL X.K H p ys\/SqT X.K H p ys) {Q:Value->Shared->Prop}{E:Value->Shared->Prop}
  (h:∀ (its:List Value) (St:Nat->Heap->Prop) (h2:Heap),Vals ys its->Walks X.prog X.w A s.heap.objs.size [s.heap.objs.size,p] [s.heap.objs.size] its.length (λi v=>its[i]?=some v) St->St 0 h2 ->
   (∀ b∈[s.heap.objs.size,p],b < h2.objs.size)->(∀ b o,s.heap.get? b=some o->h2.get? b=some o)->Q (.ref s.heap.objs.size) { s with heap:=h2 }) :
  wpAny (model X.prog X.w) A (pyIter (.ref p)) Q E s:=by
 rcases hq with hq|hq
 ·obtain ⟨its,rv,pl,hz⟩:=I.list hq;have hlt:p < s.heap.objs.size:=by obtain ⟨_,_,e,_⟩:=pl;exact Heap.lt_size e
  refine JW pl.isList ?_;have W:=Walks.list (prog:=X.prog) (w:=X.w) hh s.heap.objs.size p (iz hlt) its.toArray;refine h its (λi h=>h.IsListIter s.heap.objs.size p i/\h.IsList p its.toArray) _ rv (by simpa using W) ⟨⟨_,gq _ rfl,rfl,rfl⟩,pl.isList.push _⟩ (λb hb=>?_) λb o e=>bw _ e
  rw [mj];simp at hb;rcases hb with e|e
  ·rw [e];exact qz _
  ·rw [e];exact qi hlt
 ·obtain ⟨its,rv,pl,hz⟩:=I.tuple hq;have pl:s.heap.IsTuple p its.toArray:=pl;have hlt:p < s.heap.objs.size:=by obtain ⟨_,e,_⟩:=id pl;exact Heap.lt_size e
  refine xr pl ?_;have W:=Walks.tuple (prog:=X.prog) (w:=X.w) hh s.heap.objs.size p (iz hlt) its.toArray;refine h its (λi h=>h.IsTupleIter s.heap.objs.size p i/\h.IsTuple p its.toArray) _ rv (by simpa using W) ⟨⟨_,gq _ rfl,rfl,rfl⟩,pl.push _⟩ (λb hb=>?_) λb o e=>bw _ e
  rw [mj];simp at hb;rcases hb with e|e
  ·rw [e];exact qz _
  ·rw [e];exact qi hlt
theorem Xq {h2 h':Heap}(hk:∀ b o,b ∉ [s.heap.objs.size]->h2.get? b=some o->h'.get? b=some o) (h1:∀ b o,s.heap.get? b=some o->h2.get? b=some o):∀ b o,s.heap.get? b=some o->h'.get? b=some o :=
 λb o e=>hk b o (λhm=>by rw [ao.mp hm] at e;exact mz _ (Heap.lt_size e)) (h1 b o e)
end
noncomputable def boolsOf:List D->Option (List Bool)
 | []=>some []
 | .bl i::r=>match boolsOf r with
  | some l=>some (i::l)
  | none=>none
 | _=>none
theorem Oo:∀ (ns:List Bool),boolsOf (ns.map D.bl)=some ns
 | []=>rfl
 | n::r=>by
  show (match boolsOf (r.map D.bl) with | some l=>some (n::l) | none=>none)=_;rw [Oo r]
theorem Lz:∀ {ds:List D}{ns:List Bool},boolsOf ds=some ns->ds=ns.map D.bl
 | [],ns,h=>by cases h;rfl
 | d::r,ns,h=>by
  cases d with
  | bl i =>
   have h:(match boolsOf r with | some l=>some (i::l) | none=>none)=some ns:=h;split at h
   ·rename_i l e;cases h;rw [Lz e];rfl
   ·cases h
  | _=>cases h
theorem kO {K:aj}{H:Hp}{ρ:List Addr}{ns:List Bool}{vs:List V}(h:RDs K H ρ (ns.map D.bl) vs):vs=ns.map V.bl:=by
 induction ns generalizing vs with
 | nil=>cases h;rfl
 | cons n r ih =>
  cases h with
  | cons a t=>cases a;rw [ih t];rfl
theorem eF:∀ {bs:List Bool}{its:List Value},Vals (bs.map V.bl) its->its=bs.map Value.bool
 | [],_,.nil=>rfl
 | b::r,_,.cons h t=>by
  have h:_=Value.bool b:=h;rw [h,eF t];rfl
theorem Ma:∀ {ns:List Int}{its:List Value}{i:Nat}{v:Value},Vals (ns.map V.int) its->its[i]?=some v->∃ n t,ns[i]?=some n/\v=.int n t
 | [],_,_,_,.nil,e=>by simp at e
 | n::r,_,0,_,.cons h t,e=>by
  obtain ⟨k,rfl⟩:=h;cases e;exact ⟨n,k,rfl,rfl⟩
 | n::r,_,i+1,_,.cons h t,e=>by
  obtain ⟨m,k,h1,h2⟩:=Ma (i:=i) t (by simpa using e);exact ⟨m,k,by simpa using h1,h2⟩
noncomputable def Mf (f:List Bool->Bool):List D->MH->Option (D×MH)
 | [x],mh=>match En x mh with
  | some ds=>match boolsOf ds with
   | some bs=>some (.bl (f bs),mh)
   | none=>none
  | none=>none
 | _,_=>none
theorem Vl {f:List Bool->Bool}{ds:List D}{mh mh':MH}{d:D}(h:Mf f ds mh=some (d,mh')):∃ x bs,ds=[x]/\En x mh=some (bs.map D.bl)/\d=.bl (f bs)/\mh'=mh:=by
 match ds,h with
 | [x],h =>
  have h:(match En x mh with | some ds=>(match boolsOf ds with | some bs=>some (D.bl (f bs),mh) | none=>none) | none=>none)=some (d,mh'):=h;split at h
  ·rename_i es e;split at h
   ·rename_i bs eb;cases h;rw [Lz eb] at e;exact ⟨x,bs,rfl,e,rfl,rfl⟩
   ·cases h
  ·cases h
 | [],h=>cases h
 | _::_::_,h=>cases h
noncomputable def kW:List D->MH->Option (D×MH):=Mf λbs=>bs.all id
section
variable {X:Cx}
theorem qR (hc:X.calm=true) {id:String}{f:List Bool->Bool}{dflt:Bool}{g:List Nat->(Nat->Bool)->Bool}(hg:∀ bs:List Bool,g (dm bs.length) (λi=>(bs[i]?).getD dflt)=f bs)
  (call_w:∀ {A:Around} {x:Value} {Q:Value->Shared->Prop} {E:Value->Shared->Prop} {s:Shared},wpAny (model X.prog X.w) A.in1 (pyIter x) (λit s₂=>∃ I fp wr n P St tr,it=.ref I/\Walks X.prog X.w A.in1 I fp wr n P St/\St 0 s₂.heap/\TruthOf X.prog X.w A.in1 P tr /\
   ∀ h' tk,(∀ b o,b ∉ wr->s₂.heap.get? b=some o->h'.get? b=some o)->Q (.bool (g (dm n) tr)) { s₂ with heap:=h',toks:=tk }) E s->wpAny (model X.prog X.w) A (call (.builtin id) [x]) Q E s) :
  Bt X (.builtin id) (rDs X.K (Mf f)):=by
 rintro pins s σ H xs us Q I r ⟨ρ,mh,ds,d,mh',q,rs,rd,co⟩;obtain ⟨x,bs,rfl,e,rfl,rfl⟩:=Vl q;obtain ⟨v,rfl,rx⟩:=O6 rd;obtain ⟨u,rfl,ru⟩:=vals1 r;obtain ⟨p,ys,rfl,hq,ry⟩:=J4 rs rx e;cases ru;rw [kO ry] at hq;refine call_w (Xp I (A:=X.A.in1) (I.ok.hd hc) hq λits St h2 rv W st _ hk=>?_);have ei:=eF rv;refine ⟨_,_,_,its.length,_,St,λi=>(bs[i]?).getD dflt,rfl,W,st,λi v s' Q' E' hP hQ=>?_,λh' tk hk'=>?_⟩
 ·rw [ei,cj] at hP;cases eb:bs[i]? with
  | none=>rw [eb] at hP;cases hP
  | some b =>
   rw [eb] at hP;cases hP;simp only [eb,NT] at hQ;exact sy hQ
 ·have e2:its.length=bs.length:=by rw [ei,ak]
  rw [e2,hg bs];exact ⟨.bl _,H,I.kept (t':=tk) (Xq hk' hk),rfl,co H ρ _ Ev.refl rs (.bl _)⟩
theorem kY (hc:X.calm=true):Bt X (.builtin "all") (rDs X.K kW):=qR (dflt:=true) hc (g:=λl f=>l.all f) (λbs=>LSm.range_all bs) λh=>call_all_walk h
end
noncomputable def Np:Int->List Int->Int
 | m,[]=>m
 | m,x::r=>Np (if m < x then x else m) r
theorem Mg (bt:Nat->Nat->Bool) (f:Int->List Int->Int) (ns:List Int) (b:Int->Int->Bool) (hb:∀ i j x y,ns[i]?=some x->ns[j]?=some y->bt i j=b x y) (f0:∀ m,f m []=m) (f1:∀ m l x,f m (l++[x])=if b x (f m l)=true then x else f m l) :
  ∀ (k:Nat) (h:k < ns.length),∀ m r,ns=m::r->ns[argBest bt k]?=some (f m (r.take k))
 | 0,h,m,r,e=>by
  subst e;simp [argBest,f0]
 | k+1,h,m,r,e=>by
  have ih:=Mg bt f ns b hb f0 f1 k (by omega) m r e;have hk:k < r.length:=by rw [e,jj] at h;omega
  have e1:ns[k+1]?=some r[k]:=by rw [e,PX,au hk]
  have e2:r.take (k+1)=r.take k++[r[k]]:=by rw [ql,au hk];rfl
  have e3:=hb (k+1) (argBest bt k) _ _ e1 ih;rw [e2,f1];unfold argBest;rw [e3];split
  ·exact e1
  ·exact ih
theorem Uc:∀ (l:List Int) (m x:Int),Np m (l++[x])=if decide (Np m l < x)=true then x else Np m l
 | [],m,x=>by by_cases h:m < x <;> simp [Np,h]
 | y::l,m,x=>by
  show Np _ (l++[x])=_;rw [Uc l];rfl
noncomputable def Qy (f:Int->List Int->Int):List D->MH->Option (D×MH)
 | [x],mh=>match En x mh with
  | some ds=>match intsOf ds with
   | some (n::r)=>some (.int (f n r),mh)
   | _=>none
  | none=>none
 | _,_=>none
theorem Xr {f:Int->List Int->Int}{ds:List D}{mh mh':MH}{d:D}(h:Qy f ds mh=some (d,mh')):∃ x n r,ds=[x]/\En x mh=some ((n::r).map D.int)/\d=.int (f n r)/\mh'=mh:=by
 match ds,h with
 | [x],h =>
  have h:(match En x mh with | some ds=>(match intsOf ds with | some (n::r)=>some (D.int (f n r),mh) | _=>none) | none=>none)=some (d,mh'):=h;split at h
  ·rename_i es e;split at h
   ·rename_i n r eb;cases h;rw [Fe eb] at e;exact ⟨x,n,r,rfl,e,rfl,rfl⟩
   ·cases h
  ·cases h
 | [],h=>cases h
 | _::_::_,h=>cases h
noncomputable def maxD:List D->MH->Option (D×MH):=Qy Np
section
variable {X:Cx}
theorem Aa6 (hc:X.calm=true) {id:String}{f:Int->List Int->Int}{op:CmpOp}{b:Int->Int->Bool}(f0:∀ m,f m []=m) (f1:∀ m l x,f m (l++[x])=if b x (f m l)=true then x else f m l)
  (cmp:∀ {A:Around} {x y:Int} {t u:Tok} {Q:Value->Shared->Prop} {E:Value->Shared->Prop} {s:Shared},Q (.bool (b x y)) s->wpAny (model X.prog X.w) A (richCompare op (.int x t) (.int y u)) Q E s)
  (call_w:∀ {A:Around} {x:Value} {Q:Value->Shared->Prop} {E:Value->Shared->Prop} {s:Shared},wpAny (model X.prog X.w) A.in1 (pyIter x) (λit s₂=>∃ I fp wr n P St bt,it=.ref I/\Walks X.prog X.w A.in1 I fp wr n P St/\St 0 s₂.heap/\(∀ b∈fp,b < s₂.heap.objs.size)/\0 < n/\CmpOf X.prog X.w A.in1 op P bt /\
   ∀ v h' tk,P (argBest bt (n - 1)) v->(∀ b o,b ∉ wr->s₂.heap.get? b=some o->h'.get? b=some o)->Q v { s₂ with heap:=h',toks:=tk }) E s->wpAny (model X.prog X.w) A (call (.builtin id) [x]) Q E s) :
  Bt X (.builtin id) (rDs X.K (Qy f)):=by
 rintro pins s σ H xs us Q I r ⟨ρ,mh,ds,d,mh',q,rs,rd,co⟩;obtain ⟨x,n,l,rfl,e,rfl,rfl⟩:=Xr q;obtain ⟨v,rfl,rx⟩:=O6 rd;obtain ⟨u,rfl,ru⟩:=vals1 r;obtain ⟨p,ys,rfl,hq,ry⟩:=J4 rs rx e;cases ru;rw [Ly ry] at hq;refine call_w (Xp I (A:=X.A.in1) (I.ok.hd hc) hq λits St h2 rv W st hfp hk=>?_);have hlen:(n::l).length=its.length:=by have:=rv.length;simpa using this
 refine ⟨_,_,_,its.length,_,St,λi j=>(match (n::l)[i]?,(n::l)[j]? with | some x,some y=>b x y | _,_=>false),rfl,W,st,hfp,by rw [← hlen];simp,λi j vi vj s' Q' E' hi hj hQ=>?_,λv h' tk hP hk'=>?_⟩
 ·obtain ⟨a,t,e1,rfl⟩:=Ma rv hi;obtain ⟨a',t',e2,rfl⟩:=Ma rv hj;simp only [e1,e2] at hQ;exact cmp hQ
 ·have ar:=Mg (λi j=>(match (n::l)[i]?,(n::l)[j]? with | some x,some y=>b x y | _,_=>false)) f (n::l) b (λi j x y e1 e2=>by simp only [e1,e2]) f0 f1 (its.length - 1) (by rw [hlen];simp at hlen;omega) n l rfl;obtain ⟨a,t,e1,rfl⟩:=Ma rv hP;rw [ar] at e1;have e3:l.take (its.length - 1)=l:=QL (by rw [← hlen];simp);rw [e3] at e1;cases e1;exact ⟨.int _,H,I.kept (t':=tk) (Xq hk' hk),⟨t,rfl⟩,co H ρ _ Ev.refl rs (.int _)⟩
end
section
variable {X:Cx}
theorem kZ (hc:X.calm=true):Bt X (.builtin "max") (rDs X.K maxD):=Aa6 (op:=.Gt) (b:=λx m=>decide (m < x)) hc (λ_=>rfl) (λm l x=>Uc l m x) (λh=>PyProof.Rows.gt_int h) λh=>call_max_walk h
noncomputable def J6:D->List D->MH->Option (D×MH)
 | .ref n,[.ref m],mh=>match mh[n]?,mh[m]? with
  | some (.lst xs),some (.lst ys)=>if xs.length+ys.length<=sizeLine then some (.non,mh.set n (.lst (xs++ys))) else none
  | _,_=>none
 | _,_,_=>none
theorem Vm {dx d:D}{ds:List D}{mh mh':MH}(q:J6 dx ds mh=some (d,mh')):∃ n xs ys,dx=.ref n/\mh[n]?=some (.lst xs)/\(∃ m,ds=[.ref m]/\mh[m]?=some (.lst ys))/\xs.length+ys.length<=sizeLine/\d=.non/\mh'=mh.set n (.lst (xs++ys)):=by
 cases dx with
 | ref n =>
  match ds,q with
  | [.ref m],q =>
   have q:(match mh[n]?,mh[m]? with | some (.lst xs),some (.lst ys)=>if xs.length+ys.length<=sizeLine then some (D.non,mh.set n (.lst (xs++ys))) else none | _,_=>none)=some (d,mh'):=q;split at q
   ·rename_i xs ys e1 e2;split at q
    ·rename_i hz;cases q;exact ⟨n,xs,ys,rfl,e1,⟨m,rfl,e2⟩,hz,rfl,rfl⟩
    ·cases q
   ·cases q
  | [],q=>cases q
  | .non::_,q=>cases q
  | .bl _::_,q=>cases q
  | .str _::_,q=>cases q
  | .int _::_,q=>cases q
  | .rol _::_,q=>cases q
  | .obj ..::_,q=>cases q
  | .fn _::_,q=>cases q
  | .lam::_,q=>cases q
  | .clo _ _::_,q=>cases q
  | .tup _::_,q=>cases q
  | .ref _::_::_,q=>cases q
 | _=>cases q
theorem aX:MtR X "list.extend" (rDM X.K J6):=by
 refine eE jO ?_;rintro x xs H Q ⟨ρ,mh,dx,ds,d,mh',q,rs,rx,r,co⟩;obtain ⟨n,es,fs,rfl,e1,hy,hz,rfl,rfl⟩:=Vm q;cases rx with
 | @ref _ a hn =>
 obtain ⟨a',ha,us,hu,ru⟩:=rs.at e1;rw [hn] at ha;cases ha;obtain ⟨m,rfl,e2⟩:=hy
 ·obtain ⟨v,rfl,rv⟩:=O6 r;cases rv with
  | @ref _ b hb =>
   obtain ⟨b',hb',ws,hw,rw'⟩:=rs.at e2;rw [hb] at hb';cases hb';exact ⟨a,b,us,ws,rfl,rfl,hu,hw,by rw [← ru.length,← rw'.length];exact hz,co _ ρ _ (Ev.lst hu) (rs.setL hn hu (ru.append rw')) .non⟩
end
section
variable {X:Cx}{pins:List (Addr×Obj)}{σ:L2.St}{H:Hp}{s:Shared}{fp:List Addr}{h':Heap}
theorem lA {t':Nat}(I:Inv X pins σ H s) (k:∀ b o,b ∉ fp->s.heap.get? b=some o->h'.get? b=some o) (hf:∀ b∈fp,Lj X pins H b):Inv X pins σ H { s with heap:=h',toks:=t' }:=by
 have nf:∀ b u,H b=some u->b ∉ fp:=λb u e z=>by rw [(hf b z).1] at e;cases e
 refine I.step (g':=s.gens) (d':=s.drawn) (ch:=fp) (λb hb=>⟨(hf b hb).2.2.2.1,(hf b hb).2.1,(hf b hb).2.2.2.2.1,(hf b hb).2.2.2.2.2⟩) (λb o _ _ hc e _=>k b o hc e) (λb o _ _ hc e _=>⟨o.slots,k b o hc e⟩) (λ_ _ _ _ n=>n)
  (λb o hc e=>⟨o,k b o hc e⟩) (λ_ _ e=>e) (λ_ _ _ e=>e) (λb ps e=>⟨#[],by rw [e];simp⟩) (λm hm=>?_) (λb u e=>?_) I.bare
 ·obtain ⟨o,es,ep,ho,r⟩:=hm;exact ⟨o,es,ep,k _ o (λz=>(hf _ z).2.1 rfl) ho,r⟩
 ·refine (I.hok b u e).stay (λc v hc q=>k c v ?_ q) (λ_ q=>q) λ_ _ q=>q
  rcases hc with z|z
  ·rw [z];exact nf b u e
  ·exact nf c _ z
theorem S7 {t':Nat}{a:Addr}{o:HO}(I:Inv X pins σ H s) (k:∀ b o,b ∉ fp->s.heap.get? b=some o->h'.get? b=some o) (hf:∀ b∈fp,Lj X pins H b) (hp:s.heap.objs.size<=a) (new:Di X.prog X.w (upd H a o) h' a o) :
  Inv X pins σ (upd H a o) { s with heap:=h',toks:=t' }:=by
 have hn:H a=none:=I.hok.fresh hp;have nb:∀ b u,H b=some u->upd H a o b=some u:=λb u e=>by rw [Al (Bb e hn)];exact e
 have nf:∀ b u,H b=some u->b ∉ fp:=λb u e z=>by rw [(hf b z).1] at e;cases e
 refine I.step (g':=s.gens) (d':=s.drawn) (ch:=fp) (λb hb=>⟨(hf b hb).2.2.2.1,(hf b hb).2.1,(hf b hb).2.2.2.2.1,(hf b hb).2.2.2.2.2⟩) (λb o _ _ hc e _=>k b o hc e) (λb o _ _ hc e _=>⟨o.slots,k b o hc e⟩) (λb o' hc e n=>?_)
  (λb o hc e=>⟨o,k b o hc e⟩) (λb xs e=>nb _ _ e) (λb o u e=>nb _ _ e) (λb ps e=>⟨#[],by rw [nb _ _ e];simp⟩) (λm hm=>?_) (λb u e=>?_) I.bare
 ·rw [Al (iz (fu (Heap.lt_size e) hp))];exact n
 ·obtain ⟨o,es,ep,ho,r⟩:=hm;exact ⟨o,es,ep,k _ o (λz=>(hf _ z).2.1 rfl) ho,r⟩
 ·by_cases hb:b=a
  ·subst hb;rw [Bw] at e;cases e;exact new
  ·rw [Al hb] at e;refine (I.hok b u e).stay (λc v hc q=>k c v ?_ q) (λc q=>nb _ _ q) λc xs q=>nb _ _ q
   rcases hc with z|z
   ·rw [z];exact nf b u e
   ·exact nf c _ z
end
section
variable {prog:Program}{w:World}{A:Around}{E:Value->Shared->Prop}{s:Shared}
theorem Xu {it l:Addr}{i:Nat}{items:Array Value}{x:Value}{Q:Value->Shared->Prop}(hit:s.heap.IsTupleIter it l i) (hl:s.heap.IsTuple l items) (hx:items[i]?=some x)
  (hQ:∀ h',h'.IsTupleIter it l (i+1)->vd it s.heap h'->Q x { s with heap:=h' }):wpAny (model prog w) A (uc (.ref it)) Q E s:=by
 obtain ⟨o,ho,hc,hd⟩:=id hit;obtain ⟨ol,hol,_,nl,hdl⟩:=hl;unfold uc
 refine aq (uq (name:=Str.ofString "__next__") hit.typeIs yp (CK yp hit.typeIs JH ?_ (IV _)));show wpAny _ _ (field (.ref it) 0 >>= _) _ _ s;refine aq (BP ho hd (x:=.ref l) rfl ?_);show wpAny _ _ (if (Value.ref l==Value.none)=true then _ else _) _ _ s;rw [if_neg (show ¬ ((Value.ref l==Value.none)=true) from kj)];show wpAny _ _ (field (.ref it) 1 >>= _) _ _ s;refine aq (BP ho hd (x:=.int i 0) rfl ?_);show wpAny _ _ (seqItems? (.ref l) >>= _) _ _ s;refine aq (QS hol hdl ?_);simp only [jh,hx];refine aq (wpAny_setField ho hd (by simp) (cu ⟨x,rfl,cu (hQ _ ⟨_,GX _ ho (Obj.isFreed_of_fields (UJ hd _)),(Obj.cls_mapFields ..).trans hc,?_⟩ (zp ..))⟩));rw [UJ hd];simp [rawInt]
theorem Xv {it l:Addr}{i:Nat}{items:Array Value}{Q:Value->Shared->Prop}(hh:A.handled=none) (hit:s.heap.IsTupleIter it l i) (hl:s.heap.IsTuple l items) (hx:items[i]?=none)
  (hE:∀ h' e,Heap.ExtBut it s.heap h'->(∃ o,h'.get? e=some o/\o.cls=.type "StopIteration")->E (.ref e) { s with heap:=h' }):wpAny (model prog w) A (uc (.ref it)) Q E s:=by
 obtain ⟨o,ho,hc,hd⟩:=id hit;obtain ⟨ol,hol,_,nl,hdl⟩:=hl;unfold uc
 refine aq (uq (name:=Str.ofString "__next__") hit.typeIs yp (CK yp hit.typeIs JH ?_ (IV _)));show wpAny _ _ (field (.ref it) 0 >>= _) _ _ s;refine aq (BP ho hd (x:=.ref l) rfl ?_);show wpAny _ _ (if (Value.ref l==Value.none)=true then _ else _) _ _ s;rw [if_neg (show ¬ ((Value.ref l==Value.none)=true) from kj)];show wpAny _ _ (field (.ref it) 1 >>= _) _ _ s;refine aq (BP ho hd (x:=.int i 0) rfl ?_);show wpAny _ _ (seqItems? (.ref l) >>= _) _ _ s;refine aq (QS hol hdl ?_);simp only [jh,hx]
 refine aq (KR (aq (wpAny_setField ho hd (by simp) ?_)));show wpAny _ _ (newExc (.type "StopIteration") [] >>= _) _ _ _;refine aq ?_;simp only [newExc,newTuple];refine aq (qw ?_ (by size_fits));refine aq (m:=firstArgMember _ _) (wpAny_of_eq (a:=Value.none) (by first | rfl | (simp only [firstArgMember];rfl)) ?_);refine qw ?_ (by size_fits);simp only [raiseNew];refine aq (wpAny_handled ?_);first | rw [show A.in1.handled=none from hh] | rw [hh]
 refine aq (cu (wpAny_throw (hE _ _ (((zp ..).extBut.push _).push _) ⟨_,gq _ rfl,rfl⟩)))
theorem lB (hh:A.handled=none) (it l:Addr) (hne:l≠it) (items:Array Value):Draws prog w A it [it,l] items.size (λi v=>items[i]?=some v) (λi h=>h.IsTupleIter it l i/\h.IsTuple l items) where
 live:=λ_ _ st=>let ⟨o,ho,_⟩:=st.1;⟨o,ho⟩
 frame:=λ_ _ _ st hk=>⟨let ⟨o,ho,r⟩:=st.1;⟨o,hk it (by simp) o ho,r⟩,let ⟨o,ho,r⟩:=st.2;⟨o,hk l (by simp) o ho,r⟩⟩
 item:=λi s Q E hi st hQ=>Xu st.1 st.2 (x:=items[i]) (by simp [hi]) λh' hit' hs'=>hQ _ h' s.toks (by simp [hi]) ⟨hit',st.2.extBut hs'.extBut hne⟩ hs'
 done:=λs Q E st hE=>Xv hh st.1 st.2 (by simp) hE
end
theorem k_ne {X:Cx}{pins:List (Addr×Obj)}{σ:L2.St}{H:Hp}{s:Shared}{a b:Addr}{o:Obj}(I:Inv X pins σ H s) (e:X.K.lookup a=some o) (f:Lj X pins H b):a≠b:=λz=>by
 have hb:=I.ok.mod.kin a o e;rcases f.2.2.2.1 with q|q
 ·exact I.ok.noex a o hb (z ▸ q)
 ·have h1:a < X.base.objs.size:=Heap.lt_size hb;have h2:=I.ok.bsz;have h3:X.s₀.heap.objs.size<=a:=z ▸ q;exact absurd (fu h1 h2) (Nat.not_lt.mpr h3)
theorem Ac8 {H:Hp}{a b:Addr}{u:HO}(h:Rd H a u) (f:H b=none):a≠b:=λz=>by
 rcases h with h | ⟨o,h⟩ <;> (rw [z,f] at h;cases h)
structure SeqK where
 sq:aj->Hp->Addr->List V->Prop
 isIt:Heap->Addr->Addr->Nat->Prop
 isSeq:Heap->Addr->Array Value->Prop
 cls:String
 get:∀ {X:Cx} {pins:List (Addr×Obj)} {σ:L2.St} {H:Hp} {s:Shared} {a:Addr} {xs:List V},Inv X pins σ H s->sq X.K H a xs->∃ its:List Value,Vals xs its/\isSeq s.heap a its.toArray/\xs.length<=sizeLine
 inj:∀ {X:Cx} {pins:List (Addr×Obj)} {σ:L2.St} {H:Hp} {s:Shared} {a:Addr} {xs ys:List V},Inv X pins σ H s->sq X.K H a xs->sq X.K H a ys->xs=ys
 itO:∀ {h:Heap} {it l:Addr} {i:Nat},isIt h it l i->∃ o,h.get? it=some o/\o.cls=.type cls/\∃ vs,o.data=.fields vs
 itK:∀ {h h':Heap} {it l:Addr} {i:Nat},isIt h it l i->(∀ o,h.get? it=some o->h'.get? it=some o)->isIt h' it l i
 seqO:∀ {h:Heap} {l:Addr} {items:Array Value},isSeq h l items->∃ o,h.get? l=some o/\∃ n,o.data=.seq items n
 lC:∀ {h h':Heap} {l:Addr} {items:Array Value},isSeq h l items->(∀ o,h.get? l=some o->h'.get? l=some o)->isSeq h' l items
 draws:∀ {prog:Program} {w:World} {A:Around},A.handled=none->∀ (it l:Addr),l≠it->∀ (items:Array Value),Draws prog w A it [it,l] items.size (λi v=>items[i]?=some v) (λi h=>isIt h it l i/\isSeq h l items)
 iter:∀ {prog:Program} {w:World} {A:Around} {E:Value->Shared->Prop} {s:Shared} {l:Addr} {items:Array Value} {Q:Value->Shared->Prop},isSeq s.heap l items ->
  Q (.ref s.heap.objs.size) { s with heap:=s.heap.push { cls:=.type cls,data:=.fields #[.ref l,.int 0 0] } }->wpAny (model prog w) A (pyIter (.ref l)) Q E s
 stop:∀ {prog:Program} {w:World} {A:Around} {E:Value->Shared->Prop} {s:Shared} {it l:Addr} {i:Nat} {items:Array Value} {Q:Value->Shared->Prop},A.handled=none->isIt s.heap it l i->isSeq s.heap l items->items[i]?=none ->
  (∀ h' e,Heap.ExtBut it s.heap h'->(∃ o,h'.get? e=some o/\o.cls=.type "StopIteration")->E (.ref e) { s with heap:=h' })->wpAny (model prog w) A (uc (.ref it)) Q E s
 next:∀ {prog:Program} {w:World} {A:Around} {E:Value->Shared->Prop} {s:Shared} {it l:Addr} {i:Nat} {items:Array Value} {x:Value} {Q:Value->Shared->Prop},isIt s.heap it l i->isSeq s.heap l items->items[i]?=some x ->
  (∀ h',isIt h' it l (i+1)->vd it s.heap h'->Q x { s with heap:=h' })->wpAny (model prog w) A (uc (.ref it)) Q E s
 ne:∀ {X:Cx} {pins:List (Addr×Obj)} {σ:L2.St} {H:Hp} {s:Shared} {a b:Addr} {xs:List V},Inv X pins σ H s->sq X.K H a xs->Lj X pins H b->a≠b
 new:∀ (h:Heap) (l:Addr),isIt (h.push { cls:=.type cls,data:=.fields #[.ref l,.int 0 0] }) h.objs.size l 0
noncomputable def Aa7:SeqK where
 sq:=SqL
 isIt:=λh it l i=>h.IsListIter it l i
 isSeq:=λh l its=>h.IsList l its
 cls := "list_iterator"
 get:=λI h=>let ⟨its,r,p,z⟩:=I.list h;⟨its,r,p.isList,z⟩
 inj:=λI h h'=>I.list_inj h h'
 itO:=λ⟨o,e,c,d⟩=>⟨o,e,c,_,d⟩
 itK:=λst k=>st.at k
 seqO:=λ⟨o,e,_,n,d⟩=>⟨o,e,n,d⟩
 lC:=λ⟨o,e,r⟩ k=>⟨o,k o e,r⟩
 draws:=λhh it l hne items=>Draws.list hh it l hne items
 iter:=λhs q=>JW hs q
 stop:=λhh a b c d=>wpAny_nextOf_list_end hh a b c d
 next:=λa b c d=>wpAny_nextOf_list_item a b c d
 ne:=λI h f=>by
  rcases h with h|⟨o,its,n,hk,_⟩
  ·exact Ac8 h f.1
  ·exact k_ne I hk f
 new:=λh l=>⟨_,gq _ rfl,rfl,rfl⟩
noncomputable def Ake:SeqK where
 sq:=SqT
 isIt:=λh it l i=>h.IsTupleIter it l i
 isSeq:=λh l its=>h.IsTuple l its
 cls := "tuple_iterator"
 get:=λI h=>let ⟨its,r,p,z⟩:=I.tuple h;⟨its,r,p,z⟩
 inj:=λI h h'=>I.tuple_inj h h'
 itO:=λ⟨o,e,c,d⟩=>⟨o,e,c,_,d⟩
 itK:=λ⟨o,e,r⟩ k=>⟨o,k o e,r⟩
 seqO:=λ⟨o,e,_,n,d⟩=>⟨o,e,n,d⟩
 lC:=λ⟨o,e,r⟩ k=>⟨o,k o e,r⟩
 draws:=λhh it l hne items=>lB hh it l hne items
 iter:=λhs q=>xr hs q
 stop:=λhh a b c d=>Xv hh a b c d
 next:=λa b c d=>Xu a b c d
 ne:=λI h f=>by
  rcases h with h|⟨o,its,n,hk,_⟩
  ·exact Ac8 h f.1
  ·exact k_ne I hk f
 new:=λh l=>⟨_,gq _ rfl,rfl,rfl⟩
noncomputable def Ite (k:SeqK) (K:aj) (a:Addr):It :=
 ⟨λi H=>∃ xs x,k.sq K H a xs/\xs[i]?=some x,λi H y H'=>∃ T x,H T=none/\y=.ref T/\(∀ xs,k.sq K H a xs->xs[i]?=some x)/\H'=upd H T (.tup [.int i,x]),λi H=>∃ xs,k.sq K H a xs/\xs.length<=i⟩
theorem Afw {k:SeqK}{h:Heap}{it l:Addr}{i:Nat}{items:Array Value}(a:k.isIt h it l i) (b:k.isSeq h l items):l≠it:=λz=>by
 obtain ⟨o,e,c,vs,d⟩:=k.itO a;obtain ⟨o',e',n,d'⟩:=k.seqO b;rw [z,e] at e';cases e';rw [d] at d';cases d'
theorem lE {P:Program}{w:World}{K:aj}(k:SeqK) {elts:List Expr}{kk:Nat}{tp:Pos}(a e it:Addr) (hne:e≠it):Turn P w K (.Tuple elts kk tp) (Ite k K a) [e,it] e (λi h=>(∃ old,IsEnum h e it i old)/\k.isIt h it a i) where
 mem:=by simp
 obj:=λi h st b hb=>by
  have hb:b=e\/b=it:=by simpa using hb
  rcases hb with rfl|rfl
  ·obtain ⟨old,q⟩:=st.1
   exact ⟨_,q,λv z=>by
    have z':Data.fields _=Data.cell v:=z
    cases z'⟩
  ·obtain ⟨o,q,c,vs,d⟩:=k.itO st.2;exact ⟨o,q,λv z=>by rw [d] at z;cases z⟩
 keep:=λi h h' st kp=>⟨let ⟨old,q⟩:=st.1;⟨old,kp e (by simp) _ q⟩,k.itK st.2 λo q=>kp it (by simp) o q⟩
 item:=by
  intro X hP hw hK hc i pins s σ H E I hf st hg;subst hP hw hK;obtain ⟨xs,x,hq,hx⟩:=hg;obtain ⟨its,rv,p,hz⟩:=k.get I hq;obtain ⟨u,hu,ru⟩:=rv.get hx;obtain ⟨⟨old,he⟩,hit⟩:=st;have hae:a≠e:=λz=>by
   obtain ⟨o',e',n,d'⟩:=k.seqO p;rw [z,he] at e';cases e';cases d'
  have hai:=Afw hit p;have D:=k.draws (prog:=X.prog) (w:=X.w) (A:=X.A.in1) (I.ok.hd hc) it a hai its.toArray;have hi:i < its.toArray.size:=by rw [dw];exact (cg.mp hu).1
  refine wpAny_pyNext_enum_itemD D he ⟨hit,p⟩ hi hne (by simp [hne,hae.symm]) λy h1 tk hy ho st1 hT _ hk=>?_
  have ey:y=u:=by
   have hy':its[i]?=some y:=by simpa using hy
   rw [hu] at hy';cases hy';rfl
  subst ey;refine ⟨_,rfl,wpAny_letOwnedTupleGo_enum ho λh2 he2 hs2=>?_⟩;have elt:e < s.heap.objs.size:=Heap.lt_size he;have ilt:it < s.heap.objs.size:=by
   obtain ⟨o,q,_⟩:=k.itO hit;exact Heap.lt_size q
  have hT2:O3 h2 s.heap.objs.size #[.int i tk,y]:=⟨_,hs2.extBut _ _ (BX elt) hT,rfl,rfl,_,rfl⟩;have nb:∀ b,b ∉ [e,it]->b≠e/\b≠it:=λb hb=>by simpa using hb
  have I2:Inv X pins σ (upd H s.heap.objs.size (.tup [.int i,x])) { s with heap:=h2,toks:=tk+1 }:=S7 (fp:=[e,it]) I (λb o hb q=>hs2.extBut b o (nb b hb).1 (hk b o (nb b hb).1 (nb b hb).2 q)) hf (bh _) ⟨by simp [qp],[.int i tk,y],.cons ⟨tk,rfl⟩ (.cons ru .nil),hT2⟩;refine ⟨.ref s.heap.objs.size,_,I2,rfl,⟨s.heap.objs.size,x,I.hok.fresh (bh _),rfl,λys hy=>by rw [k.inj I hy hq];exact hx,rfl⟩,⟨⟨_,by simpa using he2⟩,k.itK st1.1 λo q=>hs2.extBut _ _ hne.symm q⟩,λb hb=>?_⟩;rw [Al ?_]
  ·exact (hf b hb).1
  ·intro z;have hb:b=e\/b=it:=by simpa using hb
   rcases hb with q|q
   ·rw [q] at z;exact absurd z (iz elt)
   ·rw [q] at z;exact absurd z (iz ilt)
 done:=by
  intro X hP hw hK hc i pins s σ H E I hf st hg;subst hP hw hK;obtain ⟨xs,hq,hx⟩:=hg;obtain ⟨its,rv,p,hz⟩:=k.get I hq;obtain ⟨⟨old,he⟩,hit⟩:=st;have hl:=rv.length
  have hT:s.TypeIs (.ref e) "enumerate":=⟨_,he,rfl⟩
  unfold pyNext
  refine aq (wpAny_attempt (uq (name:=Str.ofString "__next__") hT QV (CK QV hT F.entry_enumerate_next ?_ (F.args_enumerate_next_1 _))));show wpAny _ _ (field (.ref e) 2 >>= _) _ _ _;refine aq (BP he rfl (x:=.ref it) rfl ?_);refine aq (k.stop (A:=X.A.in1) (I.ok.hd hc) hit p (by simp;omega) λh' x he' hx'=>?_);obtain ⟨o,ho,hcl⟩:=hx'
  refine aq (wpAny_isInstance (T := "StopIteration") (b:=true) ⟨o,ho,hcl⟩ isSubtype_stop (cu ⟨rfl,?_⟩));exact lA (t':=s.toks) (fp:=[e,it]) I (λb o hb q=>he' b o (λz=>hb (by simp [z])) q) hf
 self:=λ_ i s Q E st h=>by
  obtain ⟨⟨old,he⟩,_⟩:=st;exact WD he h
set_option maxHeartbeats 8000000 in
theorem Xw (l:Addr) (items:Array Value) (n:Nat) (dct:Option Addr) (sl:Array (Option Value)) :
    Meets (Builtin.«enumerate.__new__» ⟨[.type "enumerate",.ref l],[]⟩) (λ_ R s=>s.heap.get? l=some { cls:=.type "tuple",dict:=dct,data:=.seq items n,slots:=sl } /\
      R (.ok (.ret (.ref (s.heap.push { cls:=.type "tuple_iterator",data:=.fields #[.ref l,.int 0 0] }).objs.size)))
        { s with heap:=(s.heap.push { cls:=.type "tuple_iterator",data:=.fields #[.ref l,.int 0 0] }).push { cls:=.type "enumerate",data:=.fields #[.none,.bool false,.ref s.heap.objs.size,rawInt 0,.none,.none] } }) :=
  .of_wp λprog w A R s h=>by
    obtain ⟨hp,g,d,tk,os⟩:=s;obtain ⟨hl,h⟩:=h;have hsub:=sub_enumerate;have hL:Heap.IsTuple (Shared.heap ⟨hp,g,d,tk,os⟩) l items:=⟨_,hl,rfl,n,rfl⟩;wp_walk using AutoSeq1.wpAny_loadPart' hl
    refine wpAny_stack_any λst=>cu ?_;split
    · rename_i c _ _ _ _ _
      cases (c==Value.type "enumerate") <;> (wp_walk using AutoSeq1.wpAny_loadPart' hl,xr hL;exact ⟨_,rfl,h⟩)
    · (wp_walk using AutoSeq1.wpAny_loadPart' hl,xr hL;exact ⟨_,rfl,h⟩)
section
variable {prog:Program}{w:World}{A:Around}{E:Value->Shared->Prop}{s:Shared}
theorem lF {l:Addr}{items:Array Value}{Q:Value->Shared->Prop}(hL:s.heap.IsTuple l items)
  (h:∀ h',IsEnum h' (s.heap.objs.size+1) s.heap.objs.size 0 .none->h'.IsTupleIter s.heap.objs.size l 0->h'.objs.size=s.heap.objs.size+2->(∀ b o,s.heap.get? b=some o->h'.get? b=some o)->Q (.ref (s.heap.objs.size+1)) { s with heap:=h' }) :
  wpAny (model prog w) A (call (.type "enumerate") [.ref l]) Q E s:=by
 obtain ⟨⟨c,dct,dt,sl⟩,hl,hc,n,hd⟩:=hL
 replace hc:c=.type "tuple":=hc
 replace hd:dt=.seq items n:=hd
 subst hc hd;refine callType_new F.called_enumerate (by decide) (F.typeCall_enumerate_1 _) (F.newCall_enumerate_1 _) (λobj=>RJ obj _) F.entry_enumerate_new (Xw l items n dct sl) ⟨hl,?_⟩
 have hz:(s.heap.push { cls:=.type "tuple_iterator",data:=.fields #[.ref l,.int 0 0] }).objs.size=s.heap.objs.size+1:=mj ..;show _/\_;rw [hz]
 have he:IsEnum ((s.heap.push { cls:=.type "tuple_iterator",data:=.fields #[.ref l,.int 0 0] }).push { cls:=.type "enumerate",data:=.fields #[.none,.bool false,.ref s.heap.objs.size,rawInt 0,.none,.none] }) (s.heap.objs.size+1) s.heap.objs.size 0 .none:=by
  have:=gq (s.heap.push { cls:=.type "tuple_iterator",data:=.fields #[.ref l,.int 0 0] }) (o:={ cls:=.type "enumerate",data:=.fields #[.none,.bool false,.ref s.heap.objs.size,rawInt 0,.none,.none] }) rfl;rw [hz] at this;exact this
 refine ⟨⟨_,he,rfl⟩,h _ he ⟨_,bw _ (gq _ rfl),rfl,rfl⟩ (by rw [mj,hz]) λb o x=>bw _ (bw _ x)⟩
end
structure SR (k:SeqK) (K:aj) (H0:Hp) (ρ0:List Addr) (src:Src) (a:Addr):Prop where
 rd:∀ H ρ mh,Ev K H0 ρ0 H ρ->RS K H ρ mh->src.ok mh=true->∃ xs,k.sq K H a xs/\RDs K H ρ (src.items mh) xs
 ok:∀ (mh:MH) (i:Nat) (d:D),(src.items mh)[i]?=some d->src.ok mh=true
theorem SR.tup {K:aj}{H0:Hp}{ρ0:List Addr}{ds:List D}{a:Addr}{xs:List V}(s:SqT K H0 a xs) (r:RDs K H0 ρ0 ds xs):SR Ake K H0 ρ0 (.seq ds) a :=
 ⟨λH ρ mh e rs _=>⟨xs,e.tup _ _ s,r.mono e⟩,λ_ _ _ _=>rfl⟩
theorem SR.rol {K:aj}{H0:Hp}{ρ0:List Addr}{ds:List D}{a:Addr}{xs:List V}(s:Jd K H0 a xs) (r:RDs K H0 ρ0 ds xs):SR Aa7 K H0 ρ0 (.seq ds) a :=
 ⟨λH ρ mh e rs _=>⟨xs,(e.perm _ _ s).sq,r.mono e⟩,λ_ _ _ _=>rfl⟩
theorem SR.lst {K:aj}{H0:Hp}{ρ0:List Addr}{n:Nat}{a:Addr}(h:ρ0[n]?=some a):SR Aa7 K H0 ρ0 (.lref n) a:=by
 refine ⟨λH ρ mh e rs ok=>?_,λmh i d q=>?_⟩
 ·have ok:(match mh[n]? with | some (.lst _)=>true | _=>false)=true:=ok;obtain ⟨o,eo⟩:∃ o,mh[n]?=some (.lst o):=by
   split at ok
   ·exact ⟨_,‹_›⟩
   ·cases ok
  obtain ⟨a',ha,ro⟩:=rs.at eo;rw [e.at h] at ha;cases ha;obtain ⟨xs,sq,r⟩:=ro.read;refine ⟨xs,sq,?_⟩;show RDs K H ρ (match mh[n]? with | some (.lst o)=>o | _=>[]) xs;rw [eo];exact r
 ·have q:(match mh[n]? with | some (.lst o)=>o | _=>[])[i]?=some d:=q;show (match mh[n]? with | some (.lst _)=>true | _=>false)=true;split at q
  ·rfl
  ·simp at q
theorem J7:∀ (l:List D) (j i:Nat),(Jf j l)[i]?=(l[i]?).map λd=>D.tup [.int ((j+i:Nat):Int),d]
 | [],_,_=>by simp [Jf]
 | d::r,j,0=>by simp [Jf]
 | d::r,j,i+1=>by
  show (Jf (j+1) r)[i]?=_;rw [J7 r (j+1) i,PX];have e:j+1+i=j+(i+1):=by omega
  rw [e]
theorem J8:∀ (l:List D) (j:Nat),(Jf j l).length=l.length
 | [],_=>rfl
 | _::r,j=>by show (Jf (j+1) r).length+1=r.length+1;rw [J8 r]
theorem JR.enum {k:SeqK}{K:aj}{H0:Hp}{ρ0:List Addr}{src:Src}{a:Addr}(S:SR k K H0 ρ0 src a):JR K H0 ρ0 (.enum src) (Ite k K a) where
 go:=λH ρ mh i d e rs q=>by
  have q:(Jf 0 (src.items mh))[i]?=some d:=q;rw [J7] at q;cases e1:(src.items mh)[i]? with
  | none=>rw [e1] at q;cases q
  | some d' =>
   rw [e1] at q;cases q;obtain ⟨xs,sq,r⟩:=S.rd H ρ mh e rs (S.ok mh i d' e1);obtain ⟨v,ev,rv⟩:=r.get e1;refine ⟨⟨xs,v,sq,ev⟩,?_⟩;rintro x H' ⟨T,x',hT,h1,h2,h3⟩;subst h1;subst h3;have:=h2 xs sq;rw [ev] at this;cases this;refine ⟨Ev.new hT,rs.new hT,.tup (.inl (.inl Bw)) (.cons ?_ (.cons (rv.mono (Ev.new hT)) .nil))⟩;rw [NZ];exact .int _
 stop:=λH ρ mh i e rs q=>by
  have q:(src.ok mh&&decide ((Jf 0 (src.items mh)).length<=i))=true:=q;rw [bf,J8] at q;obtain ⟨xs,sq,r⟩:=S.rd H ρ mh e rs q.1;exact ⟨xs,sq,by rw [← r.length];exact of_decide_eq_true q.2⟩
noncomputable def Mh (ma:DM D):DM Src:=ma.bnd λx=>λ_ mh=>match srcOf x mh with | some s=>some (.enum s,mh) | none=>none
section
variable {X:Cx}
theorem lG:bootBuiltins "enumerate"=some (.type "enumerate"):=by decide +kernel
theorem Qz (k:SeqK) {pins:List (Addr×Obj)}{σ:L2.St}{H:Hp}{s:Shared}{R:It->Hp->Prop}{E:Value->Shared->Prop}{elts:List Expr}{kk:Nat}{tp:Pos}{a:Addr}{xs:List V}(I:Inv X pins σ H s) (hq:k.sq X.K H a xs) (hR:R (Ite k X.K a) H)
  (hnew:∀ {items:Array Value} {Q:Value->Shared->Prop},k.isSeq s.heap a items->(∀ h',IsEnum h' (s.heap.objs.size+1) s.heap.objs.size 0 .none->k.isIt h' s.heap.objs.size a 0->h'.objs.size=s.heap.objs.size+2->(∀ b o,s.heap.get? b=some o->h'.get? b=some o)->Q (.ref (s.heap.objs.size+1)) { s with heap:=h' }) ->
   wpAny (model X.prog X.w) X.A (call (.type "enumerate") [.ref a]) Q E s) :
  wpAny (model X.prog X.w) X.A (call (.type "enumerate") [.ref a]) (λv s1=>wpAny (model X.prog X.w) X.A (pyIter v) (PIE X pins σ (.Tuple elts kk tp) R) E s1) E s:=by
 obtain ⟨its,rv,p,hz⟩:=k.get I hq;refine hnew p λh' he hit hsz hk=>WD he ?_
 have I1:Inv X pins σ H { s with heap:=h' }:=I.kept (t':=s.toks) hk;refine ⟨s.heap.objs.size+1,[s.heap.objs.size+1,s.heap.objs.size],_,Ite k X.K a,H,rfl,I1,lE k a _ _ (Nat.succ_ne_self _),⟨⟨_,he⟩,hit⟩,λb hb=>?_,hR⟩;have hb:b=s.heap.objs.size+1\/b=s.heap.objs.size:=by simpa using hb
 rcases hb with rfl|rfl
 ·exact I.fpOk (vf _) (I.hok.fresh (vf _))
 ·exact I.fpOk (bh _) (I.hok.fresh (bh _))
theorem Aa8 {a:Expr}{ma:DM D}{elts:List Expr}{kk:Nat}{tp p pos:Pos}(hc:X.calm=true) (hg:Gl X "enumerate") (hm:X.mg "enumerate"=none) (ha:DE X a ma) (hs:starEach [a] X.env=(false,eval a X.env)::starEach [] X.env) :
  DI X (.Tuple elts kk tp) (.Call (.Name "enumerate" p) [a] [] pos) (Mh ma):=λloc mh=>by
 cases ea:ma loc mh with
 | none =>
  have:Mh ma loc mh=none:=by unfold Mh DM.bnd;rw [ea]
  rw [this];exact Ef
 | some pr =>
  obtain ⟨x,m1⟩:=pr;have eq:Mh ma loc mh=(match srcOf x m1 with | some s=>some (.enum s,m1) | none=>none):=by unfold Mh DM.bnd;rw [ea]
  rw [eq];rintro pins s σ H R I ⟨ρ,src,mh',q,rl,rs,co⟩;refine Call_ (Qk I hg hm lG (PyProof.Rows.callWith_type1 (thn (Ea (ha loc mh) G4 hs pos pins s σ H (λvs H1=>∃ v ρ1,vs=[v]/\Ev X.K H ρ H1 ρ1/\RS X.K H1 ρ1 m1/\RD X.K H1 ρ1 x v) I ⟨ρ,x,m1,ea,rl,rs,λH1 ρ1 v e1 rs1 r1=>⟨v,ρ1,rfl,e1,rs1,r1⟩⟩) ?_) hs rfl));rintro us s1 ⟨vs,H1,I1,r1,q1⟩;obtain ⟨v,ρ1,rfl,e1,rs1,rx⟩:=q1;obtain ⟨u,rfl,ru⟩:=vals1 r1;cases x with
  | tup ds =>
   cases q;cases rx with
   | tup sq r =>
    cases ru;exact Qz Ake I1 sq (co H1 ρ1 _ e1 rs1 (JR.enum (SR.tup sq r))) λhL h=>lF hL h
  | ref n =>
   cases eo:m1[n]? with
   | none=>simp only [srcOf,eo] at q;cases q
   | some ob =>
    cases ob with
    | dct kvs=>simp only [srcOf,eo] at q;cases q
    | dtk kvs=>simp only [srcOf,eo] at q;cases q
    | plc=>simp only [srcOf,eo] at q;cases q
    | plq=>simp only [srcOf,eo] at q;cases q
    | lst o =>
    simp only [srcOf,eo] at q;cases q;cases rx with
    | @ref _ a' h =>
     cases ru;obtain ⟨a2,ha2,ro⟩:=rs1.at eo;rw [h] at ha2;cases ha2;obtain ⟨xs,sq,r⟩:=ro.read;exact Qz Aa7 I1 sq (co H1 ρ1 _ e1 rs1 (JR.enum (SR.lst h))) λhL h=>SJ hL h
  | rol ds =>
   cases q;cases rx with
   | rol sq r =>
    cases ru;exact Qz Aa7 I1 sq.sq (co H1 ρ1 _ e1 rs1 (JR.enum (SR.rol sq r))) λhL h=>SJ hL h
  | non=>cases q
  | bl b=>cases q
  | int i=>cases q
  | str z=>cases q
  | obj c ks ds=>cases q
  | fn x=>cases q
  | lam=>cases q
  | clo=>cases q
end
theorem S8 (l:Addr) (items:Array Value) (n:Nat) (dd:Option Addr) (sl:Array (Option Value)) (x:Value) (e:Value->Bool) (j:Nat) (hj:j < items.size)
  (hit:e items[j]=true) (hno:∀ m (hm:m < items.size),m < j->e items[m]=false) (he:∀ y,y∈items->MeetsSeq.EqGives y x (e y)) :
  Meets (Builtin.«tuple.index» ⟨[.ref l,x],[]⟩) (λA R s=>s.heap.get? l=some { cls:=.type "tuple",dict:=dd,data:=.seq items n,slots:=sl }/\R (.ok (.ret (.int j s.toks))) { s with toks:=s.toks+1 }) :=
 .of_wp λprog w A R s h=>by
  obtain ⟨hp,g,d,tk,os⟩:=s;obtain ⟨hl,h⟩:=h;unfold Builtin.«tuple.index»;simp only [Std.Legacy.Range.forIn_eq_forIn_range'];wp_walk using AutoSeq1.wpAny_loadPart' hl,wpAny_forIn_list _ (λrest b s'=>b.1=none/\s'=⟨hp,g,d,tk,os⟩/\∃ i,i<=j/\rest=List.range' i (items.size - i)) _
  case turn =>
   rintro i rest ⟨b1,b2⟩ s' ⟨hb,rfl,i',hi,hr⟩;have hlt:i' < items.size:=by omega
   have e1:items.size - i'=(items.size - (i'+1))+1:=by omega
   rw [e1,List.range'_succ] at hr;cases hr;have hx:items[i]?=some items[i]:=by simp [hlt]
   simp only [hx];refine aq (he _ (Array.getElem_mem hlt) prog w _ _ _ _ ?_)
   by_cases hij:i=j
   ·subst hij;rw [hit];wp_walk;exact ⟨_,rfl,h⟩
   ·rw [hno i hlt (by omega)];wp_walk;exact ⟨rfl,rfl,i+1,by omega,rfl⟩
  case fin =>
   rintro ⟨b1,b2⟩ s' ⟨hb,rfl,i',hi,hr⟩;exfalso;have:=congrArg List.length hr;simp at this;omega
  case h =>
   refine ⟨rfl,rfl,0,jy _,?_⟩;simp
noncomputable def lH:D->List D->MH->Option (D×MH)
 | .tup ds,[.int k],mh=>match intsOf ds with
  | some ns=>if k∈ns then some (.int (ns.idxOf k:Nat),mh) else none
  | none=>none
 | _,_,_=>none
section
variable {X:Cx}
theorem eG:MtR X "tuple.index" (rDM X.K lH):=by
 rintro pins s σ H x xs v us Q I rx rv ⟨ρ,mh,dx,ds,d,mh',q,rs,r1,r2,co⟩
 match dx,ds,q with
 | .tup es,[.int k],q =>
  simp only [lH] at q;split at q
  ·rename_i ns en;split at q
   ·rename_i hk;cases q;obtain ⟨y,rfl,ry⟩:=O6 r2;cases ry;obtain ⟨u,rfl,ru⟩:=rv.one;obtain ⟨t,rfl⟩:=ru;cases r1 with
    | @tup _ a ws sq rr =>
     cases rx;rw [Fe en] at rr;rw [Ly rr] at sq;obtain ⟨its,rvv,pl,hz⟩:=I.tuple sq;have hi:IntsAre its ns:=intsAre_of rvv;obtain ⟨⟨cls,dd,data,sl⟩,ho,hc,n,hd⟩:=id pl;simp only at hc hd;subst hc hd;have hlen:=hi.length;have hj:ns.idxOf k < ns.length:=uf.mpr hk;refine FT DY ⟨_,ho,rfl⟩ PySem.F.entry_tuple_index (PySem.F.args_tuple_index_2 _ _)
      (S8 a its.toArray n dd sl (.int k t) (isInt k) (ns.idxOf k) (by simpa [hlen] using hj) ?_ ?_ λy hy=>eq_isInt k t hi y (by simpa using hy)) ⟨ho,⟨.int _,H,I.tok _,⟨_,rfl⟩,co H ρ _ Ev.refl rs (.int _)⟩⟩
     ·show isInt k its[ns.idxOf k]=true;rw [isInt_at k hi _ (by omega) hj]
      simpa using xu hj
     ·intro j hjs hlt;show isInt k its[j]=false;rw [isInt_at k hi j (by simpa using hjs) (by omega)];exact ne_of_lt_idxOf hlt _
   ·cases q
  ·cases q
theorem S9 {prog:Program}{w:World}{A:Around}{E:Value->Shared->Prop}{s:Shared}{r:Addr}{a b c:Int}{t u v:Tok}{n:Nat}{Q:List Value->Shared->Prop}(hh:A.handled=none) (hr:IsRange s.heap r a b c t u v) (hsmall:CV a b c=true)
  (hn:wz a b c=n) (hlen:n<=2 ^ 24)
  (hQ:∀ h' tk acc,(∀ b o,s.heap.get? b=some o->h'.get? b=some o)->ItemsOf (λi v=>∃ t,v=.int (a+i * c) t) acc n->Q acc.toList { s with heap:=h',toks:=tk }):wpAny (model prog w) A (collect (.ref r)) Q E s:=by
 have key:∀ R:Result->Shared->Prop,(∀ h' tk acc' c',(∀ b o,b≠s.heap.objs.size->(s.heap.push { cls:=.type "list",data:=.seq ([]:List Value).toArray }).get? b=some o->h'.get? b=some o)->h'.get? s.heap.objs.size=some { cls:=.type "list",dict:=none,data:=.seq acc' c',slots:=#[] } ->
   ItemsOf (λi v=>∃ t,v=.int (a+i * c) t) acc' n->R (.ok (.ret (.ref s.heap.objs.size))) { s with heap:=h',toks:=tk })->codeAny (model prog w) A (.builtin "proto.collect" ⟨[.ref r],[]⟩) R s:=λR hR=>by
  refine BK F.entry_proto_collect ?_;rw [yx F.plain_proto_collect _]
  show wpAny _ A.in1 (newList [] >>= λl=>again (.builtin "list.__iadd__" ⟨[l,.ref r],[]⟩)) _ _ s;refine aq (qw ?_);refine cu ⟨RW WK _,BK F.entry_list_iadd ?_⟩;rw [yx WK _]
  have hS:(s.heap.push { cls:=.type "list",data:=.seq ([]:List Value).toArray }).get? s.heap.objs.size=some { cls:=.type "list",data:=.seq #[] 0 }:=gq _ rfl;show wpAny _ A.in1 (Builtin.List.listExtendWith (.ref s.heap.objs.size) (.ref r) (.ref s.heap.objs.size)) _ _ _
  exact wpAny_extend_range (A:=A) (R:=R) (s:={ s with heap:=s.heap.push { cls:=.type "list",data:=.seq ([]:List Value).toArray } }) hh (bw _ hr) hsmall hn hlen s.heap.objs.size _ 0 hS hR
 unfold collect;refine aq (wpAny_runValue (key _ λh' tk acc' c' hk hS' hacc=>?_));show wpAny _ A (load s.heap.objs.size >>= _) _ _ _;refine aq (wpAny_load hS' ?_);exact cu (hQ h' tk acc' (λb o e=>hk b o (iz (Heap.lt_size e)) (bw _ e)) hacc)
theorem Q0 (r:Addr) (a b c:Int) (t u v:Tok) (n:Nat) (hsmall:CV a b c=true) (hn:wz a b c=n) (hlen:n<=2 ^ 24) :
  Meets (Builtin.«tuple.__new__» ⟨[.type "tuple",.ref r],[]⟩) (λA R s=>A.handled=none/\IsRange s.heap r a b c t u v/\∀ (h':Heap) (tk:Nat) (acc:Array Value),(∀ b o,s.heap.get? b=some o->h'.get? b=some o)->ItemsOf (λi v=>∃ t,v=.int (a+i * c) t) acc n ->
    R (.ok (.ret (.ref h'.objs.size))) { s with heap:=h'.push { cls:=.type "tuple",data:=.seq acc },toks:=tk }) :=
 .of_wp λprog w A R s h=>by
  obtain ⟨hh,hr,h⟩:=h;have hsub:=sub_tuple_self;have hinit:=init_tuple_lookup;have hmh:=madeHere_tuple
  have hT:s.TypeIs (.ref r) "range":=⟨_,hr,rfl⟩
  have hh1:A.in1.handled=none:=hh;wp_walk using LR hT,S9 hh1 hr hsmall hn hlen
  intro h' tk acc hk hacc;show wpAny _ _ (ud acc.toList.toArray >>= λv=>ret v) _ _ _;unfold ud;refine aq (qw (cu ⟨_,rfl,?_⟩) (show acc.toList.toArray.size<=sizeLine by simp only [Array.toArray_toList];rw [hacc.1,qp];omega));have e:acc.toList.toArray=acc:=by simp
  rw [e];exact h h' tk acc hk hacc
theorem Tc {prog:Program}{w:World}{A:Around}{E:Value->Shared->Prop}{s:Shared}{r:Addr}{a b c:Int}{t u v:Tok}{n:Nat}{Q:Value->Shared->Prop}(hh:A.handled=none) (hr:IsRange s.heap r a b c t u v) (hsmall:CV a b c=true)
  (hn:wz a b c=n) (hlen:n<=2 ^ 24)
  (h:∀ (h':Heap) (tk:Nat) (acc:Array Value),(∀ b o,s.heap.get? b=some o->h'.get? b=some o)->ItemsOf (λi v=>∃ t,v=.int (a+i * c) t) acc n->Q (.ref h'.objs.size) { s with heap:=h'.push { cls:=.type "tuple",data:=.seq acc },toks:=tk }) :
  wpAny (model prog w) A (call (.type "tuple") [.ref r]) Q E s:=by
 refine callType_new F.called_tuple (by decide) (F.typeCall_tuple_1 _) (F.newCall_tuple_1 _) (λobj=>RJ obj _) F.entry_tuple_new
  (Q0 r a b c t u v n hsmall hn hlen) ⟨hh,hr,λh' tk acc hk hacc=>⟨⟨_,gq _ rfl,rfl⟩,h h' tk acc hk hacc⟩⟩
theorem Q5 {a:Int}{n:Nat}{acc:Array Value}(h:ItemsOf (λi v=>∃ t,v=.int (a+i * 1) t) acc n):Vals ((dm n).map λ(i:Nat)=>V.int (a+(i:Int))) acc.toList:=by
 have key:∀ (m:Nat) (l:List Value) (j:Nat),l.length=m->(∀ (i:Nat) (v:Value),l[i]?=some v->∃ t,v=Value.int (a+((j+i:Nat):Int)) t)->Vals ((List.range' j m).map λ(i:Nat)=>V.int (a+(i:Int))) l:=by
  intro m
  induction m with
  | zero=>intro l j hl _;rw [zu.mp hl];exact .nil
  | succ m ih =>
   intro l j hl hv
   match l,hl with
   | x::r,hl =>
    rw [List.range'_succ,iu];refine .cons ?_ (ih r (j+1) (by simpa using hl) λi v e=>?_)
    ·obtain ⟨t,e⟩:=hv 0 x rfl;exact ⟨t,e⟩
    ·obtain ⟨t,q⟩:=hv (i+1) v (by simpa using e);have e2:j+(i+1)=j+1+i:=by omega
     rw [e2] at q;exact ⟨t,q⟩
 rw [List.range_eq_range'];refine key n acc.toList 0 (by rw [mq];exact h.1) λi v e=>?_
 obtain ⟨t,q⟩:=h.2 i v (by simpa using e);rw [Int.mul_one] at q;rw [NZ];exact ⟨t,q⟩
theorem Ud:Bt X (.type "range") (λxs H Q=>∃ j:Int,xs=[.int j]/\-(2 ^ 62)<=j/\j < 2 ^ 62/\∀ p,H p=none->Q (.ref p) (upd H p (.rng 0 j))):=by
 rintro pins s σ H xs us Q I r ⟨j,e,h1,h2,q⟩;subst e;obtain ⟨u,rfl,ru⟩:=vals1 r;obtain ⟨t,rfl⟩:=ru;exact call_range_1 ⟨.ref s.heap.objs.size,_,I.laid (o:=.rng 0 j) (λb o e=>bw _ e) (bh _) ⟨_,_,_,gq _ rfl⟩,rfl,q _ (I.hok.fresh (bh _))⟩
theorem Ue {j:Int}(h1:-(2 ^ 62)<=j) (h2:j < 2 ^ 62):CV 0 j 1=true/\wz 0 j 1=(j.toNat:Int):=by
 refine ⟨small_one (by omega) (by omega) h1 h2,?_⟩;rw [rangeSize_one];split <;> omega
theorem Vn (hc:X.calm=true):Bt X (.type "list") (λxs H Q=>∃ a j,xs=[.ref a]/\H a=some (.rng 0 j)/\-(2 ^ 62)<=j/\j<=1000000/\∀ p,H p=none->Q (.ref p) (upd H p (.lst ((dm j.toNat).map λ(i:Nat)=>V.int (0+(i:Int)))))):=by
 rintro pins s σ H xs us Q I r ⟨a,j,e,hH,h1,h2,q⟩;subst e;obtain ⟨u,rfl,ru⟩:=vals1 r;cases ru;obtain ⟨t,u,v,hr⟩:=I.hok a _ hH;obtain ⟨f1,f2⟩:=Ue h1 (show j < 2 ^ 62 by omega);refine call_list_range (I.ok.hd hc) hr f1 f2 (by omega) λh' tk acc c hk hS hacc=>?_
 exact ⟨.ref s.heap.objs.size,_,I.laid (t':=tk) (o:=.lst ((dm j.toNat).map λ(i:Nat)=>V.int (0+(i:Int)))) hk (bh _) ⟨by simp [qp];omega,acc.toList,c,Q5 hacc,by simpa using hS⟩,rfl,q _ (I.hok.fresh (bh _))⟩
theorem Td (hc:X.calm=true):Bt X (.type "tuple") (λxs H Q=>∃ a j,xs=[.ref a]/\H a=some (.rng 0 j)/\-(2 ^ 62)<=j/\j<=1000000/\∀ p,H p=none->Q (.ref p) (upd H p (.tup ((dm j.toNat).map λ(i:Nat)=>V.int (0+(i:Int)))))):=by
 rintro pins s σ H xs us Q I r ⟨a,j,e,hH,h1,h2,q⟩;subst e;obtain ⟨u,rfl,ru⟩:=vals1 r;cases ru;obtain ⟨t,u,v,hr⟩:=I.hok a _ hH;obtain ⟨f1,f2⟩:=Ue h1 (show j < 2 ^ 62 by omega);refine Tc (I.ok.hd hc) hr f1 f2 (by omega) λh' tk acc hk hacc=>?_
 have I1:Inv X pins σ H { s with heap:=h',toks:=tk }:=I.kept (t':=tk) hk;exact ⟨.ref h'.objs.size,_,I1.laid (t':=tk) (o:=.tup ((dm j.toNat).map λ(i:Nat)=>V.int (0+(i:Int)))) (λb o e=>bw _ e) (bh _) ⟨by simp [qp];omega,acc.toList,Q5 hacc,by simpa using O3.new h' acc⟩,rfl,q _ (I1.hok.fresh (bh _))⟩
noncomputable def Ff (x:D) (mh:MH):Option (D×MH):=match x with
 | .int j=>if -(2 ^ 62)<=j/\j<=1000000 then some (.ref mh.length,mh++[.lst (Cg 0 j.toNat)]) else none
 | _=>none
noncomputable def Pk (x:D) (mh:MH):Option (D×MH):=match x with
 | .int j=>if -(2 ^ 62)<=j/\j<=1000000 then some (.tup (Cg 0 j.toNat),mh) else none
 | _=>none
theorem Ug {K:aj}{H:Hp}{ρ:List Addr}(n:Nat):RDs K H ρ (Cg 0 n) ((dm n).map λ(i:Nat)=>V.int (0+(i:Int))):=by
 unfold Cg;generalize dm n=l
 induction l with
 | nil=>exact .nil
 | cons i r ih=>exact .cons (.int _) ih
variable {a:Expr}{ma:DM D}{p p2 pos pos2:Pos}
theorem aY (hc:X.calm=true) (hg:Gl X "list") (hm:X.mg "list"=none) (hg2:Gl X "range") (hm2:X.mg "range"=none) (ha:DE X a ma) (hs:starEach [a] X.env=(false,eval a X.env)::starEach [] X.env) :
  DE X (.Call (.Name "list" p) [.Call (.Name "range" p2) [a] [] pos2] [] pos) (ma.bnd λx=>Zl (Ff x)):=λloc mh =>
 Br (Fx (Vn hc) hg hm (by decide +kernel) (Ea (Fx Ud hg2 hm2 WW (Ea (ha loc mh) G4 hs) (by decide) (by decide) hs) G4)) λσ H Q ⟨ρ,d,mh',q,rl,rs,co⟩=>by
  obtain ⟨x,m1,ea,q⟩:=Ao q;refine ⟨ρ,x,m1,ea,rl,rs,λH1 ρ1 v e1 rs1 r1=>?_⟩;have q:Ff x m1=some (d,mh'):=q;cases r1 with
  | int j =>
   simp only [Ff] at q;split at q
   ·rename_i hl;cases q;exact ⟨j,rfl,hl.1,by omega,λb hb=>⟨b,j,rfl,Bw,hl.1,hl.2,Co.newL (rs1.new hb) (Ug _) (co.ev (e1.trans (Ev.new hb)))⟩⟩
   ·cases q
  | _=>cases q
theorem lJ (hc:X.calm=true) (hg:Gl X "tuple") (hm:X.mg "tuple"=none) (hg2:Gl X "range") (hm2:X.mg "range"=none) (ha:DE X a ma) (hs:starEach [a] X.env=(false,eval a X.env)::starEach [] X.env) :
  DE X (.Call (.Name "tuple" p) [.Call (.Name "range" p2) [a] [] pos2] [] pos) (ma.bnd λx=>Zl (Pk x)):=λloc mh =>
 Br (Fx (Td hc) hg hm (by decide +kernel) (Ea (Fx Ud hg2 hm2 WW (Ea (ha loc mh) G4 hs) (by decide) (by decide) hs) G4)) λσ H Q ⟨ρ,d,mh',q,rl,rs,co⟩=>by
  obtain ⟨x,m1,ea,q⟩:=Ao q;refine ⟨ρ,x,m1,ea,rl,rs,λH1 ρ1 v e1 rs1 r1=>?_⟩;have q:Pk x m1=some (d,mh'):=q;cases r1 with
  | int j =>
   simp only [Pk] at q;split at q
   ·rename_i hl;cases q;exact ⟨j,rfl,hl.1,by omega,λb hb=>⟨b,j,rfl,Bw,hl.1,hl.2,Co.newT (rs1.new hb) (Ug _) (co.ev (e1.trans (Ev.new hb)))⟩⟩
   ·cases q
  | _=>cases q
end
end DL
namespace DL
open PySem PySem.Spec PyProof.Rows L2 PySem.W
noncomputable def sortI (ns:List Int):List Int:=ns.mergeSort λa b=>decide (a<=b)
theorem sortI_perm (ns:List Int):(sortI ns).Perm ns:=List.mergeSort_perm _ _
theorem qT (ns:List Int):(sortI ns).Pairwise (·<=·):=by
 have h:=List.pairwise_mergeSort (le:=λa b:Int=>decide (a<=b)) (λa b c h1 h2=>by simp at *;omega) (λa b=>by simp;omega) ns;exact h.imp λh=>by simpa using h
theorem qU {ns l:List Int}(p:l.Perm ns) (h:l.Pairwise (·<=·)):l=sortI ns:=qO (p.trans (sortI_perm ns).symm) h (qT ns)
noncomputable def Akf:List Int->List Int->Bool
 | [],[]=>false
 | [],_::_=>true
 | _::_,[]=>false
 | x::xs,y::ys=>if (x==y)=true then Akf xs ys else decide (x < y)
section
variable {prog:Program}{w:World}{A:Around}{E:Value->Shared->Prop}{κ:SortKind}{it:Array Keyed}{s:Shared}
end
theorem Uh:∀ {ns:List Int}{us:List Value},Vals (ns.map V.int) us->IntsAre us ns
 | [],_,.nil=>.nil
 | _::_,_,.cons ⟨t,e⟩ h=>by subst e;exact .cons _ _ (Uh h)
section
variable {prog:Program}{w:World}{A:Around}{E:Value->Shared->Prop}{s:Shared}
end
noncomputable def Gr:List D->MH->Option (D×MH)
 | [.ref n],mh=>match mh[n]? with
  | some (.lst ds)=>match intsOf ds with
   | some ns=>if ns.length < 64 then some (.ref mh.length,mh++[.lst ((sortI ns).map .int)]) else none
   | none=>none
  | _=>none
 | _,_=>none
theorem Vo {ds:List D}{mh mh':MH}{d:D}(q:Gr ds mh=some (d,mh')):∃ n,ds=[.ref n]:=by
 unfold Gr at q;split at q
 ·exact ⟨_,rfl⟩
 ·cases q
theorem Vp (h:Heap) (vs:List Value) (out:Array Value):∃ c,(∀ b o,h.get? b=some o->(sortedAll h vs out).get? b=some o)/\(sortedAll h vs out).get? (h.objs.size+1)=some (seqObj "list" out c):=by
 have hsz:((h.push (seqObj "list" #[] 0)).update h.objs.size (CN (·++vs.toArray))).objs.size=h.objs.size+1:=by
  rw [Heap.size_update,size_push']
 have hoL:(((h.push (seqObj "list" #[] 0)).update h.objs.size (CN (·++vs.toArray))).push (seqObj "list" vs.toArray 0)).get? (h.objs.size+1)=some (seqObj "list" vs.toArray 0):=by
  rw [← hsz];exact gq _ rfl
 have keep:∀ b o,h.get? b=some o->(((h.push (seqObj "list" #[] 0)).update h.objs.size (CN (·++vs.toArray))).push (seqObj "list" vs.toArray 0)).get? b=some o:=λb o q=>by
  have hlt:b < h.objs.size:=Heap.lt_size q;rw [WL _ _ _ (by rw [hsz];exact iz (qi hlt)),Heap.get?_update_ne _ _ _ _ (iz hlt),WL _ _ _ (iz hlt)];exact q
 obtain ⟨c,at'⟩:=sortedHeap_at (a:=h.objs.size+1) (vs:=vs) (n:=0) (out:=out) hoL;refine ⟨c,λb o q=>?_,at'⟩;unfold sortedAll;rw [sortedHeap_old (iz (qi (Heap.lt_size q))) (Heap.lt_size (keep b o q))];exact keep b o q
theorem Q6 {K:aj}{H:Hp}{ρ:List Addr}:∀ (ns:List Int),RDs K H ρ (ns.map D.int) (ns.map V.int)
 | []=>.nil
 | _::r=>.cons (.int _) (Q6 r)
section
variable {X:Cx}
theorem Vq:Bt X (.builtin "sorted") (rDs X.K Gr):=by
 rintro pins s σ H xs us Q I r ⟨ρ,mh,ds,d,mh',q,rs,rd,co⟩;obtain ⟨n,rfl⟩:=Vo q
 ·obtain ⟨v,rfl,rx⟩:=O6 rd;obtain ⟨u,rfl,ru⟩:=vals1 r
  have q:(match mh[n]? with
   | some (.lst ds)=>(match intsOf ds with
    | some ns=>if ns.length < 64 then some (D.ref mh.length,mh++[.lst ((sortI ns).map .int)]) else none
    | none=>none)
   | _=>none)=some (d,mh'):=q
  split at q
  ·rename_i es en;obtain ⟨p,ys,rfl,hq,ry⟩:∃ p ys,v=.ref p/\SqL X.K H p ys/\RDs X.K H ρ es ys:=by
    cases rx with
    | ref h =>
     obtain ⟨a',ha,ro⟩:=rs.at en;rw [h] at ha;cases ha;obtain ⟨xs,q,r⟩:=ro.read;exact ⟨_,xs,rfl,q,r⟩
   cases ru;obtain ⟨its,rv,pl,hz⟩:=I.list hq;split at q
   ·rename_i ns ei;split at q
    ·rename_i h64;cases q;rw [Fe ei] at ry;rw [Ly ry] at hq rv;have hlen:=rv.length;refine sorted_ints pl.isList (Uh rv) (by simp at hlen;omega) λout ns' a1 a2 a3=>?_
     have es':ns'=sortI ns:=qU a2 a3;subst es';obtain ⟨c,kp,at'⟩:=Vp s.heap its out;refine ⟨.ref (s.heap.objs.size+1),_,I.laid (t':=s.toks) (a:=s.heap.objs.size+1) (o:=.lst ((sortI ns).map V.int)) kp (vf _) ⟨?_,out.toList,c,Ho a1,?_⟩,rfl,Co.newL rs (Q6 (sortI ns)) co _ (I.hok.fresh (vf _))⟩
     ·rw [ak,(sortI_perm ns).length_eq,qp];omega
     ·rw [at']
    ·cases q
   ·cases q
  ·cases q
end
noncomputable abbrev TX:=Str×List Int
noncomputable def Amj (a b:TX):Bool:=if a.1=b.1 then Akf a.2 b.2 else decide (a.1.cps.toList < b.1.cps.toList)
noncomputable def Akg (ks:List TX):List TX:=ks.mergeSort λa b=>!Amj b a
section
variable {n:Nat}{lt:Nat->Nat->Bool}
end
section
variable {prog:Program}{w:World}{A:Around}{E:Value->Shared->Prop}{s:Shared}
end
noncomputable def txD (k:TX):D:=.tup (.str k.1::k.2.map D.int)
section
variable {X:Cx}
end
noncomputable def Ac9:List D->Option (List TX)
 | []=>some []
 | .tup (.str x::r)::t=>match intsOf r with
  | some ns=>match Ac9 t with
   | some l=>some ((x,ns)::l)
   | none=>none
  | none=>none
 | _=>none
section
variable {K:aj}{H:Hp}{ρ:List Addr}
end
section
variable {X:Cx}{a:Expr}{ma:DM D}{p p2 pos pos2:Pos}
end
end DL
namespace DL
open PySem PySem.Spec PyProof.Rows L2
section
variable {prog:Program}{w:World}{A:Around}{E:Value->Shared->Prop}{s:Shared}
end
section
variable {prog:Program}{w:World}{A:Around}{E:Value->Shared->Prop}{s:Shared}
end
section
variable {X:Cx}
end
section
variable {prog:Program}{w:World}{A:Around}{E:Value->Shared->Prop}{s:Shared}
end
section
variable {prog:Program}{w:World}{A:Around}{E:Value->Shared->Prop}{s:Shared}{k1 k2:SeqK}{S z TI TO i1 i2 l1 l2:Addr}{i:Nat}
end
noncomputable def Afx (a b:D):D:=.tup [a,b]
noncomputable def qW:List D->MH->Option (D×MH)
 | [x,y],mh=>match En x mh,En y mh with
  | some as,some bs=>some (.ref mh.length,mh++[.lst (NK Afx as bs)])
  | _,_=>none
 | _,_=>none
section
variable {X:Cx}
end
end DL
namespace DL
open PySem PySem.Spec PyProof.Rows L2 PySem.W
noncomputable def qX:List D->MH->Option (D×MH)
 | [x,y],mh=>match En x mh,En y mh with
  | some as,some bs=>match Ac9 (NK Afx as bs) with
   | some ks=>if ks.Nodup/\ks.length < 64 then some (.ref (mh.length+1),mh++[.lst (NK Afx as bs)]++[.lst ((Akg ks).map txD)]) else none
   | none=>none
  | _,_=>none
 | _,_=>none
section
variable {X:Cx}
end
end DL
namespace DL
open PySem PySem.Spec PyProof.Rows L2
section
variable {X:Cx}
end
noncomputable def Oq (T1:String) (f1:D->List D->MH->Option (D×MH)) (T2:String) (f2:D->List D->MH->Option (D×MH)) (mo:DM D) (mr:DM (List D)):DM D:=λloc mh=>match mo loc mh with
 | some (x,m1)=>if Vk T1 x m1 then Dq T1 f1 mo mr loc mh else Dq T2 f2 mo mr loc mh
 | none=>none
theorem Xx {X:Cx}{e:Expr}{T1 T2:String}{f1 f2:D->List D->MH->Option (D×MH)}{mo:DM D}{mr:DM (List D)}(h1:DE X e (Dq T1 f1 mo mr)) (h2:DE X e (Dq T2 f2 mo mr)):DE X e (Oq T1 f1 T2 f2 mo mr):=λloc mh=>by
 unfold Oq;split
 ·split
  ·exact h1 loc mh
  ·exact h2 loc mh
 ·exact Cd
section
variable {prog:Program}{w:World}{A:Around}{E:Value->Shared->Prop}{s:Shared}
end
inductive DEnts (w:World) (K:aj):List DictEntry->List (Str×D)->Prop
 | nil:DEnts w K [] []
 | cons {k:Str} {t:Tok} {u:Value} {v:V} {d:D} {es:List DictEntry} {kvs:List (Str×D)}:RelV v u->(∀ H ρ,RD K H ρ d v)->DEnts w K es kvs->DEnts w K ({ hash:=hashStr w k,key:=.str k t,val:=u }::es) ((k,d)::kvs)
structure DicOk (w:World) (K:aj) (a:Addr) (kvs:List (Str×D)):Prop where
 ns:(a==sysModules)=false
 ob:∃ o es ep,K.lookup a=some o/\o.ExactDict/\o.data=.dict es ep/\DEnts w K es.toList kvs
section
variable {X:Cx}{a:Addr}{kvs:List (Str×D)}
variable {e:Expr}{me:DM D}{x:Str}{p pos:Pos}
end
mutual
noncomputable def rdV (K:aj):Nat->Value->Option D
 | _,.none=>some .non
 | _,.bool b=>some (.bl b)
 | _,.int i _=>some (.int i)
 | _,.str x _=>some (.str x)
 | n+1,.ref a=>match K.lookup a with
  | some ⟨.type c,none,.seq its _,_⟩=>if c == "tuple"&&decide (its.size<=1000) then (match lK K n its.toList with | some ds=>some (.tup ds) | none=>none) else none
  | _=>none
 | _,_=>none
noncomputable def lK (K:aj):Nat->List Value->Option (List D)
 | _,[]=>some []
 | 0,_::_=>none
 | n+1,u::r=>match rdV K n u with
  | some d=>(match lK K n r with | some ds=>some (d::ds) | none=>none)
  | none=>none
end
mutual
theorem qY {K:aj}:∀ (n:Nat) {u:Value}{d:D},rdV K n u=some d->∃ v,RelV v u/\∀ H ρ,RD K H ρ d v
 | n,.none,d,h=>by cases n <;> (simp only [rdV] at h;cases h;exact ⟨.non,rfl,λ_ _=>.non⟩)
 | n,.bool b,d,h=>by cases n <;> (simp only [rdV] at h;cases h;exact ⟨.bl b,rfl,λ_ _=>.bl b⟩)
 | n,.int i t,d,h=>by cases n <;> (simp only [rdV] at h;cases h;exact ⟨.int i,⟨t,rfl⟩,λ_ _=>.int i⟩)
 | n,.str x t,d,h=>by cases n <;> (simp only [rdV] at h;cases h;exact ⟨.str x,⟨t,rfl⟩,λ_ _=>.str x⟩)
 | 0,.ref a,d,h=>by simp only [rdV] at h;cases h
 | n+1,.ref a,d,h=>by
  simp only [rdV] at h;split at h
  ·rename_i c its ep sl hk;split at h
   ·rename_i hc;rw [bf,decide_eq_true_iff] at hc;split at h
    ·rename_i ds hd;cases h;obtain ⟨vs,h1,h2⟩:=eO n hd;refine ⟨.ref a,rfl,λH ρ=>.tup (.inr ⟨_,its,ep,hk,by rw [dj hc.1],rfl,rfl,?_,h1⟩) (h2 H ρ)⟩;rw [qp];omega
    ·cases h
   ·cases h
  ·cases h
 | n,.float _ _,d,h=>by cases n <;> (simp only [rdV] at h;cases h)
 | n,.bytes _ _,d,h=>by cases n <;> (simp only [rdV] at h;cases h)
 | n,.ellipsis,d,h=>by cases n <;> (simp only [rdV] at h;cases h)
 | n,.notImplemented,d,h=>by cases n <;> (simp only [rdV] at h;cases h)
 | n,.type _,d,h=>by cases n <;> (simp only [rdV] at h;cases h)
 | n,.builtin _,d,h=>by cases n <;> (simp only [rdV] at h;cases h)
theorem eO {K:aj}:∀ (n:Nat) {us:List Value}{ds:List D},lK K n us=some ds->∃ vs,Vals vs us/\∀ H ρ,RDs K H ρ ds vs
 | n,[],ds,h=>by cases n <;> (simp only [lK] at h;cases h;exact ⟨[],.nil,λ_ _=>.nil⟩)
 | 0,_::_,ds,h=>by simp only [lK] at h;cases h
 | n+1,u::r,ds,h=>by
  simp only [lK] at h;split at h
  ·rename_i d hd;split at h
   ·rename_i ds' hr;cases h;obtain ⟨v,a1,a2⟩:=qY n hd;obtain ⟨vs,b1,b2⟩:=eO n hr;exact ⟨v::vs,.cons a1 b1,λH ρ=>.cons (a2 H ρ) (b2 H ρ)⟩
   ·cases h
  ·cases h
end
theorem Q7 {K:aj}{H:Hp}{ρ:List Addr}{f:Str}{d:D}:∀ {ks:List Str}{ds:List D}{xs:List V},RDs K H ρ ds xs->(ks.zip ds).lookup f=some d->∃ v,(ks.zip xs).lookup f=some v/\RD K H ρ d v
 | [],_,_,_,h=>by simp at h
 | k::ks,_,_,.nil,h=>by simp at h
 | k::ks,_,_,.cons r t,h=>by
  rw [UL,qe] at h ⊢;cases e:f==k with
  | true=>rw [e] at h;cases h;exact ⟨_,rfl,r⟩
  | false=>rw [e] at h;exact Q7 t h
theorem Q8 {f:Str}:∀ {ks:List Str}{xs:List V},ks.contains f=false->(ks.zip xs).lookup f=none
 | [],_,_=>by simp
 | k::ks,[],_=>by simp
 | k::ks,x::xs,h=>by
  rw [UW,HJ] at h;rw [UL,qe,h.1];exact Q8 h.2
noncomputable def qZ (c f:Str) (x:D) (mh:MH):Option (D×MH):=match x with
 | .obj c' ks ds=>if c'==c then (match (ks.zip ds).lookup f with | some d=>some (d,mh) | none=>none) else none
 | _=>none
section
variable {X:Cx}{o:Expr}{mo:DM D}{c f:Str}{C:Addr}{pos apos:Pos}
theorem Afy (hn:jo X.K mainGlobals c=some (some (.ref C))) (hc:Cls X.K C) (ha:Ga X.K C f) (ho:DE X o mo) (hb:attributeBase o f X.env (eval o X.env)=eval o X.env):DE X (.Attribute o f pos) (mo.bnd λx=>Zl (qZ c f x)):=λloc mh =>
 Br (Aer (ho loc mh) hb) λσ H Q ⟨ρ,d,mh',q,rl,rs,co⟩=>by
  obtain ⟨x,m1,ea,q2⟩:=Ao q
  clear q
  refine ⟨ρ,x,m1,ea,rl,rs,λH1 ρ1 v e1 rs1 r1=>?_⟩;change qZ c f x m1=some (d,mh') at q2;cases r1 with
  | @obj c' ks ds a C' dx xs h1 h2 h3 h4 =>
   simp only [qZ] at q2;split at q2
   ·rename_i hcc;have e:=dj hcc;subst e;rw [hn] at h1;cases h1;split at q2
    ·rename_i d' hl;cases q2;obtain ⟨v',l1,l2⟩:=Q7 h4 hl;exact ⟨a,C,dx,_,v',rfl,h2,hc,ha,l1,co H1 ρ1 _ e1 rs1 l2⟩
    ·cases q2
   ·cases q2
  | _=>cases q2
noncomputable def Q9 (c m:Str) (f:List D->MH->Option (D×MH)) (mo:DM D) (mr:DM (List D)):DM D:=mo.bnd λx=>match x with
 | .obj c' ks ds=>if c'==c&&!(ks.contains m) then mr.bnd λas=>Zl (f (.obj c' ks ds::as)) else Zb
 | _=>Zb
theorem Ui {env:Env}{o:Expr}{m:Str}{args:List Expr}(hbase:attributeBase o m env (eval o env)=eval o env)
  (hfew:((backTo pos (starEach args env)).all (λx=>!x.1)&&(backToKw pos (keywordEach [] env)).all (λx=>x.1.isSome)&&decide (args.length+([]:List Keyword).length+(if ([]:List Keyword).isEmpty then 0 else 1) < 30))=true)
  (hline:(apos.endLine==pos.line)=true) :
  eval (.Call (.Attribute o m apos) args [] pos) env=(do
   let ov ← eval o env
   standAt apos.atName
   let (f,first) ← holding [ov] (getMethod ov m (do return (← importBound o env).getD true))
   callWith pos f first (backTo pos (starEach args env)) (backToKw pos (keywordEach [] env))):=by
 rw [arm_eval_Call,hbase];have hform:methodCallForm (args.length+([]:List Keyword).length) (backTo pos (starEach args env)) (backToKw pos (keywordEach [] env))=true:=hfew;have hpos:methodCallPos true o env apos pos=pure pos:=by unfold methodCallPos;simp [hline]
 unfold methodCall;rw [hform,hpos];rfl
variable {CX:CXT}{k:Nat}{fa:Addr}{fd:FuncData}{ps:List Str}{m:Str}{g:List D->MH->Option (D×MH)}{e:Expr}{es:List Expr}{mr:DM (List D)}{E:XK}
theorem Ra {loc:Loc}{mh:MH}{r:D×MH}(h:Q9 c m g mo mr loc mh=some r):∃ ks ds m1,mo loc mh=some (.obj c ks ds,m1)/\ks.contains m=false/\∃ as m2,mr loc m1=some (as,m2)/\g (.obj c ks ds::as) m2=some r:=by
 obtain ⟨x,m1,ea,h2⟩:=Ao h
 clear h
 cases x with
 | obj c' ks ds =>
  simp only at h2;split at h2
  ·rename_i hc;rw [bf] at hc;have ec:=dj hc.1;subst ec;obtain ⟨as,m2,eb,h3⟩:=Ao h2;exact ⟨ks,ds,m1,ea,by simpa using hc.2,as,m2,eb,h3⟩
  ·cases h2
 | _=>cases h2
theorem Aa9 (hn:jo X.K mainGlobals c=some (some (.ref C))) (hc:Cls X.K C) (hm:Meth X.K C m fa) (F:FnOk X.prog X.w X.K X.mg X.base CX k fa fd ps (spD X.K ps.length g)) (hr:Room k X.A) (hb:Binds X.K fd ps []) (hx:Du CX X E) (ho:DE X o mo) (ha:DA X (e::es) mr)
  (hl:∀ ds mh r,g ds mh=some r->ds.length=ps.length) (hbase:attributeBase o m X.env (eval o X.env)=eval o X.env)
  (hfew:((backTo pos (starEach (e::es) X.env)).all (λx=>!x.1)&&(backToKw pos (keywordEach [] X.env)).all (λx=>x.1.isSome)&&decide ((e::es).length+([]:List Keyword).length+(if ([]:List Keyword).isEmpty then 0 else 1) < 30))=true)
  (hline:(apos.endLine==pos.line)=true) (hst:starEach (e::es) X.env=(false,eval e X.env)::starEach es X.env) (hpl:(backTo pos (starEach es X.env)).any (·.1)=false) :
  DE X (.Call (.Attribute o m apos) (e::es) [] pos) (Q9 c m g mo mr):=λloc mh=>by
 cases eq:Q9 c m g mo mr loc mh with
 | none=>exact Cd
 | some r =>
  obtain ⟨ks,ds,m1,ea,hk,as,m2,eb,hg⟩:=Ra eq;refine Br (zO (ho loc mh) hc hm F hr hb .nil hx (ha loc m1) hst hpl (Ui hbase hfew hline)) ?_;rintro σ H Q ⟨ρ,d,mh',q,rl,rs,co⟩;cases q;refine ⟨ρ,_,m1,ea,rl,rs,λH1 ρ1 v e1 rs1 r1=>?_⟩;cases r1 with
  | @obj _ _ _ a C' dx xs h1 h2 h3 h4 =>
   rw [hn] at h1;cases h1;refine ⟨a,dx,_,rfl,h2,Q8 hk,ρ1,as,m2,eb,rl.mono e1,rs1,λH2 ρ2 vs e2 rs2 r2=>?_⟩;show spD X.K ps.length g (.ref a::(vs++[])) H2 Q E;rw [yc];have rr:RDs X.K H2 ρ2 (.obj c ks ds::as) (.ref a::vs):=.cons (.obj hn (e2.ins _ _ _ _ h2) h3 (h4.mono e2)) r2;exact ⟨by rw [← rr.length];exact hl _ _ _ hg,ρ2,m2,_,d,mh',hg,rs2,rr,co.ev (e1.trans e2)⟩
theorem rA (hn:jo X.K mainGlobals c=some (some (.ref C))) (hc:Cls X.K C) (hm:Meth X.K C m fa) (F:FnOk X.prog X.w X.K X.mg X.base CX k fa fd ps (spD X.K ps.length g)) (hr:Room k X.A) (hb:Binds X.K fd ps []) (hx:Du CX X E) (ho:DE X o mo)
  (hl:∀ ds mh r,g ds mh=some r->ds.length=ps.length) (hbase:attributeBase o m X.env (eval o X.env)=eval o X.env) (hline:(apos.endLine==pos.line)=true) :
  DE X (.Call (.Attribute o m apos) [] [] pos) (Q9 c m g mo (Zr [])):=λloc mh=>by
 cases eq:Q9 c m g mo (Zr []) loc mh with
 | none=>exact Cd
 | some r =>
  obtain ⟨ks,ds,m1,ea,hk,as,m2,eb,hg⟩:=Ra eq;cases eb;refine Br (oR (ho loc mh) hc hm F hr hb .nil hx (Ui hbase rfl hline)) ?_;rintro σ H Q ⟨ρ,d,mh',q,rl,rs,co⟩;cases q;refine ⟨ρ,_,m1,ea,rl,rs,λH1 ρ1 v e1 rs1 r1=>?_⟩;cases r1 with
  | @obj _ _ _ a C' dx xs h1 h2 h3 h4 =>
   rw [hn] at h1;cases h1;refine ⟨a,dx,_,rfl,h2,Q8 hk,?_⟩;have rr:RDs X.K H1 ρ1 [.obj c ks ds] [.ref a]:=.cons (.obj hn h2 h3 h4) .nil;have hl1:[V.ref a].length=ps.length:=by rw [← rr.length];exact hl _ _ _ hg
   exact ⟨hl1,ρ1,m1,_,d,mh',hg,rs1,rr,co.ev e1⟩
noncomputable def spI (C:Addr) (f:Str):Sp:=λvs H Q _=>∃ x dx v,vs=[.ref x,v]/\H x=some (.ins C dx [])/\Q .non (upd H x (.ins C dx [(f,v)]))
theorem Aba {x:Str}{p:Pos}{ma:DM D}{a:Expr}(hn:jo X.K mainGlobals x=some (some (.ref C))) (M:Mk X.K C fa) (F:FnOk X.prog X.w X.K X.mg X.base CX k fa fd ps (spI C f)) (hr:Room (k+1) X.A) (hg:Gl X x) (hm:X.mg x=some (.ref C)) (hb:Binds X.K fd ps []) (hx:Du CX X E)
  (ha:DE X a ma) (hdb:(x==("__debug__":Str))=false) (hs:starEach [a] X.env=(false,eval a X.env)::starEach [] X.env) :
  DE X (.Call (.Name x p) [a] [] pos) (ma.bnd λd=>Zr (.obj x [f] [d])):=λloc mh =>
 Br (zP M F hr hg hm hb .nil hx (Ea (ha loc mh) G4 hs) hdb hs) λσ H Q ⟨ρ,d,mh',q,rl,rs,co⟩=>by
  obtain ⟨y,m1,ea,q⟩:=Ao q;cases q;refine ⟨ρ,y,_,ea,rl,rs,λH1 ρ1 v e1 rs1 r1=>λz dx hz hdx hne=>?_⟩;refine ⟨z,dx,v,rfl,Bw,rfl,?_⟩;have e2:Ev X.K H1 ρ1 (upd (upd H1 dx (.own z)) z (.ins C dx [])) ρ1:=(Ev.new hdx).trans (Ev.new (by rw [Al (Ne.symm hne)];exact hz));have rs2:RS X.K (upd (upd H1 dx (.own z)) z (.ins C dx [])) ρ1 mh':=(rs1.new hdx).new (by rw [Al (Ne.symm hne)];exact hz);rw [yQ];have hz':upd H1 dx (HO.own z) z=none:=by rw [Al (Ne.symm hne)];exact hz
  refine co _ ρ1 _ (e1.trans ((Ev.new hdx).trans (Ev.new hz'))) ((rs1.new hdx).new hz') ?_;exact .obj (xs:=[v]) hn Bw rfl (.cons (r1.mono ((Ev.new hdx).trans (Ev.new hz'))) .nil)
end
theorem Abb {P:Program}{w:World}{K:aj}{mg:Str->Option Value}{base:Heap}{qual:Str}{st:Stmt}{fa C:Addr}{fd:FuncData}{s q f:Str}{p1 p2 p3 p4:Pos}(F:Fun K "__init__" qual st fa fd) (S:FnScope [s,q] [s,q] (Bc st)) (hb:Cz st=[.Assign [.Attribute (.Name s p1) f p2] (.Name q p3) p4])
  (hs1:Vis (Bc st) s) (hq1:Vis (Bc st) q) (hc:Cls K C) (ha:Ga K C f) (d1:(s==("__debug__":Str))=false/\(s==("__classdict__":Str))=false) (d2:(q==("__debug__":Str))=false/\(q==("__classdict__":Str))=false):FnOk P w K mg base CX0 1 fa fd [s,q] (spI C f):=by
 refine F.ok S (λvs H Q E h=>?_) λcdv A outer sh H vs Q E hr h=>?_
 ·obtain ⟨x,dx,v,rfl,_⟩:=h;rfl
 ·obtain ⟨x,dx,v,rfl,hx,hQ⟩:=h;rw [hb];refine ⟨_,yX (Aes (Zx (i:=0) rfl ?_ d1.1 d1.2) (Zx (i:=1) rfl ?_ d2.1 d2.2) rfl),?_⟩
  ·exact hs1
  ·exact hq1
  ·exact ⟨v,rfl,.ref x,rfl,x,C,dx,[],rfl,hx,hc,ha,by show 0 < 1000;decide,hQ⟩
noncomputable abbrev Fn:=List D->MH->Option (D×MH)
noncomputable def K1 (ok:Str->Str->Bool) (f:Str) (mo:DM D):DM D:=mo.bnd λx=>match x with
 | .obj c ks ds=>if ok c f then Zl (qZ c f (.obj c ks ds)) else Zb
 | _=>Zb
noncomputable def Hf (met:Str->Str->Option (List Str×Fn)) (m:Str) (mo:DM D) (mr:DM (List D)):DM D:=mo.bnd λx=>match x with
 | .obj c ks ds=>(match met c m with
  | some (_,g)=>if ks.contains m then Zb else mr.bnd λas=>Zl (g (.obj c ks ds::as))
  | none=>Zb)
 | _=>Zb
section
variable {X:Cx}{o:Expr}{mo:DM D}{f m:Str}{pos apos:Pos}
theorem Abd {ok:Str->Str->Bool}(hok:∀ c,ok c f=true->∃ C,jo X.K mainGlobals c=some (some (.ref C))/\Cls X.K C/\Ga X.K C f) (ho:DE X o mo) (hb:attributeBase o f X.env (eval o X.env)=eval o X.env):DE X (.Attribute o f pos) (K1 ok f mo):=λloc mh=>by
 cases ea:mo loc mh with
 | none =>
  have:K1 ok f mo loc mh=none:=by unfold K1 DM.bnd;rw [ea]
  rw [this];exact Cd
 | some pr =>
  obtain ⟨x,m1⟩:=pr;cases x with
  | obj c ks ds =>
   by_cases h:ok c f=true
   ·obtain ⟨C,h1,h2,h3⟩:=hok c h;have e:K1 ok f mo loc mh=(mo.bnd λx=>Zl (qZ c f x)) loc mh:=by unfold K1 DM.bnd;rw [ea];dsimp only;rw [if_pos h]
    rw [e];exact Afy h1 h2 h3 ho hb loc mh
   ·have:K1 ok f mo loc mh=none:=by unfold K1 DM.bnd;rw [ea];dsimp only;rw [if_neg h];rfl
    rw [this];exact Cd
  | _ =>
   have:K1 ok f mo loc mh=none:=by unfold K1 DM.bnd;rw [ea];rfl
   rw [this];exact Cd
theorem eU {met:Str->Str->Option (List Str×Fn)}{mr:DM (List D)}{loc:Loc}{mh m1:MH}{c:Str}{ks:List Str}{ds:List D}{ps:List Str}{g:Fn}(ea:mo loc mh=some (.obj c ks ds,m1)) (hm:met c m=some (ps,g)):Hf met m mo mr loc mh=Q9 c m g mo mr loc mh:=by
 unfold Hf Q9 DM.bnd;rw [ea];dsimp only;rw [hm];dsimp only;cases hk:ks.contains m with
 | true=>rw [if_pos rfl,if_neg (by simp)]
 | false=>rw [if_neg (by simp),if_pos (by simp)]
theorem Abe {k:Nat}{E:XK}{e:Expr}{es:List Expr}{mr:DM (List D)}{met:Str->Str->Option (List Str×Fn)}
  (hm:∀ c ps g,met c m=some (ps,g)->∃ C fa fd,jo X.K mainGlobals c=some (some (.ref C))/\Cls X.K C/\Meth X.K C m fa/\Binds X.K fd ps []/\FnOk X.prog X.w X.K X.mg X.base CX0 k fa fd ps (spD X.K ps.length g)/\∀ ds mh r,g ds mh=some r->ds.length=ps.length)
  (hr:Room k X.A) (hx:Du CX0 X E) (ho:DE X o mo) (ha:DA X (e::es) mr) (hbase:attributeBase o m X.env (eval o X.env)=eval o X.env)
  (hfew:((backTo pos (starEach (e::es) X.env)).all (λx=>!x.1)&&(backToKw pos (keywordEach [] X.env)).all (λx=>x.1.isSome)&&decide ((e::es).length+([]:List Keyword).length+(if ([]:List Keyword).isEmpty then 0 else 1) < 30))=true)
  (hline:(apos.endLine==pos.line)=true) (hst:starEach (e::es) X.env=(false,eval e X.env)::starEach es X.env) (hpl:(backTo pos (starEach es X.env)).any (·.1)=false) :
  DE X (.Call (.Attribute o m apos) (e::es) [] pos) (Hf met m mo mr):=λloc mh=>by
 cases ea:mo loc mh with
 | none =>
  have:Hf met m mo mr loc mh=none:=by unfold Hf DM.bnd;rw [ea]
  rw [this];exact Cd
 | some pr =>
  obtain ⟨x,m1⟩:=pr;cases x with
  | obj c ks ds =>
   cases em:met c m with
   | none =>
    have:Hf met m mo mr loc mh=none:=by unfold Hf DM.bnd;rw [ea];dsimp only;rw [em];rfl
    rw [this];exact Cd
   | some pg =>
    obtain ⟨ps,g⟩:=pg;obtain ⟨C,fa,fd,h1,h2,h3,h4,h5,h6⟩:=hm c ps g em;rw [eU ea em];exact Aa9 (E:=E) h1 h2 h3 h5 hr h4 hx ho ha h6 hbase hfew hline hst hpl loc mh
  | _ =>
   have:Hf met m mo mr loc mh=none:=by unfold Hf DM.bnd;rw [ea];rfl
   rw [this];exact Cd
theorem rB {k:Nat}{E:XK}{met:Str->Str->Option (List Str×Fn)}
  (hm:∀ c ps g,met c m=some (ps,g)->∃ C fa fd,jo X.K mainGlobals c=some (some (.ref C))/\Cls X.K C/\Meth X.K C m fa/\Binds X.K fd ps []/\FnOk X.prog X.w X.K X.mg X.base CX0 k fa fd ps (spD X.K ps.length g)/\∀ ds mh r,g ds mh=some r->ds.length=ps.length)
  (hr:Room k X.A) (hx:Du CX0 X E) (ho:DE X o mo) (hbase:attributeBase o m X.env (eval o X.env)=eval o X.env) (hline:(apos.endLine==pos.line)=true) :
  DE X (.Call (.Attribute o m apos) [] [] pos) (Hf met m mo (Zr [])):=λloc mh=>by
 cases ea:mo loc mh with
 | none =>
  have:Hf met m mo (Zr []) loc mh=none:=by unfold Hf DM.bnd;rw [ea]
  rw [this];exact Cd
 | some pr =>
  obtain ⟨x,m1⟩:=pr;cases x with
  | obj c ks ds =>
   cases em:met c m with
   | none =>
    have:Hf met m mo (Zr []) loc mh=none:=by unfold Hf DM.bnd;rw [ea];dsimp only;rw [em];rfl
    rw [this];exact Cd
   | some pg =>
    obtain ⟨ps,g⟩:=pg;obtain ⟨C,fa,fd,h1,h2,h3,h4,h5,h6⟩:=hm c ps g em;rw [eU ea em];exact rA (E:=E) h1 h2 h3 h5 hr h4 hx ho h6 hbase hline loc mh
  | _ =>
   have:Hf met m mo (Zr []) loc mh=none:=by unfold Hf DM.bnd;rw [ea];rfl
   rw [this];exact Cd
end
section
variable {X:Cx}
noncomputable def Abf:List D->Option (Int×Int)
 | [.int i,.int j]=>some (i,j)
 | _=>none
theorem lM {ds:List D}{z:Int×Int}(h:Abf ds=some z):ds=[.int z.1,.int z.2]:=by
 match ds,h with
 | [d,e],h =>
  cases d with
  | int i =>
   cases e with
   | int j=>cases h;rfl
   | _=>cases h
  | _=>cases h
 | [],h=>cases h
 | [d],h=>cases d <;> cases h
 | d::e::_::_,h=>cases d <;> first | cases h | (cases e <;> cases h)
noncomputable def rC (f:Int->List Int->Int) (g:Fn):Fn:=λds mh=>match Abf ds with
 | some z=>some (.int (f z.1 [z.2]),mh)
 | none=>g ds mh
theorem aZ {v:Value}{f:Int->List Int->Int}{g:Fn}(h2:Bt X v (λxs H Q=>∃ i j,xs=[.int i,.int j]/\Q (.int (f i [j])) H)) (hg:Bt X v (rDs X.K g)):Bt X v (rDs X.K (rC f g)):=by
 rintro pins s σ H xs us Q I r ⟨ρ,mh,ds,d,mh',q,rs,rd,co⟩;unfold rC at q;cases e:Abf ds with
 | none=>rw [e] at q;exact hg pins s σ H xs us Q I r ⟨ρ,mh,ds,d,mh',q,rs,rd,co⟩
 | some z =>
  rw [e] at q;cases q;rw [lM e] at rd;obtain ⟨v1,v2,rfl,r1,r2⟩:=Ami rd;cases r1;cases r2;exact h2 pins s σ H _ us Q I r ⟨_,_,rfl,co H ρ _ Ev.refl rs (.int _)⟩
noncomputable def eV:Fn:=rC Np maxD
theorem bA (hc:X.calm=true):Bt X (.builtin "max") (rDs X.K eV):=aZ (jH hc) (kZ hc)
end
section
variable {X:Cx}{tg:Expr}
end
theorem Ot:fillsNumberSlot (.type "tuple") "mul"=pure false:=PySem.fillsNumberSlot_seq (id := "tuple.__mul__") (r:=some (.builtin "tuple.__rmul__")) PySem.F.slot_tuple_mul.lookup (by decide +kernel) PySem.F.slot_tuple_rmul.lookup (by decide +kernel)
theorem Ou:seqRepeat? (.type "tuple")=pure (some (.builtin "tuple.__mul__")):=by
 unfold seqRepeat?
 rw [PySem.seqSlot_of (T := "tuple") (name := "__mul__") (id := "tuple.__mul__") PySem.F.slot_tuple_mul.lookup (by decide +kernel),PySem.seqSlot_of (T := "tuple") (name := "__rmul__") (id := "tuple.__rmul__") PySem.F.slot_tuple_rmul.lookup (by decide +kernel)];rfl
theorem Uj (a:Int) (t:Tok) (l:Addr) (items:Array Value) (n:Nat) (dd:Option Addr) (sl:Array (Option Value)) :
  Meets (Builtin.«int.__rmul__» ⟨[.int a t,.ref l],[]⟩) (λ_ R s=>s.heap.get? l=some { cls:=.type "tuple",dict:=dd,data:=.seq items n,slots:=sl }/\R (.ok (.ret Value.notImplemented)) s) :=
 .of_wp λprog w A R s h=>by obtain ⟨hp,g,d,tk,os⟩:=s;obtain ⟨hl,h⟩:=h;wp_walk;exact ⟨_,rfl,h⟩
theorem rE (l:Addr) (items:Array Value) (n:Nat) (dd:Option Addr) (sl:Array (Option Value)) (x:Int) (u:Tok) (hc0:¬(decide (x < -(2 ^ 63)) || decide (x ≥ 2 ^ 63))=true) (hc1:¬(items.isEmpty || x==1)=true) (hc2:¬(decide (x<=0) || items.isEmpty)=true) (hc3:¬((items.size:Int) * x > (2 ^ 63 - 1) / 8)) (hc5:¬(KY (λx1 x2=>x1++x2) #[] (fj x.toNat items)).size > sizeLine) (hc4:¬zj ((items.size:Int) * x)=true) :
  Meets (Builtin.«tuple.__mul__» ⟨[.ref l,.int x u],[]⟩) (λ_ R s=>s.heap.get? l=some { cls:=.type "tuple",dict:=dd,data:=.seq items n,slots:=sl }/\R (.ok (.ret (Value.ref s.heap.objs.size))) { s with heap:=s.heap.push { cls:=Value.type "tuple",data:=Data.seq (KY (λx1 x2=>x1++x2) #[] (fj x.toNat items)) },toks:=s.toks }) :=
 .of_wp λprog w A R s h=>by
  obtain ⟨hp,g,d,tk,os⟩:=s;obtain ⟨hl,h⟩:=h;have f1:=AutoSeq1.idx_int;wp_walk using CZ hl
  simp only [hc0,zy,if_false];wp_walk using CZ hl
  simp only [hc3,if_false];wp_walk using CZ hl
  exact ⟨_,rfl,h⟩
theorem rF (l:Addr) (items:Array Value) (n:Nat) (dd:Option Addr) (sl:Array (Option Value)) (u:Tok) :
  Meets (Builtin.«tuple.__mul__» ⟨[.ref l,.int 1 u],[]⟩) (λ_ R s=>s.heap.get? l=some { cls:=.type "tuple",dict:=dd,data:=.seq items n,slots:=sl }/\R (.ok (.ret (Value.ref l))) s) :=
 .of_wp λprog w A R s h=>by
  obtain ⟨hp,g,d,tk,os⟩:=s;obtain ⟨hl,h⟩:=h;have f1:=AutoSeq1.idx_int;have c1:(items.isEmpty || (1:Int)==1)=true:=by rw [wg];exact .inr rfl
  wp_walk using CZ hl
  exact ⟨_,rfl,h⟩
section
variable {X:Cx}
theorem RDs.rep {K:aj}{H:Hp}{ρ:List Addr}{ds:List D}{vs:List V}(h:RDs K H ρ ds vs):∀ k:Nat,RDs K H ρ (fj k ds).flatten (fj k vs).flatten
 | 0=>.nil
 | k+1=>by
  rw [qu,qu,wj,wj];exact h.append (RDs.rep h k)
theorem lN:OpR X (binaryOp .Mult) (λx y H Q=>∃ a k xs,x=.ref a/\y=.int k/\SqT X.K H a xs/\xs≠[]/\1 < k/\k<=1000/\xs.length<=1000/\∀ p,H p=none->Q (.ref p) (upd H p (.tup (fj k.toNat xs).flatten))):=by
 rintro pins s σ H x y v u Q I rx ry ⟨a,k,xs,e1,e2,ha,hne,h1,h2,h3,q⟩;subst e1;subst e2;cases rx;obtain ⟨t,rfl⟩:=ry;obtain ⟨its,r1,p1,_⟩:=I.tuple ha;obtain ⟨⟨cls,dd,data,sl⟩,ho,hc,n,hd⟩:=id p1;simp only at hc hd;subst hc hd;have hl:its.length<=1000:=by rw [← r1.length];exact h3
 have hn:its.toArray.isEmpty=false:=by
  cases its with
  | nil=>exact absurd (r1.nil_iff.mp rfl) hne
  | cons b r=>rfl
 have hm:((its.toArray.size:Nat):Int) * k<=1000 * 1000:=by
  rw [dw];exact Int.mul_le_mul (by omega) (by omega) (by omega) (by omega)
 have hf:KY (λx1 x2=>x1++x2) #[] (fj k.toNat its.toArray)=(fj k.toNat its).flatten.toArray:=by
  have:=foldl_rep its k.toNat [];rw [DN] at this;exact this
 have c0:¬(decide (k < -(2 ^ 63)) || decide (k ≥ 2 ^ 63))=true:=by
  rw [wg,decide_eq_true_iff,decide_eq_true_iff];omega
 have c1:¬(its.toArray.isEmpty || k==1)=true:=by
  rw [hn,JQ,beq_iff_eq];omega
 have c2:¬(decide (k<=0) || its.toArray.isEmpty)=true:=by
  rw [hn,RQ,decide_eq_true_iff];omega
 have c3:¬(((its.toArray.size:Nat):Int) * k > (2 ^ 63 - 1) / 8):=by omega
 have c4:¬zj (((its.toArray.size:Nat):Int) * k)=true:=by
  have:(sizeLine:Nat)=16777216:=qp;unfold zj;rw [decide_eq_true_iff];omega
 have c5:¬(KY (λx1 x2=>x1++x2) #[] (fj k.toNat its.toArray)).size > sizeLine:=by
  rw [hf,dw,len_rep,qp];have:k.toNat * its.length<=1000 * 1000:=IW (by omega) hl;omega
 refine KZ (T := "tuple") (U := "int") (by decide) ⟨_,ho,rfl⟩ (λs'=>GQ s' k t) Ot QW BZ Ou PySem.F.slot_int_index.lookup
  (FT BZ (GQ s k t) QM (QB _ _) (Uj k t a its.toArray n dd sl)
   ⟨ho,rfl,⟨_,ho,rfl⟩,FT QR ⟨_,ho,rfl⟩ QC (OD _ _) (rE a its.toArray n dd sl k t c0 c1 c2 c3 c5 c4) ⟨ho,?_⟩⟩)
 rw [hf];refine ⟨.ref s.heap.objs.size,_,I.laid (t':=s.toks) (o:=.tup (fj k.toNat xs).flatten) (λb ob q=>bw _ q) (bh _) ?_,rfl,q _ (I.hok.fresh (bh _))⟩;refine ⟨?_,_,r1.rep k.toNat,O3.new _ _⟩;rw [len_rep,qp];have:k.toNat * xs.length<=1000 * 1000:=IW (by omega) h3;omega
theorem lO:OpR X (binaryOp .Mult) (λx y H Q=>∃ a xs,x=.ref a/\y=.int 1/\SqT X.K H a xs/\Q (.ref a) H):=by
 rintro pins s σ H x y v u Q I rx ry ⟨a,xs,e1,e2,ha,q⟩;subst e1;subst e2;cases rx;obtain ⟨t,rfl⟩:=ry;obtain ⟨its,r1,p1,_⟩:=I.tuple ha;obtain ⟨⟨cls,dd,data,sl⟩,ho,hc,n,hd⟩:=id p1;simp only at hc hd;subst hc hd
 exact KZ (T := "tuple") (U := "int") (by decide) ⟨_,ho,rfl⟩ (λs'=>GQ s' 1 t) Ot QW BZ Ou PySem.F.slot_int_index.lookup
  (FT BZ (GQ s 1 t) QM (QB _ _) (Uj 1 t a its.toArray n dd sl)
   ⟨ho,rfl,⟨_,ho,rfl⟩,FT QR ⟨_,ho,rfl⟩ QC (OD _ _) (rF a its.toArray n dd sl t) ⟨ho,⟨.ref a,H,I,rfl,q⟩⟩⟩)
noncomputable def Afz:D->D->Option (List D×Int)
 | .tup ds,.int k=>some (ds,k)
 | _,_=>none
theorem lQ {x y:D}{z:List D×Int}(h:Afz x y=some z):x=.tup z.1/\y=.int z.2:=by
 cases x with
 | tup ds =>
  cases y with
  | int k=>cases h;exact ⟨rfl,rfl⟩
  | _=>cases h
 | _=>cases h
noncomputable def eX (g:D->D->MH->Option (D×MH)):D->D->MH->Option (D×MH):=λx y mh=>match Afz x y with
 | some z=>if z.2=1 then some (.tup z.1,mh) else if (z.1.isEmpty=false/\z.1.length<=1000)/\(1 < z.2/\z.2<=1000) then some (.tup (fj z.2.toNat z.1).flatten,mh) else none
 | none=>g x y mh
theorem rG {g:D->D->MH->Option (D×MH)}(h:OpR X (binaryOp .Mult) (rD X.K g)):OpR X (binaryOp .Mult) (rD X.K (eX g)):=by
 rintro pins s σ H x y v u Q I rx ry ⟨ρ,mh,dx,dy,d,mh',q,rs,r1,r2,co⟩;unfold eX at q;cases e:Afz dx dy with
 | none=>rw [e] at q;exact h pins s σ H x y v u Q I rx ry ⟨ρ,mh,dx,dy,d,mh',q,rs,r1,r2,co⟩
 | some z =>
  rw [e] at q;obtain ⟨ds,k⟩:=z;obtain ⟨rfl,rfl⟩:=lQ e;have q:(if k=1 then some (D.tup ds,mh) else if (ds.isEmpty=false/\ds.length<=1000)/\(1 < k/\k<=1000) then some (D.tup (fj k.toNat ds).flatten,mh) else none)=some (d,mh'):=q
  by_cases h1:k=1
  ·subst h1;rw [if_pos rfl] at q;cases q;cases r2;cases r1 with
   | tup s1 rr=>exact lO pins s σ H _ _ v u Q I rx ry ⟨_,_,rfl,rfl,s1,co H ρ _ Ev.refl rs (.tup s1 rr)⟩
  rw [if_neg h1] at q
  by_cases hz:(ds.isEmpty=false/\ds.length<=1000)/\(1 < k/\k<=1000)
  ·have q:(if (ds.isEmpty=false/\ds.length<=1000)/\(1 < k/\k<=1000) then some (D.tup (fj k.toNat ds).flatten,mh) else none)=some (d,mh'):=q;rw [if_pos hz] at q;cases q;cases r2;cases r1 with
   | tup s1 rr=>exact lN pins s σ H _ _ v u Q I rx ry ⟨_,_,_,rfl,rfl,s1,λz=>by
     subst z;cases rr
     exact absurd hz.1.1 (by simp),hz.2.1,hz.2.2,by rw [← rr.length];exact hz.1.2,Co.newT rs (rr.rep _) co⟩
  ·have q:(if (ds.isEmpty=false/\ds.length<=1000)/\(1 < k/\k<=1000) then some (D.tup (fj k.toNat ds).flatten,mh) else none)=some (d,mh'):=q;rw [if_neg hz] at q;cases q
end
section
variable {X:Cx}
noncomputable def intD:Fn:=λds mh=>match ds with
 | [x]=>(match x with
  | .int i=>some (.int i,mh)
  | .bl b=>some (.int (if b then 1 else 0),mh)
  | _=>none)
 | _=>none
theorem lR:Bt X (.type "int") (rDs X.K intD):=by
 rintro pins s σ H xs us Q I r ⟨ρ,mh,ds,d,mh',q,rs,rd,co⟩
 match ds,q with
 | [x],q =>
  obtain ⟨v,rfl,rx⟩:=O6 rd;cases x with
  | int i=>cases q;cases rx;exact Tp pins s σ H _ us Q I r (.inl ⟨i,rfl,co H ρ _ Ev.refl rs (.int _)⟩)
  | bl b=>cases q;cases rx;exact Tp pins s σ H _ us Q I r (.inr ⟨b,rfl,co H ρ _ Ev.refl rs (.int _)⟩)
  | _=>cases q
 | [],q=>cases q
 | _::_::_,q=>cases q
end
noncomputable def bB:D->Option Key
 | .int i=>some (.inl i)
 | .str x=>some (.inr x)
 | _=>none
noncomputable def keyB:Key->Key->Bool
 | .inl i,.inl j=>i==j
 | .inr x,.inr y=>x==y
 | _,_=>false
theorem Pn (a b:Key):keyB a b=decide (a=b):=by
 cases a with
 | inl i =>
  cases b with
  | inl j=>show (i==j)=_;by_cases h:i=j <;> simp [h]
  | inr y=>rfl
 | inr x =>
  cases b with
  | inl j=>rfl
  | inr y =>
   show (x==y)=_
   by_cases h:x=y
   ·subst h;simp
   ·rw [decide_eq_false (λz=>h (by cases z;rfl))];exact beq_eq_false_iff_ne.mpr h
noncomputable def Te:List (Key×D)->Key->Option D
 | [],_=>none
 | p::r,k=>if keyB p.1 k=true then some p.2 else Te r k
noncomputable def putD (kvs:List (Key×D)) (k:Key) (d:D):List (Key×D) :=
 if (kvs.any λkv=>keyB kv.1 k)=true then kvs.map (λkv=>if keyB kv.1 k=true then (kv.1,d) else kv) else kvs++[(k,d)]
section
variable {K:aj}{H H':Hp}{ρ ρ':List Addr}
noncomputable def RK (K:aj) (H:Hp) (ρ:List Addr) (kvs:List (Key×D)) (xs:List (Key×V)):Prop:=xs.map (·.1)=kvs.map (·.1)/\RDs K H ρ (kvs.map (·.2)) (xs.map (·.2))
theorem RK.nil:RK K H ρ [] []:=⟨rfl,.nil⟩
theorem RK.cons {k:Key}{d:D}{v:V}{kvs:List (Key×D)}{xs:List (Key×V)}(r:RD K H ρ d v) (h:RK K H ρ kvs xs):RK K H ρ ((k,d)::kvs) ((k,v)::xs) :=
 ⟨by rw [iu,iu,h.1],.cons r h.2⟩
theorem RK.inv {k:Key}{d:D}{kvs:List (Key×D)}{xs:List (Key×V)}(h:RK K H ρ ((k,d)::kvs) xs):∃ v r,xs=(k,v)::r/\RD K H ρ d v/\RK K H ρ kvs r:=by
 obtain ⟨h1,h2⟩:=h;cases xs with
 | nil=>cases h1
 | cons p r =>
  obtain ⟨k',v⟩:=p;rw [iu,iu] at h1;injection h1 with e1 e2
  have e1:k'=k:=e1;subst e1;cases h2 with
  | cons a b=>exact ⟨v,r,rfl,a,e2,b⟩
theorem RK.inv0 {xs:List (Key×V)}(h:RK K H ρ [] xs):xs=[]:=by
 cases xs with
 | nil=>rfl
 | cons p r=>cases h.1
theorem RK.val (k:Key):∀ {kvs:List (Key×D)}{xs:List (Key×V)},RK K H ρ kvs xs->(∃ d v,Te kvs k=some d/\Lk xs k=some v/\RD K H ρ d v)\/(Te kvs k=none/\Lk xs k=none)
 | [],xs,h=>by rw [h.inv0];exact .inr ⟨rfl,rfl⟩
 | (k',d)::kvs,xs,h=>by
  obtain ⟨v,r,rfl,a,b⟩:=h.inv
  by_cases e:k'=k
  ·exact .inl ⟨d,v,by unfold Te;rw [Pn,decide_eq_true e,if_pos rfl],Lp e,a⟩
  ·have e1:Te ((k',d)::kvs) k=Te kvs k:=by
    show (if keyB k' k=true then _ else _)=_;rw [Pn,decide_eq_false e,if_neg kj]
   rw [e1,Lq e];exact RK.val k b
theorem RK.some_eq (k:Key) {kvs:List (Key×D)}{xs:List (Key×V)}(h:RK K H ρ kvs xs):(Lk xs k).isSome=(Te kvs k).isSome:=by
 rcases h.val k with ⟨d,v,e1,e2,_⟩ | ⟨e1,e2⟩ <;> rw [e1,e2] <;> rfl
theorem RK.any (k:Key):∀ {kvs:List (Key×D)}{xs:List (Key×V)},RK K H ρ kvs xs->(xs.any λkv=>decide (kv.1=k))=(kvs.any λkv=>keyB kv.1 k)
 | [],xs,h=>by rw [h.inv0];rfl
 | (k',d)::kvs,xs,h=>by
  obtain ⟨v,r,rfl,a,b⟩:=h.inv;rw [zx,zx,RK.any k b,Pn]
theorem RK.repl {d:D}{v:V}(k:Key) (rv:RD K H ρ d v):∀ {kvs:List (Key×D)}{xs:List (Key×V)},RK K H ρ kvs xs->RK K H ρ (kvs.map λkv=>if keyB kv.1 k=true then (kv.1,d) else kv) (xs.map λkv=>if kv.1=k then (kv.1,v) else kv)
 | [],xs,h=>by rw [h.inv0];exact .nil
 | (k',d')::kvs,xs,h=>by
  obtain ⟨v',r,rfl,a,b⟩:=h.inv;rw [iu,iu];dsimp only;rw [Pn]
  by_cases e:k'=k
  ·rw [decide_eq_true e,if_pos rfl,if_pos e];exact (RK.repl k rv b).cons rv
  ·rw [decide_eq_false e,if_neg kj,if_neg e];exact (RK.repl k rv b).cons a
theorem RK.put {d:D}{v:V}(k:Key) (rv:RD K H ρ d v) {kvs:List (Key×D)}{xs:List (Key×V)}(h:RK K H ρ kvs xs):RK K H ρ (putD kvs k d) (putK xs k v):=by
 unfold putD putK;rw [h.any k]
 by_cases e:(kvs.any λkv=>keyB kv.1 k)=true
 ·rw [if_pos e,if_pos e];exact h.repl k rv
 ·rw [if_neg e,if_neg e];refine ⟨by rw [ji,ji,h.1];rfl,?_⟩;rw [ji,ji];exact h.2.append (.cons rv .nil)
theorem RK.length {kvs:List (Key×D)}{xs:List (Key×V)}(h:RK K H ρ kvs xs):xs.length=kvs.length:=by
 have:=congrArg List.length h.1
 simpa using this
theorem Ev.dk {p:Addr}{ys zs:List (Key×V)}(hp:H p=some (.dK ys)):Ev K H ρ (upd H p (.dK zs)) ρ:=by
 refine ⟨λa xs h=>?_,CP _,λa xs h=>?_,λa C dx fs h=>?_,λa o u h=>by rw [Al (Jm h hp (by intro z;cases z))];exact h⟩
 ·rcases h with (h|⟨ob,h⟩)|h
  ·exact .inl (.inl (by rw [Al (Jm h hp (by intro z;cases z))];exact h))
  ·exact .inl (.inr ⟨ob,by rw [Al (Jm h hp (by intro z;cases z))];exact h⟩)
  ·exact .inr h
 ·rcases h with ⟨ob,h⟩|h
  ·exact .inl ⟨ob,by rw [Al (Jm h hp (by intro z;cases z))];exact h⟩
  ·exact .inr h
 ·rw [Al (Jm h hp (by intro z;cases z))];exact h
theorem RS.newD {mh:MH}{p:Addr}{xs:List (Key×V)}{kvs:List (Key×D)}(h:RS K H ρ mh) (hp:H p=none) (r:RK K H ρ kvs xs):RS K (upd H p (.dK xs)) (ρ++[p]) (mh++[.dct kvs]):=by
 have hnp:p ∉ ρ:=λz=>by
  obtain ⟨o,q⟩:=h.tracked z;rw [hp] at q;cases q
 refine ⟨by rw [dg,dg,h.len];rfl,?_,λn a ob e1 e2=>?_⟩
 ·rw [qj]
  exact ⟨h.nd,jw _ _,λa ha b hb z=>by
   rw [ao.mp hb] at z;rw [z] at ha;exact hnp ha⟩
 ·by_cases hn:n < ρ.length
  ·rw [ju hn] at e1;rw [ju (by rw [← h.len];exact hn)] at e2;refine (h.obj n a ob e1 e2).mono (Ev.newL hp) ?_;obtain ⟨oo,q⟩:=h.tracked (gn e1);rw [Al (Bb q hp)]
  ·rw [qm (by omega)] at e1;rw [qm (by rw [← h.len];omega)] at e2;have n0:n - ρ.length=0:=by
    have:=(cg.mp e1).1;simp at this;omega
   rw [n0] at e1;rw [← h.len,n0] at e2;cases e1;cases e2;exact ⟨xs,Bw,r.1,r.2.mono (Ev.newL hp)⟩
theorem RS.setD {mh:MH}{n:Nat}{p:Addr}{ys xs:List (Key×V)}{kvs:List (Key×D)}(h:RS K H ρ mh) (hn:ρ[n]?=some p) (hp:H p=some (.dK ys)) (r:RK K H ρ kvs xs):RS K (upd H p (.dK xs)) ρ (mh.set n (.dct kvs)):=by
 refine ⟨by rw [jz];exact h.len,h.nd,λm a ob e1 e2=>?_⟩
 by_cases hm:n=m
 ·subst hm;rw [hn] at e1;cases e1;rw [yq] at e2;simp only [if_true] at e2;split at e2
  ·cases e2;exact ⟨xs,Bw,r.1,r.2.mono (Ev.dk hp)⟩
  ·cases e2
 ·rw [iy hm] at e2;refine (h.obj m a ob e1 e2).mono (Ev.dk hp) ?_;rw [Al];intro z;subst z;exact hm ((KD (cg.mp hn).1 h.nd).mp (hn.trans e1.symm))
end
noncomputable def Hg (kvs:List (PyData×D)) (k:PyData):Option D:=(kvs.find? λe=>decide (e.1=k)).map (·.2)
noncomputable def lU (kvs:List (PyData×D)) (k:PyData) (d:D):List (PyData×D) :=
 if (Hg kvs k).isSome=true then kvs.map (λe=>if e.1=k then (e.1,d) else e) else kvs++[(k,d)]
noncomputable def kD (d:D):Option PyData:=match py [] 8 d with
 | some (.tuple ks)=>if kCl (.tuple ks)=true then some (.tuple ks) else none
 | _=>none
theorem Vr {f g:D->Option PyData}(h:∀ d k,f d=some k->g d=some k):∀ {ds:List D}{ks:List PyData},Bx f ds=some ks->Bx g ds=some ks
 | [],_,e=>e
 | d::r,ks,e=>by
  simp only [Bx] at e ⊢;cases e1:f d with
  | none=>rw [e1] at e;cases e
  | some b =>
   rw [e1] at e;rw [h d b e1];cases e2:Bx f r with
   | none=>rw [e2] at e;cases e
   | some bs=>rw [e2] at e;rw [Vr h e2];exact e
theorem bC (mh:MH):∀ (n:Nat) (d:D) (k:PyData),py [] n d=some k->py mh n d=some k
 | 0,d,k,e=>by cases d <;> exact e
 | n+1,d,k,e=>by
  cases d with
  | tup ds =>
   have e:(match Bx (py [] n) ds with | some xs=>some (PyData.tuple xs) | none=>none)=some k:=e;show (match Bx (py mh n) ds with | some xs=>some (PyData.tuple xs) | none=>none)=some k;cases e1:Bx (py [] n) ds with
   | none=>rw [e1] at e;cases e
   | some xs=>rw [e1] at e;rw [Vr (bC mh n) e1];exact e
  | rol ds =>
   have e:(match Bx (py [] n) ds with | some xs=>some (PyData.list xs) | none=>none)=some k:=e;show (match Bx (py mh n) ds with | some xs=>some (PyData.list xs) | none=>none)=some k;cases e1:Bx (py [] n) ds with
   | none=>rw [e1] at e;cases e
   | some xs=>rw [e1] at e;rw [Vr (bC mh n) e1];exact e
  | ref i=>cases e
  | _=>exact e
theorem bD:∀ (n:Nat) (d:D) (k:PyData),py [] n d=some k->kCl k=true->toD k=d
 | n,.int i,k,e,_=>by
  have e:some (xq i)=some k:=by cases n <;> exact e
  cases e;rfl
 | n,.str x,k,e,_=>by
  have e:(if jq x=true then some (HF x) else none)=some k:=by cases n <;> exact e
  split at e
  ·cases e;rfl
  ·cases e
 | n,.non,k,e,c=>by
  have e:some PyData.none=some k:=by cases n <;> exact e
  cases e;simp [kCl] at c
 | n,.bl b,k,e,c=>by
  have e:some (PyData.bool b)=some k:=by cases n <;> exact e
  cases e;simp [kCl] at c
 | n+1,.tup ds,k,e,c=>by
  have e:(match Bx (py [] n) ds with | some xs=>some (PyData.tuple xs) | none=>none)=some k:=e;have all:∀ {l:List D} {ks:List PyData},Bx (py [] n) l=some ks->Dl ks=true->aF ks=l:=λ{l}=>by
   induction l with
   | nil=>intro ks e _;cases e;rfl
   | cons d r ih =>
    intro ks e c;simp only [Bx] at e;cases e1:py [] n d with
    | none=>rw [e1] at e;cases e
    | some b =>
     rw [e1] at e;cases e2:Bx (py [] n) r with
     | none=>rw [e2] at e;cases e
     | some bs =>
      rw [e2] at e;cases e;have c:(kCl b&&Dl bs)=true:=by simpa [Dl] using c
      rw [bf] at c;rw [aF,bD n d b e1 c.1,ih e2 c.2]
  cases e1:Bx (py [] n) ds with
  | none=>rw [e1] at e;cases e
  | some xs =>
   rw [e1] at e;cases e;rw [toD,all e1 (by simpa [kCl] using c)]
 | n+1,.rol ds,k,e,c=>by
  have e:(match Bx (py [] n) ds with | some xs=>some (PyData.list xs) | none=>none)=some k:=e;split at e
  ·cases e;simp [kCl] at c
  ·cases e
 | 0,.tup _,_,e,_=>by cases e
 | 0,.rol _,_,e,_=>by cases e
 | 0,.ref _,_,e,_=>by cases e
 | _+1,.ref _,_,e,_=>by cases e
 | 0,.obj ..,_,e,_=>by cases e
 | _+1,.obj ..,_,e,_=>by cases e
 | 0,.fn _,_,e,_=>by cases e
 | _+1,.fn _,_,e,_=>by cases e
 | 0,.lam,_,e,_=>by cases e
 | _+1,.lam,_,e,_=>by cases e
 | 0,.clo ..,_,e,_=>by cases e
 | _+1,.clo ..,_,e,_=>by cases e
mutual
theorem rH (mh:MH):∀ (k:PyData) (n:Nat),kCl k=true->k.canLay0=true->k.depth<=n->py mh n (toD k)=some k
 | .int _,n,_,_,_=>by cases n <;> rfl
 | .str x,n,_,l,_=>by
  have l:jq x=true:=l;cases n <;> (show (if jq x=true then some (HF x) else none)=_;rw [if_pos l])
 | .tuple xs,0,_,_,h=>by simp [PyData.depth] at h
 | .tuple xs,n+1,c,l,h=>by
  have:=eY mh xs n (by simpa [kCl] using c) (by simpa [vq] using l) (by simpa [PyData.depth] using h);show (match Bx (py mh n) (aF xs) with | some xs=>some (PyData.tuple xs) | none=>none)=_;rw [this]
 | .none,_,c,_,_ | .bool _,_,c,_,_ | .list _,_,c,_,_ | .dict _,_,c,_,_=>by simp [kCl] at c
theorem eY (mh:MH):∀ (ks:List PyData) (n:Nat),Dl ks=true->wk ks=true->uw ks<=n->Bx (py mh n) (aF ks)=some ks
 | [],_,_,_,_=>rfl
 | x::r,n,c,l,h=>by
  have c:(kCl x&&Dl r)=true:=by simpa [Dl] using c
  have l:(x.canLay0&&wk r)=true:=by simpa [wk] using l
  rw [bf] at c l;simp only [uw] at h;simp only [aF,Bx,rH mh x n c.1 l.1 (by omega),eY mh r n c.2 l.2 (by omega)]
end
section
variable {X:Cx}{pins:List (Addr×Obj)}{σ:St}{s:Shared}{mh:MH}
theorem Nq {k:PyData}{b:Addr}{H:Hp}{ρ:List Addr}(I:Inv X pins σ H s) (rs:RS X.K H ρ mh) (o:kOk k) (r:RD X.K H ρ (toD k) (.ref b)):IsK s.heap k b:=by
 obtain ⟨⟨as,q⟩,l,d⟩:=Cv I rs 8 _ _ (.ref b) k (rH mh k 8 o.1 o.2.1 o.2.2) r rfl;exact ⟨o.1,l,d,as,q⟩
theorem Xy {d:D}{v:V}{u:Value}{k:PyData}{H:Hp}{ρ:List Addr}(I:Inv X pins σ H s) (rs:RS X.K H ρ mh) (e:kD d=some k) (r:RD X.K H ρ d v) (rv:RelV v u):∃ b,v=.ref b/\u=.ref b/\kOk k/\RD X.K H ρ (toD k) (.ref b):=by
 unfold kD at e;split at e
 ·rename_i ks e1;split at e
  ·rename_i c;cases e;obtain ⟨⟨as,q⟩,l,dp⟩:=Cv I rs 8 _ _ u _ (bC mh 8 d _ e1) r rv;have ed:=bD 8 d _ e1 c;rw [toD] at ed;subst ed;cases r with
   | @tup _ a xs s1 r1 =>
    cases (show u=Value.ref a from rv);exact ⟨a,rfl,rfl,⟨c,l,dp⟩,.tup s1 r1⟩
  ·cases e
 ·cases e
noncomputable abbrev PN:List (PyData×Addr×V)->List (PyData×Addr×Value)->Prop:=Paired λp q=>p.1=q.1/\p.2.1=q.2.1/\RelV p.2.2 q.2.2
theorem Xz {n:Nat}{kvs:List (PyData×D)}{v:V}{H:Hp}{ρ:List Addr}(I:Inv X pins σ H s) (rs:RS X.K H ρ mh) (e:mh[n]?=some (.dtk kvs)) (r:RD X.K H ρ (.ref n) v):∃ a xs ys,v=.ref a/\ρ[n]?=some a/\H a=some (.dN xs)/\KN X.K H ρ kvs xs/\xs.length<=sizeLine/\(a==sysModules)=false/\PN xs ys/\s.heap.DictOfH (Jl X.prog X.w) a ys:=by
 cases r with
 | @ref _ a ha =>
  obtain ⟨a',ha',ro⟩:=rs.at e;rw [ha] at ha';cases ha';obtain ⟨xs,q,kn⟩:=ro;obtain ⟨z,y,ys,p,o,es,ep,h1,h2,h3,h4,h5⟩:=(show Di X.prog X.w H s.heap a (.dN xs) from I.hok a _ q);refine ⟨a,xs,ys,rfl,ha,q,kn,z,y,p,o,es,ep,h1,h2,h3,h4,?_,h5⟩
  clear h4 h5 q z e
  induction kn generalizing ys with
  | nil=>cases p;intro x hx;exact nomatch hx
  | cons ok rk rd _ ih =>
   cases p with
   | cons h t =>
    intro x hx;rcases gb.mp hx with rfl|hx
    ·rw [← h.1,← h.2.1];exact Nq I rs ok rk
    ·exact ih _ t x hx
end
section
variable {K:aj}{H:Hp}{ρ:List Addr}
theorem Nr {p:PyData×D}{r:List (PyData×D)}{k:PyData}:Hg (p::r) k=if p.1=k then some p.2 else Hg r k:=by
 unfold Hg;rw [vz]
 by_cases e:p.1=k
 ·rw [decide_eq_true e,if_pos e];rfl
 ·rw [decide_eq_false e,if_neg e]
theorem bF {p:PyData×Addr×Value}{r:List (PyData×Addr×Value)}{k:PyData}:atKey (p::r) k=if p.1=k then some p.2 else atKey r k:=by
 unfold atKey;rw [vz]
 by_cases e:p.1=k
 ·rw [decide_eq_true e,if_pos e];rfl
 ·rw [decide_eq_false e,if_neg e]
theorem KN.val (k:PyData) {kvs:List (PyData×D)}{xs:List (PyData×Addr×V)}(h:KN K H ρ kvs xs):∀ {ys:List (PyData×Addr×Value)},PN xs ys->(∃ d v b u,Hg kvs k=some d/\atKey ys k=some (b,u)/\RD K H ρ d v/\RelV v u)\/(Hg kvs k=none/\atKey ys k=none):=by
 induction h with
 | nil=>intro ys p;cases p;exact .inr ⟨rfl,rfl⟩
 | @cons k' d b v kvs xs ok rk rd _ ih =>
  intro ys p;cases p with
  | @cons _ q _ qs h t =>
   rw [Nr,bF]
   by_cases e:k'=k
   ·rw [if_pos e,if_pos (h.1.symm.trans e)];exact .inl ⟨d,v,q.2.1,q.2.2,rfl,rfl,rd,h.2.2⟩
   ·rw [if_neg e,if_neg λz=>e (h.1.trans z)];exact ih t
noncomputable def rJ (xs:List (PyData×Addr×V)) (k:PyData) (b:Addr) (v:V):Bool->List (PyData×Addr×V)
 | true=>xs.map λx=>if x.1=k then (x.1,x.2.1,v) else x
 | false=>xs++[(k,b,v)]
theorem KN.put {k:PyData}{d:D}{b:Addr}{v:V}(ok:kOk k) (rk:RD K H ρ (toD k) (.ref b)) (rd:RD K H ρ d v) {kvs:List (PyData×D)}{xs:List (PyData×Addr×V)}(h:KN K H ρ kvs xs):KN K H ρ (lU kvs k d) (rJ xs k b v (Hg kvs k).isSome):=by
 unfold lU;cases (Hg kvs k).isSome with
 | false =>
  rw [if_neg (by decide)];show KN K H ρ (kvs++[(k,d)]) (xs++[(k,b,v)])
  induction h with
  | nil=>exact .cons ok rk rd .nil
  | cons a b c _ ih=>exact .cons a b c ih
 | true =>
  rw [if_pos rfl];show KN K H ρ (kvs.map λe=>if e.1=k then (e.1,d) else e) (xs.map λx=>if x.1=k then (x.1,x.2.1,v) else x)
  induction h with
  | nil=>exact .nil
  | @cons k' d' b' v' _ _ a b c _ ih =>
   rw [iu,iu]
   by_cases e:k'=k
   ·rw [if_pos e,if_pos e];exact .cons a b rd ih
   ·rw [if_neg e,if_neg e];exact .cons a b c ih
theorem PN.put {k:PyData}{b:Addr}{v:V}{u:Value}(rv:RelV v u) {t:Bool}{xs:List (PyData×Addr×V)}{ys:List (PyData×Addr×Value)}(h:PN xs ys) (e:t=(atKey ys k).isSome):PN (rJ xs k b v t) (storedH ys k b u):=by
 unfold storedH;rw [← e];cases t with
 | false=>rw [if_neg (by decide)];exact Paired.snoc h ⟨rfl,rfl,rv⟩
 | true =>
  rw [if_pos rfl];show PN (xs.map λx=>if x.1=k then (x.1,x.2.1,v) else x) (ys.map (putAt k u))
  clear e
  induction h with
  | nil=>exact .nil
  | @cons p q ps qs h t ih =>
   rw [iu,iu];refine .cons ?_ ih;unfold putAt
   by_cases e:p.1=k
   ·rw [if_pos e,if_pos (h.1.symm.trans e)];exact ⟨h.1,h.2.1,rv⟩
   ·rw [if_neg e,if_neg λz=>e (h.1.trans z)];exact h
theorem rK {xs:List (PyData×Addr×V)}{k:PyData}{b:Addr}{v:V}(t:Bool):(rJ xs k b v t).length<=xs.length+1:=by
 cases t with
 | true=>show (xs.map _).length<=_;rw [ak];omega
 | false=>show (xs++[_]).length<=_;rw [dg];exact bh _
theorem KN.length {kvs:List (PyData×D)}{xs:List (PyData×Addr×V)}(h:KN K H ρ kvs xs):xs.length=kvs.length:=by
 induction h with
 | nil=>rfl
 | cons _ _ _ _ ih=>rw [jj,jj,ih]
theorem Ev.dn {p:Addr}{o z:HO}(hp:H p=some o) (h:(∃ ys,o=.dN ys)\/∃ ys,o=.dK ys):Ev K H ρ (upd H p z) ρ:=by
 have ne:∀ {a:Addr} {u:HO},H a=some u->(∀ ys,u≠.dN ys)->(∀ ys,u≠.dK ys)->a≠p:=λ{a u} e n1 n2 q=>by
  rw [q,hp] at e;cases e;rcases h with ⟨ys,h⟩|⟨ys,h⟩
  ·exact n1 ys h
  ·exact n2 ys h
 refine ⟨λa xs h=>?_,CP _,λa xs h=>?_,λa C dx fs h=>?_,λa o' u' h=>?_⟩
 ·rcases h with (h|⟨ob,h⟩)|h
  ·exact .inl (.inl (by rw [Al (ne h (λ_ z=>nomatch z) λ_ z=>nomatch z)];exact h))
  ·exact .inl (.inr ⟨ob,by rw [Al (ne h (λ_ z=>nomatch z) λ_ z=>nomatch z)];exact h⟩)
  ·exact .inr h
 ·rcases h with ⟨ob,h⟩|h
  ·exact .inl ⟨ob,by rw [Al (ne h (λ_ z=>nomatch z) λ_ z=>nomatch z)];exact h⟩
  ·exact .inr h
 ·rw [Al (ne h (λ_ z=>nomatch z) λ_ z=>nomatch z)];exact h
 ·rw [Al (ne h (λ_ z=>nomatch z) λ_ z=>nomatch z)];exact h
theorem RS.setN {mh:MH}{n:Nat}{p:Addr}{o:HO}{xs:List (PyData×Addr×V)}{kvs:List (PyData×D)}(h:RS K H ρ mh) (hn:ρ[n]?=some p) (hp:H p=some o) (ho:(∃ ys,o=.dN ys)\/∃ ys,o=.dK ys) (r:KN K H ρ kvs xs):RS K (upd H p (.dN xs)) ρ (mh.set n (.dtk kvs)):=by
 have ev:Ev K H ρ (upd H p (.dN xs)) ρ:=Ev.dn hp ho;refine ⟨by rw [jz];exact h.len,h.nd,λm a ob e1 e2=>?_⟩
 by_cases e:m=n
 ·subst e;rw [hn] at e1;cases e1;rw [nq (by rw [← h.len];exact (cg.mp hn).1)] at e2;cases e2;exact ⟨xs,Bw,r.mono ev⟩
 ·rw [iy (Ne.symm e)] at e2;refine (h.obj m a ob e1 e2).mono ev (Al λz=>e ?_);subst z;exact (KD (cg.mp e1).1 h.nd).mp (e1.trans hn.symm)
end
noncomputable def Jq (x:D) (mh:MH):Option (D->Option (Option D)):=match x with
 | .ref n=>(match mh[n]? with | some (.dct kvs)=>some (λy=>(bB y).map (Te kvs)) | some (.dtk kvs)=>some (λy=>(kD y).map (Hg kvs)) | _=>none)
 | _=>none
theorem Ik {x:D}{mh:MH}{f:D->Option (Option D)}(h:Jq x mh=some f):∃ n,x=.ref n/\((∃ kvs,mh[n]?=some (.dct kvs)/\f=λy=>(bB y).map (Te kvs))\/∃ kvs,mh[n]?=some (.dtk kvs)/\f=λy=>(kD y).map (Hg kvs)):=by
 cases x with
 | ref n =>
  have h:(match mh[n]? with | some (.dct kvs)=>some (λy=>(bB y).map (Te kvs)) | some (.dtk kvs)=>some (λy=>(kD y).map (Hg kvs)) | _=>none)=some f:=h;split at h
  ·rename_i e;cases h;exact ⟨n,rfl,.inl ⟨_,e,rfl⟩⟩
  ·rename_i e;cases h;exact ⟨n,rfl,.inr ⟨_,e,rfl⟩⟩
  ·cases h
 | _=>cases h
theorem Uk {n:Nat}{mh:MH}{ds:List D}(h:mh[n]?=some (.lst ds)):Jq (.ref n) mh=none:=by
 unfold Jq;simp only [h]
theorem Ul {n:Nat}{mh:MH}{kvs:List (PyData×D)}(h:mh[n]?=some (.dtk kvs)):Jq (.ref n) mh=some (λy=>(kD y).map (Hg kvs)):=by
 unfold Jq;simp only [h]
theorem Hs {K:aj}{H:Hp}{ρ:List Addr}{mh:MH}{n:Nat}{v:V}{kvs:List (Key×D)}(rs:RS K H ρ mh) (r:RD K H ρ (.ref n) v) (e:mh[n]?=some (.dct kvs)):∃ a xs,v=.ref a/\H a=some (.dK xs)/\RK K H ρ kvs xs:=by
 cases r with
 | @ref _ a ha =>
  obtain ⟨a',ha',ro⟩:=rs.at e;rw [ha] at ha';cases ha';obtain ⟨xs,q,k,r⟩:=ro;exact ⟨a,xs,rfl,q,k,r⟩
theorem Pq {K:aj}{H:Hp}{ρ:List Addr}{x:D}{v:V}{k:Key}(r:RD K H ρ x v) (h:bB x=some k):v=kV k:=by
 cases r with
 | int i=>cases h;rfl
 | str x=>cases h;rfl
 | _=>cases h
noncomputable def inD (neg:Bool) (x c:D) (mh:MH):Option (D×MH):=match Jq c mh with
 | none=>aH neg x c mh
 | some f=>match f x with
  | some o=>some (.bl (if neg then !o.isSome else o.isSome),mh)
  | none=>none
noncomputable def ixD (x y:D) (mh:MH):Option (D×MH):=match Jq x mh with
 | none=>pP x y mh
 | some f=>match f y with
  | some (some d)=>some (d,mh)
  | _=>none
section
variable {X:Cx}
theorem Rb (hu:X.A.units+64 < cLine):X.A.units+1 < cLine:=by omega
theorem Rc (hu:X.A.units+64 < cLine):(Jl X.prog X.w).room X.A.in1:=by
 show X.A.in1.units+8 < cLine;rw [Around.in1_units];omega
theorem KN.some_eq {K:aj}{H:Hp}{ρ:List Addr}(k:PyData) {kvs:List (PyData×D)}{xs:List (PyData×Addr×V)}(h:KN K H ρ kvs xs) {ys:List (PyData×Addr×Value)}(p:PN xs ys):(Hg kvs k).isSome=(atKey ys k).isSome:=by
 rcases h.val k p with ⟨d,v,b,u,e1,e2,_⟩ | ⟨e1,e2⟩ <;> rw [e1,e2] <;> rfl
theorem Af0 (hu:X.A.units+64 < cLine):OpR X (compareOp .In) (rD X.K (inD false)):=by
 rintro pins s σ H x y v u Q I rx ry ⟨ρ,mh,dx,dy,d,mh',q,rs,r1,r2,co⟩;unfold inD at q;split at q
 ·exact Aam hu pins s σ H x y v u Q I rx ry ⟨ρ,mh,dx,dy,d,mh',q,rs,r1,r2,co⟩
 ·rename_i f ek;obtain ⟨n,rfl,⟨kvs,en,rfl⟩ | ⟨kvs,en,rfl⟩⟩:=Ik ek
  ·obtain ⟨a,xs,rfl,hd,rk⟩:=Hs rs r2 en;split at q
   ·rename_i o e;cases q;obtain ⟨k,e',rfl⟩:=su.mp e;cases Pq r1 e';cases ry;exact Amb (Rb hu) I (jR.k hd) rx λs' I'=>⟨.bl _,H,I',rfl,by rw [rk.some_eq];exact co H ρ _ Ev.refl rs (.bl _)⟩
   ·cases q
  ·obtain ⟨a,xs,ys,rfl,hn,hd,kn,z,lo,pn,dd⟩:=Xz I rs en r2;split at q
   ·rename_i o e;cases q;obtain ⟨k,e',rfl⟩:=su.mp e;obtain ⟨b,rfl,rfl,ok,rk⟩:=Xy I rs e' r1 rx;cases ry;exact wpAny_in_heap (Rc hu) (Nq I rs ok rk) lo dd ⟨.bl _,H,I.tok _,rfl,by rw [← kn.some_eq k pn];exact co H ρ _ Ev.refl rs (.bl _)⟩
   ·cases q
theorem lV (hu:X.A.units+64 < cLine):OpR X (compareOp .NotIn) (rD X.K (inD true)):=by
 rintro pins s σ H x y v u Q I rx ry ⟨ρ,mh,dx,dy,d,mh',q,rs,r1,r2,co⟩;unfold inD at q;split at q
 ·exact aJ hu pins s σ H x y v u Q I rx ry ⟨ρ,mh,dx,dy,d,mh',q,rs,r1,r2,co⟩
 ·rename_i f ek;obtain ⟨n,rfl,⟨kvs,en,rfl⟩ | ⟨kvs,en,rfl⟩⟩:=Ik ek
  ·obtain ⟨a,xs,rfl,hd,rk⟩:=Hs rs r2 en;split at q
   ·rename_i o e;cases q;obtain ⟨k,e',rfl⟩:=su.mp e;cases Pq r1 e';cases ry;exact Aab (Rb hu) I (jR.k hd) rx λs' I'=>⟨.bl _,H,I',rfl,by rw [rk.some_eq];exact co H ρ _ Ev.refl rs (.bl _)⟩
   ·cases q
  ·obtain ⟨a,xs,ys,rfl,hn,hd,kn,z,lo,pn,dd⟩:=Xz I rs en r2;split at q
   ·rename_i o e;cases q;obtain ⟨k,e',rfl⟩:=su.mp e;obtain ⟨b,rfl,rfl,ok,rk⟩:=Xy I rs e' r1 rx;cases ry;exact wpAny_notIn_heap (Rc hu) (Nq I rs ok rk) lo dd ⟨.bl _,H,I.tok _,rfl,by rw [← kn.some_eq k pn];exact co H ρ _ Ev.refl rs (.bl _)⟩
   ·cases q
theorem Amk (hu:X.A.units+64 < cLine):IxR X (rD X.K ixD):=by
 rintro value slice pins s σ H x y v u Q I rx ry ⟨ρ,mh,dx,dy,d,mh',q,rs,r1,r2,co⟩ hs;unfold ixD at q;split at q
 ·exact Aka value slice pins s σ H x y v u Q I rx ry ⟨ρ,mh,dx,dy,d,mh',q,rs,r1,r2,co⟩ hs
 ·rename_i f ek;obtain ⟨n,rfl,⟨kvs,en,rfl⟩ | ⟨kvs,en,rfl⟩⟩:=Ik ek
  ·obtain ⟨a,xs,rfl,hd,rk⟩:=Hs rs r1 en;split at q
   ·rename_i d' e;cases q;obtain ⟨k,e,e2⟩:=su.mp e;cases Pq r2 e;cases rx;rcases rk.val k with ⟨d2,v2,g1,g2,g3⟩|⟨g1,g2⟩
    ·rw [e2] at g1;cases g1;obtain ⟨z,hn,vs,rel,dd⟩:=pA I.hok hd;obtain ⟨w',hw,rw'⟩:=K5.some_of (v:=v2) (o:=valueAt vs k) (by rw [← g2];exact rel.val k);exact BR (x:=w') dd.typeIs PySem.F.slot_dict_getitem.lookup (wpAny_getItem_of (W5 ry) dd.mapOf hw ⟨rfl,⟨v2,H,I.tok _,rw',co H ρ _ Ev.refl rs g3⟩⟩) hs
    ·rw [e2] at g1;cases g1
   ·cases q
  ·obtain ⟨a,xs,ys,rfl,hn,hd,kn,z,lo,pn,dd⟩:=Xz I rs en r1;split at q
   ·rename_i d' e;cases q;obtain ⟨k,e,e2⟩:=su.mp e;obtain ⟨b,rfl,rfl,ok,rk⟩:=Xy I rs e r2 ry;cases rx;rcases kn.val k pn with ⟨d2,v2,b2,u2,g1,g2,g3,g4⟩|⟨g1,g2⟩
    ·rw [e2] at g1;cases g1;exact BR (x:=u2) dd.typeIs PySem.F.slot_dict_getitem.lookup (wpAny_getItem_heap (Rc hu) (Nq I rs ok rk) dd g2 ⟨rfl,⟨v2,H,I.tok _,g4,co H ρ _ Ev.refl rs g3⟩⟩) hs
    ·rw [e2] at g1;cases g1
   ·cases q
noncomputable def Aml:Const->Option Str
 | .str x=>some x
 | _=>none
noncomputable def Amm:Expr->Option Str
 | .Constant c _ _=>Aml c
 | _=>none
noncomputable def Amn:Option Expr->Option Str
 | some e=>Amm e
 | none=>none
noncomputable def Ada:List (Option Expr)->List Expr->Bool
 | [],[]=>true
 | k::ks,_::vs=>(Amn k).isSome&&Ada ks vs
 | _,_=>false
end
section
variable {X:Cx}{a:Addr}{kvs:List (Str×D)}
variable {e:Expr}{es:List Expr}{x:Str}{p apos cpos:Pos}
end
section
variable {X:Cx}{pos pos':Pos}
noncomputable def newD:DM D:=λ_ mh=>some (.ref mh.length,mh++[.dct []])
theorem Abg:DE X (.Dict [] [] pos) newD:=λloc mh=>by
 refine Br pD ?_;rintro σ H Q ⟨ρ,d,mh',q,rl,rs,co⟩;cases q;exact λp hp=>co _ (ρ++[p]) _ (Ev.newL hp) (rs.newD hp RK.nil) (.ref (rs.last p))
noncomputable def Rf (o i v:D) (h:MH):Option MH:=match o with
 | .ref n=>(match h[n]? with
  | some (.dct kvs)=>(match bB i with
   | some k=>if kvs.length < 1000000 then some (h.set n (.dct (putD kvs k v))) else none
   | none=>(match kvs with
    | []=>(match kD i with | some k=>some (h.set n (.dtk [(k,v)])) | none=>none)
    | _=>none))
  | some (.dtk kvs)=>(match kD i with | some k=>if kvs.length < 1000000 then some (h.set n (.dtk (lU kvs k v))) else none | none=>none)
  | _=>none)
 | _=>none
theorem bG {o i v:D}{h h':MH}(q:Rf o i v h=some h'):∃ n,o=.ref n/\((∃ kvs k,h[n]?=some (.dct kvs)/\bB i=some k/\kvs.length < 1000000/\h'=h.set n (.dct (putD kvs k v)))\/(∃ k,h[n]?=some (.dct [])/\kD i=some k/\h'=h.set n (.dtk [(k,v)]))\/∃ kvs k,h[n]?=some (.dtk kvs)/\kD i=some k/\kvs.length < 1000000/\h'=h.set n (.dtk (lU kvs k v))):=by
 unfold Rf at q;split at q
 ·rename_i n;refine ⟨n,rfl,?_⟩;split at q
  ·rename_i kvs en;split at q
   ·rename_i k ek;split at q
    ·rename_i hz;cases q;exact .inl ⟨kvs,k,en,ek,hz,rfl⟩
    ·cases q
   ·split at q
    ·split at q
     ·rename_i k ek;cases q;exact .inr (.inl ⟨k,en,ek,rfl⟩)
     ·cases q
    ·cases q
  ·rename_i kvs en;split at q
   ·rename_i k ek;split at q
    ·rename_i hz;cases q;exact .inr (.inr ⟨kvs,k,en,ek,hz,rfl⟩)
    ·cases q
   ·cases q
  ·cases q
 ·cases q
noncomputable def rM (mv mo mi:DM D):SM:=λloc mh=>match mv loc mh with
 | none=>none
 | some (v,h1)=>match mo loc h1 with
  | none=>none
  | some (o,h2)=>match mi loc h2 with
   | none=>none
   | some (i,h3)=>match Rf o i v h3 with
    | some h4=>some (.nx,loc,h4)
    | none=>none
theorem Af1 {P:Program}{w:World}{h:Heap}{a:Addr}(dd:h.DictOf (Df P w) a []):h.DictOfH (Jl P w) a []:=by
 obtain ⟨o,es,ep,h1,h2,h3,_,h5,_⟩:=dd;have e:es.toList=[]:=by
  cases q:es.toList with
  | nil=>rfl
  | cons x r=>rw [q] at h5;cases h5
 refine ⟨o,es,ep,h1,h2,h3,by rw [e];rfl,?_,ou⟩;intro x hx;cases hx
theorem Af2 {o i value:Expr}{mv mo mi:DM D}(hu:X.A.units+64 < cLine) (ho:DE X o mo) (hi:DE X i mi) (hv:DE X value mv) (hs:swapsWith value (some (.Subscript o i pos')) pos.line X.env=pure false):DS X (.Assign [.Subscript o i pos'] value pos) (rM mv mo mi):=by
 rintro pins s σ H N I ⟨loc,mh,ρ,f,loc',mh',q,rl,rs,co⟩;unfold rM at q;split at q
 ·cases q
 rename_i v h1 ev;split at q
 ·cases q
 rename_i ov h2 eo;split at q
 ·cases q
 rename_i iv h3 ei;split at q
 ·rename_i h4 ep;cases q;refine wpAny_Assign_Subscript (thn (hv.x pins s σ H (λv1 H1=>∃ ρ1,Ev X.K H ρ H1 ρ1/\RS X.K H1 ρ1 h1/\RD X.K H1 ρ1 v v1) I ⟨loc,mh,ρ,v,h1,ev,rl,rs,λH1 ρ1 v1 e1 rs1 r1=>⟨ρ1,e1,rs1,r1⟩⟩) ?_) hs;rintro r s1 ⟨v1,H1,I1,rv,ρ1,e1,rs1,r1⟩;refine thn (ho.x pins s1 σ H1 (λv2 H2=>∃ ρ2,Ev X.K H1 ρ1 H2 ρ2/\RS X.K H2 ρ2 h2/\RD X.K H2 ρ2 ov v2) I1 ⟨loc,h1,ρ1,ov,h2,eo,rl.mono e1,rs1,λH2 ρ2 v2 e2 rs2 r2=>⟨ρ2,e2,rs2,r2⟩⟩) ?_;rintro u s2 ⟨v2,H2,I2,ru,ρ2,e2,rs2,r2⟩;refine thn (hi.x pins s2 σ H2 (λv3 H3=>∃ ρ3,Ev X.K H2 ρ2 H3 ρ3/\RS X.K H3 ρ3 h3/\RD X.K H3 ρ3 iv v3) I2 ⟨loc,h2,ρ2,iv,h3,ei,(rl.mono e1).mono e2,rs2,λH3 ρ3 v3 e3 rs3 r3=>⟨ρ3,e3,rs3,r3⟩⟩) ?_;rintro ui s3 ⟨v3,H3,I3,ri,ρ3,e3,rs3,r3⟩;have r2:=r2.mono e3;have rv3:=(r1.mono e2).mono e3;have rl3:=((rl.mono e1).mono e2).mono e3;have e13:=e1.trans (e2.trans e3);obtain ⟨n,rfl,⟨kvs,k,en,ek,hz,rfl⟩ | ⟨k,en,ek,rfl⟩ | ⟨kvs,k,en,ek,hz,rfl⟩⟩:=bG ep
  ·obtain ⟨a,xs,rfl,hd,rk⟩:=Hs rs3 r2 en;cases Pq r3 ek;have hn:ρ3[n]?=some a:=by cases r2 with | ref h=>exact h
   cases (show u=Value.ref a from ru);exact jT (Rb hu) I3 (Aaa.k hd (by rw [rk.length];exact fu hz (by decide))) ri rv λs4 I4=>⟨σ,_,I4,co _ ρ3 σ (e13.trans (Ev.dk hd)) (rs3.setD hn hd (rk.put k rv3)) (rl3.mono (Ev.dk hd))⟩
  ·obtain ⟨a,xs,rfl,hd,rk⟩:=Hs rs3 r2 en;have hn:ρ3[n]?=some a:=by cases r2 with | ref h=>exact h
   cases (show u=Value.ref a from ru);cases rk.inv0;obtain ⟨b,rfl,rfl,ok,rkk⟩:=Xy I3 rs3 ek r3 ri;obtain ⟨z,lo,vs,rel,dd⟩:=pA I3.hok hd;cases rel;have pn:PN [(k,b,v1)] (storedH [] k b r):=.cons ⟨rfl,rfl,rv⟩ .nil;refine JG (hsz:=by decide) (Rc hu) (Nq I3 rs3 ok rkk) (Af1 dd) λh' dd' hs'=>?_
   obtain ⟨q,es,ep',hq,g2,g3,g4,_,g5⟩:=dd';have ho:(∃ ys,HO.dK []=.dN ys)\/∃ ys,HO.dK []=.dK ys:=.inr ⟨_,rfl⟩;exact ⟨σ,_,Pb I3 (by rw [hd];exact True.intro) hs' ⟨q,hq⟩ (ob:=.dN [(k,b,v1)]) ⟨(by decide:1<=sizeLine),lo,_,pn,q,es,ep',hq,g2,g3,g4,g5⟩,co _ ρ3 σ (e13.trans (Ev.dn hd ho)) (rs3.setN hn hd ho (.cons ok rkk rv3 .nil)) (rl3.mono (Ev.dn hd ho))⟩
  ·obtain ⟨a,xs,ys,rfl,hn,hd,kn,z,lo,pn,dd⟩:=Xz I3 rs3 en r2;cases (show u=Value.ref a from ru);obtain ⟨b,rfl,rfl,ok,rkk⟩:=Xy I3 rs3 ek r3 ri;have hz':xs.length < 1000000:=by rw [kn.length];exact hz
   have hl:(rJ xs k b v1 (Hg kvs k).isSome).length<=sizeLine:=dz (rK _) (dz hz' (by decide));refine JG (hsz:=by rw [← Paired.length pn];exact z) (Rc hu) (Nq I3 rs3 ok rkk) dd λh' dd' hs'=>?_
   obtain ⟨q,es,ep',hq,g2,g3,g4,_,g5⟩:=dd';have ho:(∃ zs,HO.dN xs=.dN zs)\/∃ zs,HO.dN xs=.dK zs:=.inl ⟨_,rfl⟩;exact ⟨σ,_,Pb I3 (by rw [hd];exact True.intro) hs' ⟨q,hq⟩ (ob:=.dN (rJ xs k b v1 (Hg kvs k).isSome)) ⟨hl,lo,_,PN.put rv pn (kn.some_eq k pn),q,es,ep',hq,g2,g3,g4,g5⟩,co _ ρ3 σ (e13.trans (Ev.dn hd ho)) (rs3.setN hn hd ho (kn.put ok rkk rv3)) (rl3.mono (Ev.dn hd ho))⟩
 ·cases q
noncomputable def orS (m1 m2:SM):SM:=λloc mh=>match m1 loc mh with
 | some r=>some r
 | none=>m2 loc mh
theorem Akh {st:Stmt}{m1 m2:SM}(h1:DS X st m1) (h2:DS X st m2):DS X st (orS m1 m2):=by
 rintro pins s σ H N I ⟨loc,mh,ρ,f,loc',mh',q,rest⟩;unfold orS at q;split at q
 ·rename_i e;cases q;exact h1 pins s σ H N I ⟨loc,mh,ρ,f,loc',mh',e,rest⟩
 ·exact h2 pins s σ H N I ⟨loc,mh,ρ,f,loc',mh',q,rest⟩
noncomputable def Rg (o i v:D) (h:MH):Option MH:=match Jp o i v h with
 | some h'=>some h'
 | none=>Rf o i v h
noncomputable def Ht (mo mi:DM D):GM:=λv loc mh=>match mo loc mh with
 | some (o,m1)=>match mi loc m1 with
  | some (i,m2)=>match Rg o i v m2 with
   | some m3=>some (loc,m3)
   | none=>none
  | none=>none
 | none=>none
theorem rN {mv mo mi:DM D}{loc:DL.Loc}{mh:MH}{r:Fl×DL.Loc×MH}(q:Aq mv (Ht mo mi) loc mh=some r):orS (Aq mv (Xe mo mi)) (rM mv mo mi) loc mh=some r:=by
 unfold Aq Ht Rg at q;unfold orS Aq Xe rM;cases ev:mv loc mh with
 | none=>rw [ev] at q;cases q
 | some a =>
  obtain ⟨v,h1⟩:=a;rw [ev] at q;dsimp only at q ⊢;cases eo:mo loc h1 with
  | none=>rw [eo] at q;cases q
  | some b =>
   obtain ⟨o,h2⟩:=b;rw [eo] at q;dsimp only at q ⊢;cases ei:mi loc h2 with
   | none=>rw [ei] at q;cases q
   | some c =>
    obtain ⟨i,h3⟩:=c;rw [ei] at q;dsimp only at q ⊢;cases es:Jp o i v h3 with
    | some h4=>rw [es] at q;exact q
    | none =>
     rw [es] at q;dsimp only at q ⊢;cases ep:Rf o i v h3 with
     | some h4=>rw [ep] at q;exact q
     | none=>rw [ep] at q;cases q
theorem Abh {st:Stmt}{mv mo mi:DM D}(h1:DS X st (Aq mv (Xe mo mi))) (h2:DS X st (rM mv mo mi)):DS X st (Aq mv (Ht mo mi)):=by
 rintro pins s σ H N I ⟨loc,mh,ρ,f,loc',mh',q,rest⟩;exact Akh h1 h2 pins s σ H N I ⟨loc,mh,ρ,f,loc',mh',rN q,rest⟩
end
section
variable {X:Cx}
end
noncomputable abbrev Aki:=CloI->List D->List D->MH->Option (D×MH)
noncomputable def spC (K:aj) (a:Addr) (I:CloI) (fd:FuncData) (cl:List (Str×Addr)) (g:List D->List D->MH->Option (D×MH)):Sp:=λvs H Q _=>vs.length=I.ps.length/\(∃ o u,H a=some (.frz o u)/\o.data=.func fd)/\W7 H fd.code fd.qualname/\cl.map (·.1)=I.fr/\(cl.map (·.2)).Nodup /\
 ∃ xs,Ig H (cl.map (·.2)) xs/\∃ ρ mh fs ds d mh',g fs ds mh=some (d,mh')/\RS K H ρ mh/\RDs K H ρ fs xs/\RDs K H ρ ds vs/\∀ H' ρ' v,Ev K H ρ H' ρ'->RS K H' ρ' mh'->RD K H' ρ' d v->Q v H'
noncomputable def Adb (P:Program) (w:World) (K:aj) (mg:Str->Option Value) (base:Heap) (k:Nat) (clo:Aki):Prop:=(∀ I a fd cl,CloSc I->Ac7 I fd cl->FnOk P w K mg base CX0 k a fd I.ps (spC K a I fd cl (clo I)))/\∀ I fs ds mh r,clo I fs ds mh=some r->ds.length=I.ps.length
theorem X3 {P:Program}{w:World}{K:aj}{mg:Str->Option Value}{base:Heap}{k:Nat}:Adb P w K mg base k (λ_ _ _ _=>none) :=
 ⟨λI a fd cl _ _=>⟨λvs H Q E h=>h.1,λA outer s H args us vs Q E _ _ _ _ h=>by
  obtain ⟨_,_,_,_,_,_,_,_,_,_,_,_,_,q,_⟩:=h
  cases q⟩,λI fs ds mh r h=>by cases h⟩
section
variable {X:Cx}
end
section
variable {X:Cx}
end
theorem bH {prog:Program}{w:World}{d:Addr}(hd:(d==sysModules)=false) :
  MeetsIn prog w (Builtin.«dict.__len__» ⟨[.ref d],[]⟩) (λ_ R s=>∃ o es ep,s.heap.get? d=some o/\o.data=.dict es ep/\R (.ok (.ret (.int es.size s.toks))) { s with toks:=s.toks+1 }) :=
 .of_wp λA R s ⟨o,es,ep,ho,hdat,h⟩=>by
  show wpAny _ _ (dictSize d >>= _) _ _ s;unfold dictSize;refine aq (aq (wpAny_dictEntries ho hdat (cu ?_)));show wpAny _ _ (Builtin.Dict.pendingCount d >>= _) _ _ s;refine aq (wpAny_pendingCount_other hd ?_);refine wpAny_ret_mkInt ?_;rw [Nat.add_zero];exact h
theorem lW {prog:Program}{w:World}{A:Around}{E:Value->Shared->Prop}{s:Shared}{d:Addr}{o:Obj}{es ep}{Q:Value->Shared->Prop}(hd:(d==sysModules)=false) (ho:s.heap.get? d=some o) (hc:o.cls=.type "dict") (hdat:o.data=.dict es ep) (hfit:(es.size:Int) < 2 ^ 63)
  (h:Q (.int es.size (s.toks+1)) { s with toks:=s.toks+1+1 }):wpAny (model prog w) A (call (.builtin "len") [.ref d]) Q E s:=by
 refine Calls.call_function_entry kind_len plain_len entry_len (args_len1 _) ?_
 have hT:s.TypeIs (.ref d) "dict":=⟨o,ho,hc⟩
 unfold Builtin.«len»
 refine aq (m:=oneArg "len" _) (cu ?_)
 refine aq (m:=callSpecial? (.ref d) (Str.ofString "__len__")) (uq (name:=Str.ofString "__len__") hT F.slot_dict_len
  (call_meetsIn F.slot_dict_len hT F.entry_dict_len (F.args_dict_len_1 _) (bH hd) ⟨o,es,ep,ho,hdat,?_⟩))
 show wpAny _ _ _ _ _ { s with toks:=s.toks+1 };refine aq (wu (cu ?_));refine aq (wpAny_letGo ?_);show wpAny _ _ (if ((es.size:Nat):Int) < 0 then _ else _) _ _ _;rw [if_neg (by omega)];show wpAny _ _ (if ((es.size:Nat):Int) ≥ 2 ^ 63 then _ else _) _ _ _;rw [if_neg (by omega)];exact aq (wpAny_mkInt (cu ⟨_,rfl,h⟩))
noncomputable def Dd (ds:List D) (mh:MH):Option (D×MH):=match ds with
 | [.ref n]=>(match mh[n]? with
  | some (.dct kvs)=>some (.int kvs.length,mh)
  | some (.dtk kvs)=>some (.int kvs.length,mh)
  | _=>T6 [.ref n] mh)
 | _=>T6 ds mh
section
variable {X:Cx}
theorem lX:Bt X (.builtin "len") (rDs X.K Dd):=by
 rintro pins s σ H xs us Q I rv ⟨ρ,mh,ds,d,mh',q,rs,r,co⟩;unfold Dd at q;split at q
 ·rename_i n;obtain ⟨v,rfl,rx⟩:=O6 r;obtain ⟨u,rfl,ru⟩:∃ u,us=[u]/\RelV v u:=by cases rv with | cons h t=>cases t;exact ⟨_,rfl,h⟩
  split at q
  ·rename_i kvs en;cases q;obtain ⟨a,xs,rfl,hd,rk⟩:=Hs rs rx en;cases (show u=Value.ref a from ru);exact Aj0 I (.of hd) λt s' I'=>⟨.int _,H,I',⟨_,rfl⟩,by rw [rk.length];exact co H ρ _ Ev.refl rs (.int _)⟩
  ·rename_i kvs en;cases q;obtain ⟨a,xs,ys,rfl,hn,hd,kn,z,lo,pn,o,es,ep,h1,h2,h3,h4,_⟩:=Xz I rs en rx;cases (show u=Value.ref a from ru);have hl:es.size=kvs.length:=by rw [← kn.length,Paired.length pn,← ak (f:=entryOfKey (Jl X.prog X.w)),← h4];simp
   have hf:(es.size:Int) < 2 ^ 63:=by
    rw [hl,← kn.length];rw [qp] at z;omega
   exact lW lo h1 h2.1 h3 hf ⟨.int _,H,(I.tok _),⟨_,rfl⟩,by rw [hl];exact co H ρ _ Ev.refl rs (.int _)⟩
  ·exact Qt pins s σ H _ _ Q I rv ⟨ρ,mh,_,d,mh',q,rs,r,co⟩
 ·exact Qt pins s σ H _ _ Q I rv ⟨ρ,mh,_,d,mh',q,rs,r,co⟩
noncomputable def Gj {α:Type}(ds:List α) (lo hi st:Int):List α:=(sliceRange (sliceBounds (some lo) (some hi) (some st) ds.length).1 (sliceBounds (some lo) (some hi) (some st) ds.length).2.1 (sliceBounds (some lo) (some hi) (some st) ds.length).2.2).filterMap (ds[·]?)
theorem lY {α:Type}{ds:List α}{lo hi st:Int}{x:α}(h:x∈Gj ds lo hi st):x∈ds:=by
 obtain ⟨i,_,e⟩:=JC.mp h;exact gn e
theorem Rh {K:aj}{H:Hp}{ρ:List Addr}{ds:List D}{vs:List V}(r:RDs K H ρ ds vs):∀ (is:List Nat),RDs K H ρ (is.filterMap (ds[·]?)) (is.filterMap (vs[·]?))
 | []=>.nil
 | i::is=>by
  rw [qt,qt];cases e:ds[i]? with
  | none =>
   have:vs[i]?=none:=by
    rw [nj] at e ⊢;rw [← r.length];exact e
   rw [this];exact Rh r is
  | some d =>
   obtain ⟨v,e2,rd⟩:=r.get e;rw [e2];exact .cons rd (Rh r is)
theorem Nt {xs:List V}{us:List Value}(r:Vals xs us):∀ (is:List Nat),Vals (is.filterMap (xs[·]?)) (is.filterMap (us[·]?))
 | []=>.nil
 | i::is=>by
  rw [qt,qt];cases e:xs[i]? with
  | none=>rw [r.none_of e];exact Nt r is
  | some d =>
   obtain ⟨v,e2,rd⟩:=r.get e;rw [e2];exact .cons rd (Nt r is)
noncomputable def bI (x:D) (lo hi st:D) (mh:MH):Option (D×MH):=match lo,hi,st with
 | .int lo,.int hi,.int st=>(match x with
  | .ref n=>(match mh[n]? with
   | some (.lst ds)=>if st≠0 then some (.ref mh.length,mh++[.lst (Gj ds lo hi st)]) else none
   | _=>none)
  | _=>none)
 | _,_,_=>none
noncomputable def Abi (ma ml mu mt:DM D):DM D:=ma.bnd λx=>ml.bnd λl=>mu.bnd λu=>mt.bnd λt=>Zl (bI x l u t)
theorem lZ {x l u t d:D}{mh mh':MH}(q:bI x l u t mh=some (d,mh')):∃ n lo hi st ds,x=.ref n/\l=.int lo/\u=.int hi/\t=.int st/\mh[n]?=some (.lst ds)/\st≠0/\d=.ref mh.length/\mh'=mh++[.lst (Gj ds lo hi st)]:=by
 unfold bI at q;split at q
 ·split at q
  ·split at q
   ·rename_i en;split at q
    ·rename_i h0;cases q;exact ⟨_,_,_,_,_,rfl,rfl,rfl,rfl,en,h0,rfl,rfl⟩
    ·cases q
   ·cases q
  ·cases q
 ·cases q
theorem mC {a e1 e2 e3:Expr}{ma m1 m2 m3:DM D}{p2 pos:Pos}(ha:DE X a ma) (h1:DE X e1 m1) (h2:DE X e2 m2) (h3:DE X e3 m3):DE X (.Subscript a (.Slice (some e1) (some e2) (some e3) p2) pos) (Abi ma m1 m2 m3):=by
 rintro loc mh pins s σ H Q I ⟨ρ,d,mh',q,rl,rs,co⟩;obtain ⟨x,n1,ea,q⟩:=Ao q;obtain ⟨l,n2,el,q⟩:=Ao q;obtain ⟨u,n3,eu,q⟩:=Ao q;obtain ⟨t,n4,et,q⟩:=Ao q;obtain ⟨n,lo,hi,st,ds,rfl,rfl,rfl,rfl,en,h0,rfl,rfl⟩:=lZ (show bI x l u t n4=some (d,mh') from q);refine WY (thn (ha loc mh pins s σ H (λv1 H1=>∃ ρ1,Ev X.K H ρ H1 ρ1/\RS X.K H1 ρ1 n1/\RD X.K H1 ρ1 (.ref n) v1) I ⟨ρ,_,n1,ea,rl,rs,λH1 ρ1 v1 e1 rs1 r1=>⟨ρ1,e1,rs1,r1⟩⟩) ?_);rintro v s1 ⟨v1,H1,I1,rv,ρ1,e1,rs1,r1⟩;refine wpAny_Slice ?_;rw [JP,JP,JP];refine thn (h1 loc n1 pins s1 σ H1 (λv2 H2=>∃ ρ2,Ev X.K H1 ρ1 H2 ρ2/\RS X.K H2 ρ2 n2/\v2=.int lo) I1 ⟨ρ1,_,n2,el,rl.mono e1,rs1,λH2 ρ2 v2 e2 rs2 r2=>⟨ρ2,e2,rs2,by cases r2;rfl⟩⟩) ?_;rintro vl s2 ⟨v2,H2,I2,rl2,ρ2,e2,rs2,rfl⟩;refine thn (h2 loc n2 pins s2 σ H2 (λv3 H3=>∃ ρ3,Ev X.K H2 ρ2 H3 ρ3/\RS X.K H3 ρ3 n3/\v3=.int hi) I2 ⟨ρ2,_,n3,eu,(rl.mono e1).mono e2,rs2,λH3 ρ3 v3 e3 rs3 r3=>⟨ρ3,e3,rs3,by cases r3;rfl⟩⟩) ?_;rintro vu s3 ⟨v3,H3,I3,rl3,ρ3,e3,rs3,rfl⟩;refine thn (h3 loc n3 pins s3 σ H3 (λv4 H4=>∃ ρ4,Ev X.K H3 ρ3 H4 ρ4/\RS X.K H4 ρ4 n4/\v4=.int st) I3 ⟨ρ3,_,n4,et,((rl.mono e1).mono e2).mono e3,rs3,λH4 ρ4 v4 e4 rs4 r4=>⟨ρ4,e4,rs4,by cases r4;rfl⟩⟩) ?_;rintro vt s4 ⟨v4,H4,I4,rl4,ρ4,e4,rs4,rfl⟩;obtain ⟨t1,rfl⟩:=(show ∃ t,vl=Value.int lo t from rl2);obtain ⟨t2,rfl⟩:=(show ∃ t,vu=Value.int hi t from rl3);obtain ⟨t3,rfl⟩:=(show ∃ t,vt=Value.int st t from rl4);have r4:=((r1.mono e2).mono e3).mono e4;cases r4 with
 | @ref _ b hb =>
  cases (show v=Value.ref b from rv);obtain ⟨a',ha',ro⟩:=rs4.at en;rw [hb] at ha';cases ha';obtain ⟨xs,sq,r⟩:=ro.read
  have I5:Inv X pins σ H4 { s4 with heap:=s4.heap.push { cls:=.type "slice",data:=.fields #[.int lo t1,.int hi t2,.int st t3] } }:=I4.kept (t':=s4.toks) λb ob q=>bw _ q
  obtain ⟨its,rvv,ht,hz⟩:=I5.list sq;have hlen:=rvv.length
  show wpAny (model X.prog X.w) X.A (subscriptTail a (.Slice (some _) (some _) (some _) p2) (.ref b) (.ref s4.heap.objs.size)) (EP X pins σ Q) X.xe { s4 with heap:=s4.heap.push { cls:=.type "slice",data:=.fields #[.int lo t1,.int hi t2,.int st t3] } };refine tail_any (ops:=[.ref b,.ref s4.heap.objs.size]) ht.isList.typeIs slot_list_getitem.lookup (MJ ht.isList (Heap.IsSliceOf.new ..) (.int lo _) (.int hi _) (.int st _) (by intro z;exact h0 (Option.some.inj z)) ?_ (by rw [dw];omega)) (by with_unfolding_all rfl);have ep:slicePick its.toArray (some lo) (some hi) (some st)=(Gj its lo hi st).toArray:=by
   unfold slicePick Gj;rw [dw];simp only [List.getElem?_toArray]
  have lx:xs.length=its.length:=hlen;have ld:ds.length=xs.length:=r.length;have r5:RDs X.K H4 ρ4 (Gj ds lo hi st) (Gj xs lo hi st):=by unfold Gj;rw [ld];exact Rh r _
  have r6:Vals (Gj xs lo hi st) (Gj its lo hi st):=by unfold Gj;rw [lx];exact Nt rvv _
  rw [ep];have hsz:(Gj xs lo hi st).length<=sizeLine:=by
   have:=slicePick_size_le its.toArray (some lo) (some hi) (some st);rw [ep,dw,dw] at this;rw [r6.length];omega
  exact ⟨.ref _,_,I5.laid (t':=s4.toks) (o:=.lst (Gj xs lo hi st)) (λb ob q=>bw _ q) (bh _) ⟨hsz,_,0,r6,gq _ rfl⟩,rfl,Co.newL rs4 r5 (co.ev (e1.trans (e2.trans (e3.trans e4)))) _ (I5.hok.fresh (bh _))⟩
end
theorem rO {X:Cx}:OpR X (binaryOp .FloorDiv) (rI (λ_ j=>j≠0/\j.natAbs < 10889035741470030830827987437816582766592) λi j=>.int (i.fdiv j)):=opI λ_ j _ _ _ _ _ hc q=>floordiv_int hc.1 q (.inl (PyProof.noPylong_of_log2 (by
 have h:j.natAbs < 2 ^ 133:=hc.2
 by_cases h0:j.natAbs=0
 ·rw [h0];decide +kernel
 ·have h60:j.natAbs.log2 < 133:=(Nat.log2_lt h0).mpr h
  omega)))
structure SC where
 N:List Str
 scope:Scope
 own:Str->Bool
structure Gb where
 cal:Str->Option (List Str×Fn)
 con:Str->Option D
 dic:Str->Option (List (Str×D))
 fld:Str->Str->Bool
 met:Str->Str->Option (List Str×Fn)
 mkr:Str->Option Str
 clo:Aki:=λ_ _ _ _=>none
noncomputable def slot (N:List Str) (x:Str):Option Nat:=N.findIdx? (λy=>y==x)
noncomputable def rP (sc:Scope) (x:Str):Bool:=match sc.names.lookup x with
 | some .local=>true
 | some .cell=>true
 | some .free=>true
 | _=>false
noncomputable def mD (sc:Scope) (x:Str):Bool:=match sc.names.lookup x with
 | some .local=>true
 | some .cell=>true
 | _=>false
noncomputable def glB (sc:Scope) (x:Str):Bool:=match sc.names.lookup x with
 | some .globalImplicit=>true
 | _=>false
noncomputable def X4 (i j:Int):Bool:=decide (-(2 ^ 64) < i/\i < 2 ^ 64) || decide (-(2 ^ 64) < j/\j < 2 ^ 64)
theorem Akj {X:Cx}{f:Value->Value->Sem Value}:OpR X f (rD X.K λ_ _ _=>none):=by
 rintro _ _ _ _ _ _ _ _ _ _ _ _ ⟨_,_,_,_,_,_,e,_⟩;cases e
noncomputable def Akk:Operator->Option (D->D->MH->Option (D×MH))
 | .Add=>some Cp
 | .Sub=>some (iop (λ_ _=>true) λi j=>i - j)
 | .Mult=>some (eX (iop X4 λi j=>i * j))
 | .FloorDiv=>some (iop (λ_ j=>decide (j≠0)&&decide (j.natAbs < 10889035741470030830827987437816582766592)) λi j=>i.fdiv j)
 | .Mod=>some (iop (λ_ j=>decide (j≠0)) λi j=>i.fmod j)
 | .LShift=>some (iop (λi j=>decide (0<=j)&&(decide (j<=1000000)&&decide (i.natAbs < 2 ^ 64))) λi j=>i * 2 ^ j.toNat)
 | .RShift=>some (iop (λ_ j=>decide (0<=j)) λi j=>i / 2 ^ j.toNat)
 | .BitAnd=>some (iop (λ_ _=>true) FQ)
 | .BitOr=>some (iop (λ_ _=>true) GJ)
 | _=>none
noncomputable def Ri:CmpOp->(D->D->MH->Option (D×MH))
 | .Eq=>eqD
 | .NotEq=>neD
 | .Lt=>S5 λi j=>decide (i < j)
 | .LtE=>S5 λi j=>decide (i<=j)
 | .Gt=>S5 λi j=>decide (j < i)
 | .GtE=>S5 λi j=>decide (j<=i)
 | .Is=>isD false
 | .IsNot=>λ_ _ _=>none
 | .In=>inD false
 | .NotIn=>inD true
theorem Abj {X:Cx}{op:Operator}{f:D->D->MH->Option (D×MH)}(h:Akk op=some f):OpR X (binaryOp op) (rD X.K f):=by
 cases op <;> (try cases h)
 ·exact Aan
 ·exact Vi Aej
 ·refine rG (Ni Aek λi j h=>?_);unfold X4 at h;rw [wg,decide_eq_true_iff,decide_eq_true_iff] at h;exact h
 ·exact Ni zH λi j h=>of_decide_eq_true h
 ·refine Ni Ael λi j h=>?_
  rw [bf,bf,decide_eq_true_iff,decide_eq_true_iff,decide_eq_true_iff] at h;exact ⟨h.1,h.2.1,h.2.2⟩
 ·exact Ni Aem λi j h=>of_decide_eq_true h
 ·exact Vi Ajj
 ·exact Vi Aen
 ·refine Ni rO λi j h=>?_
  rw [bf,decide_eq_true_iff,decide_eq_true_iff] at h;exact ⟨h.1,h.2⟩
theorem Hu {X:Cx}(hu:X.A.units+64 < cLine) (op:CmpOp):OpR X (compareOp op) (rD X.K (Ri op)):=by
 cases op
 ·exact Afi hu
 ·exact Afj hu
 ·exact Pj Ajk
 ·exact Pj Ajl
 ·exact Pj Ajm
 ·exact Pj Ajn
 ·exact Afk
 ·exact Akj
 ·exact Af0 hu
 ·exact lV hu
noncomputable def isStar:Expr->Bool
 | .Starred ..=>true
 | _=>false
noncomputable def isSet:Expr->Bool
 | .Set ..=>true
 | _=>false
noncomputable def Ka:Expr->Bool
 | .ListComp ..=>true
 | .SetComp ..=>true
 | .DictComp ..=>true
 | _=>false
noncomputable def isSlice:Expr->Bool
 | .Slice ..=>true
 | _=>false
noncomputable def baseOk:Expr->Bool
 | .Call (.Name ..) [] [] _=>false
 | _=>true
noncomputable def tyOf (c:Str):Option String :=
 if c == "int" then some "int" else if c == "bool" then some "bool" else if c == "str" then some "str" else if c == "tuple" then some "tuple" else if c == "list" then some "list" else if c == "dict" then some "dict" else none
noncomputable def Abk:Fn:=λ_ _=>none
noncomputable def bJ (_:D) (_:List D) (_:MH):Option (D×MH):=none
theorem Vs {X:Cx}{f:Value}:Bt X f (rDs X.K Abk):=by
 rintro _ _ _ _ _ _ _ _ _ ⟨_,_,_,_,_,e,_⟩;cases e
theorem X5 {X:Cx}{id:String}:MtR X id (rDM X.K bJ):=by
 rintro _ _ _ _ _ _ _ _ _ _ _ _ ⟨_,_,_,_,_,_,e,_⟩;cases e
noncomputable def rQ (x:Str):Option Fn:=if x=="len" then some Dd else if x=="list" then some Xb else if x=="tuple" then some Dg else if x=="all" then some kW else if x=="any" then some Abk else if x=="max" then some eV else if x=="min" then some Abk else if x=="int" then some intD else if x=="sorted" then some Gr else if x=="sum" then some Abk else none
noncomputable def Nu (m:Str) (n:Nat):Option (String×(D->List D->MH->Option (D×MH))) :=
 if m == "append"&&n==1 then some ("list",Eg) else if m == "bit_length"&&n==0 then some ("int",qI) else if m == "pop"&&n==1 then some ("list",bJ) else if m == "pop"&&n==0 then some ("list",bJ) else if m == "extend"&&n==1 then some ("list",J6) else if m == "index"&&n==1 then some ("tuple",lH) else none
noncomputable def Fo:Expr->Bool
 | .Tuple ..=>true
 | _=>false
noncomputable def setArg:Expr->List Expr->Option Expr
 | .Call (.Name g _) [b] [] _,[]=>if g == "set"&&!isStar b then some b else none
 | _,_=>none
noncomputable def bK:Expr->List Expr->Option Expr
 | .Call (.Name g _) [b] [] _,[]=>if g == "range"&&!isStar b then some b else none
 | _,_=>none
noncomputable def Af3 (_:Expr) (_:List Expr):Option (Expr×Expr):=none
noncomputable def eZ (_:SC) (_:Expr) (_:CmpOp) (_:Expr):Option (Nat×Nat):=none
noncomputable def Dy (scope:Scope):List Str:=(scope.names.filter λp=>(match p.2 with | .local=>true | .cell=>true | .free=>true | _=>false)).map (·.1)
noncomputable def Rj (N:List Str) (scope:Scope):List (Option Nat):=(Dy scope).map λx=>match scope.names.lookup x with
 | some .free=>slot N x
 | _=>none
noncomputable def Mi (scope outer:Scope):Scope:={ scope with names:=scope.names.map λ(n,k)=>if (k==.free&&outer.kind==.function&&outer.names.lookup n==some .cell) then (n,.cell) else (n,k) }
noncomputable def Vt (scope:Scope) (sc:SC):SC:={ N:=Dy scope,scope:=Mi scope sc.scope,own:=λx=>mD scope x }
noncomputable def Pr (scope:Scope) (sc:SC):Bool :=
 (match scope.kind with | .function=>true | _=>false)&&(decide ((scope.names.map (·.1)).Nodup) &&
  scope.names.all λp=>(match p.2 with | .free=>(match sc.scope.names.lookup p.1 with | some .cell=>true | some .free=>true | _=>false) | _=>true))
noncomputable def X6 (G:Gb) (sc:SC):Expr->Option (List (Str×D))
 | _=>none
noncomputable def rR (G:Gb) (sc:SC) (op:CmpOp) (b:Expr):Option (Bool×List (Str×D)):=match op with
 | .In=>(match X6 G sc b with | some kvs=>some (false,kvs) | none=>none)
 | .NotIn=>(match X6 G sc b with | some kvs=>some (true,kvs) | none=>none)
 | _=>none
noncomputable def Adc (G:Gb) (f:Str):List Expr->Option Str
 | []=>G.mkr f
 | _=>none
noncomputable def iGn (sc:SC) (x:Str):Option Nat:=if mD sc.scope x&&sc.own x then slot sc.N x else none
noncomputable def iGs (sc:SC):List Expr->Option (List Nat)
 | []=>some []
 | .Name x _::r=>match iGn sc x with
  | some i=>match iGs sc r with
   | some is=>some (i::is)
   | none=>none
  | none=>none
 | _=>none
noncomputable def iG (sc:SC):Expr->Option (List Nat×GM)
 | .Name x _=>match iGn sc x with | some i=>some ([i],Ai i) | none=>none
 | .Tuple es _ _=>match iGs sc es with | some is=>some (is,T8 is) | none=>none
 | _=>none
noncomputable def Af4:Option Str->Bool
 | some n=>n == "default"
 | none=>false
noncomputable def Abl:Expr->Bool
 | .Constant .none _ _=>true
 | _=>false
noncomputable def bL (k:Keyword):Bool:=Af4 k.arg&&Abl k.value
theorem X7 {k:Keyword}(h:bL k=true):∃ j cp kp,k=⟨some "default",.Constant .none j cp,kp⟩:=by
 obtain ⟨n,v,p⟩:=k;unfold bL at h;rw [bf] at h;obtain ⟨h1,h2⟩:=h;cases n with
 | none=>cases h1
 | some n =>
  have e:n = "default":=dj h1
  subst e;cases v with
  | Constant c j cp =>
   cases c with
   | none=>exact ⟨_,_,_,rfl⟩
   | _=>cases h2
  | _=>cases h2
noncomputable def iEb (E:SC->Expr->DM D) (T:SC->Expr->DM Bool) (A:SC->List Expr->DM (List D)) (F:SC->List Expr->DM Bool) (I:SC->Expr->Expr->DM Src) (G:Gb) (sc:SC) (e:Expr):DM D:=match e with
 | .Constant (.int i) _ _=>Zr (.int i)
 | .Constant (.bool b) _ _=>Zr (.bl b)
 | .Constant .none _ _=>Zr .non
 | .Constant (.str x) _ _=>Zr (.str x)
 | .Name x _=>if rP sc.scope x&&!(x == "__debug__")&&!(x == "__classdict__") then (match slot sc.N x with
   | some i=>λloc mh=>match loc[i]? with | some (some d)=>some (d,mh) | _=>none
   | none=>Zb) else if glB sc.scope x&&!(x == "__debug__") then (match G.con x with | some d=>Zr d | none=>Zb) else Zb
 | .BinOp a op b _=>(match Akk op with | some f=>dop f (E sc a) (E sc b) | none=>Zb)
 | .UnaryOp .USub a _=>(E sc a).bnd λx=>Zl (Aft x)
 | .UnaryOp .Not a _=>(Ah (E sc a)).bnd λc=>Zr (.bl (!c))
 | .BoolOp op [a] _=>E sc a
 | .BoolOp .And (a::b::r) p=>Ec (E sc a) (E sc (.BoolOp .And (b::r) p))
 | .BoolOp .Or (a::b::r) p=>pL (E sc a) (E sc (.BoolOp .Or (b::r) p))
 | .Compare a [op] [b] _=>(match eZ sc a op b with
  | some (i,j)=>qQ (λloc mh=>match loc[i]? with | some (some d)=>some (d,mh) | _=>none) (λloc mh=>match loc[j]? with | some (some d)=>some (d,mh) | _=>none)
  | none=>match rR G sc op b with
   | some (neg,kvs)=>Zb
   | none=>if isSet b then Zb else dop (Ri op) (E sc a) (E sc b))
 | .Compare a [op,op'] [b,c] _=>if isSet c then Zb else G9 (Ri op) (Ri op') (E sc a) (E sc b) (E sc c)
 | .IfExp c a b _=>dIf (T sc c) (E sc a) (E sc b)
 | .Tuple es _ _=>(A sc es).bnd λds=>Zl (T4 ds)
 | .List es _=>(A sc es).bnd λds=>Zl (T5 ds)
 | .Dict ks vs _=>if ks.isEmpty&&vs.isEmpty then newD else if Ada ks vs&&!ks.isEmpty&&decide (ks.length<=15) then Zb else Zb
 | .Subscript a (.Slice lo hi none _) _=>dSl (E sc a) (match lo with | some e=>some (E sc e) | none=>none) (match hi with | some e=>some (E sc e) | none=>none)
 | .Subscript a (.Slice (some e1) (some e2) (some e3) _) _=>Abi (E sc a) (E sc e1) (E sc e2) (E sc e3)
 | .Subscript a b _=>if isSlice b then Zb else (match X6 G sc a with | some kvs=>Zb | none=>dop ixD (E sc a) (E sc b))
 | .Attribute o f _=>if baseOk o then K1 G.fld f (E sc o) else Zb
 | .Call (.Name f _) [] [] _=>if glB sc.scope f&&!(f == "__debug__") then (match G.cal f with | some ([],g)=>Zl (g []) | _=>Zb) else Zb
 | .Call (.Name f _) (a::es) [] _=>if rP sc.scope f&&!(f == "__debug__")&&!(f == "__classdict__")&&!(isStar a)&&es.all (λe=>!isStar e) then Zb else if glB sc.scope f&&!(f == "__debug__")&&!(f == "__name__")&&!(isStar a)&&es.all (λe=>!isStar e) then
   (match G.cal f with
   | some (_,g)=>(A sc (a::es)).bnd λds=>Zl (g ds)
   | none=>match Adc G f es with
    | some fl=>(E sc a).bnd λd=>Zr (.obj f [fl] [d])
    | none=>match setArg a es with
    | some b=>if glB sc.scope "set" then (if f == "len" then (E sc b).bnd (λx=>Zl (Ij x)) else if f == "sorted" then Zb else Zb) else Zb
    | none=>match Af3 a es with
    | some (b,c)=>if glB sc.scope "zip"&&f == "list" then (A sc [b,c]).bnd (λds=>Zl (qW ds)) else if glB sc.scope "zip"&&f == "sorted" then (A sc [b,c]).bnd (λds=>Zl (qX ds)) else Zb
    | none=>match bK a es with
    | some b=>if glB sc.scope "range" then (if f == "list" then (E sc b).bnd (λx=>Zl (Ff x)) else if f == "tuple" then (E sc b).bnd (λx=>Zl (Pk x)) else Zb) else Zb
    | none=>if f == "isinstance" then (match es with
    | [.Name c _]=>if glB sc.scope c&&!(c == "__debug__")&&!(c == "__name__") then (match tyOf c with | some ty=>(E sc a).bnd λx=>Zl (Xh ty x) | none=>Zb) else Zb
    | _=>Zb) else match rQ f with
     | some g=>(A sc (a::es)).bnd λds=>Zl (g ds)
     | none=>Zb) else Zb
 | .Call (.Name f _) [a] (kw::ks) _=>if glB sc.scope f&&!(isStar a)&&bL kw&&ks.isEmpty then (if f == "max" then Zb else if f == "min" then Zb else Zb) else Zb
 | .Call (.Attribute o m ap) [] [] p=>if baseOk o&&(ap.endLine==p.line) then (match Nu m 0 with | some (ty,f)=>Dq ty f (E sc o) (Zr []) | none=>Hf G.met m (E sc o) (Zr [])) else Zb
 | .Call (.Attribute o m ap) (a::es) [] p=>if baseOk o&&(ap.endLine==p.line)&&!(isStar a)&&es.all (λe=>!isStar e)&&decide ((a::es).length < 20) then (if m == "get" then (match X6 G sc o with | some kvs=>Zb | none=>Zb) else if m == "count"&&es.isEmpty then Oq "tuple" bJ "list" bJ (E sc o) (A sc (a::es)) else if m == "index"&&es.isEmpty then Oq "tuple" lH "list" bJ (E sc o) (A sc (a::es)) else (match Nu m (a::es).length with | some (ty,f)=>Dq ty f (E sc o) (A sc (a::es)) | none=>Hf G.met m (E sc o) (A sc (a::es)))) else Zb
 | .ListComp elt [⟨tg,iter,ifs,k⟩] scope _=>if k==0&&Pr scope sc&&!(isSet iter) then (match iG (Vt scope sc) tg with
   | some (ws,g)=>if ws.all (λi=>match (Rj sc.N scope)[i]? with | some (some _)=>false | _=>true) then Bp (I sc tg iter) (Rj sc.N scope) g (F (Vt scope sc) ifs) (E (Vt scope sc) elt) else Zb
   | none=>Zb) else Zb
 | _=>Zb
noncomputable def iTb (E:SC->Expr->DM D) (T:SC->Expr->DM Bool) (A:SC->List Expr->DM (List D)) (F:SC->List Expr->DM Bool) (I:SC->Expr->Expr->DM Src) (G:Gb) (sc:SC) (e:Expr):DM Bool:=match e with
 | .UnaryOp .Not a _=>Hq (T sc a)
 | .BoolOp op [a] _=>T sc a
 | .BoolOp .And (a::b::r) p=>Je (T sc a) (T sc (.BoolOp .And (b::r) p))
 | .BoolOp .Or (a::b::r) p=>O5 (T sc a) (T sc (.BoolOp .Or (b::r) p))
 | .BoolOp _ [] _=>Zb
 | .IfExp ..=>Zb
 | .Compare a [op] [b] _=>(match rR G sc op b with
  | some (neg,kvs)=>Zb
  | none=>if isSet b then Zb else Ah (dop (Ri op) (E sc a) (E sc b)))
 | .Compare a [op,op'] [b,c] _=>if isSet c then Zb else Ah (G9 (Ri op) (Ri op') (E sc a) (E sc b) (E sc c))
 | .Compare ..=>Zb
 | e=>G6 (E sc e)
noncomputable def iIb (E:SC->Expr->DM D) (T:SC->Expr->DM Bool) (A:SC->List Expr->DM (List D)) (F:SC->List Expr->DM Bool) (I:SC->Expr->Expr->DM Src) (G:Gb) (sc:SC) (tg e:Expr):DM Src:=match e with
 | .Call (.Name f p) [a] [] p'=>if f == "range"&&glB sc.scope f then (if isStar a then Zb else Ls K9 (A sc [a])) else if f == "enumerate"&&glB sc.scope f then (if isStar a || !(Fo tg) then Zb else Mh (E sc a)) else Cq (E sc (.Call (.Name f p) [a] [] p'))
 | .Call (.Name f p) [a,b] [] p'=>if f == "range"&&glB sc.scope f then (if isStar a || isStar b then Zb else Zb) else if f == "zip"&&glB sc.scope f then (if isStar a || isStar b || !(Fo tg) then Zb else Zb) else Cq (E sc (.Call (.Name f p) [a,b] [] p'))
 | .Call (.Name f p) [a,b,c] [] p'=>if f == "range"&&glB sc.scope f then (if isStar a || isStar b || isStar c then Zb else Zb) else Cq (E sc (.Call (.Name f p) [a,b,c] [] p'))
 | e=>Cq (E sc e)
mutual
noncomputable def iE (G:Gb):Nat->SC->Expr->DM D
 | 0,_,_=>Zb
 | n+1,sc,e=>iEb (iE G n) (iT G n) (iA G n) (iF G n) (iI G n) G sc e
termination_by structural n=>n
noncomputable def iT (G:Gb):Nat->SC->Expr->DM Bool
 | 0,_,_=>Zb
 | n+1,sc,e=>iTb (iE G n) (iT G n) (iA G n) (iF G n) (iI G n) G sc e
termination_by structural n=>n
noncomputable def iA (G:Gb):Nat->SC->List Expr->DM (List D)
 | 0,_,_=>Zb
 | n+1,sc,es=>match es with
  | []=>Zr []
  | a::r=>if isStar a then Zb else Aa (iE G n sc a) (iA G n sc r)
termination_by structural n=>n
noncomputable def iF (G:Gb):Nat->SC->List Expr->DM Bool
 | 0,_,_=>Zb
 | n+1,sc,es=>match es with
  | []=>Zr true
  | [c]=>iT G n sc c
  | _=>Zb
termination_by structural n=>n
noncomputable def iI (G:Gb):Nat->SC->Expr->Expr->DM Src
 | 0,_,_,_=>Zb
 | n+1,sc,tg,e=>iIb (iE G n) (iT G n) (iA G n) (iF G n) (iI G n) G sc tg e
termination_by structural n=>n
end
noncomputable def Akl (sc:SC) (x:Str) (px:Pos) (y:Str) (py:Pos) (a b:Expr):Bool :=
 ((if sc.scope.kind.isAnnotationScope then ScopeKind.function else sc.scope.kind)==.function)&&(sc.scope.names.lookup x==some .local)&&(sc.scope.names.lookup y==some .local)&&(py.line==px.line)&&!(x==y)&&!isStar a&&!isStar b&&!([a,b].all (foldedForSure 8))&&!([a,b].all (constantsAlone 8))
noncomputable def Af5 (mr:DM (List D)) (i j:Nat):SM:=λloc mh=>match mr loc mh with
 | some ([d,e],h)=>some (.nx,(loc.set i (some d)).set j (some e),h)
 | _=>none
noncomputable def iGt (G:Gb) (n:Nat) (sc:SC) (tg:Expr):Option GM:=match tg with
 | .Subscript o i _=>if isSlice i then none else some (Ht (iE G n sc o) (iE G n sc i))
 | tg=>match iG sc tg with | some (_,g)=>some g | none=>none
noncomputable def Af6 (n:Nat) (G:Gb) (sc:SC) (tg v:Expr):SM:=match tg,v with
 | .Name y py,.ListComp elt gens scope vp=>(match iG sc (.Name y py) with | some (_,g)=>Aq (iE G n sc (.ListComp elt gens scope vp)) g | none=>SM.bad)
 | .Tuple [.Name x px,.Name y py] _ _,.Tuple [a,b] _ _=>if Akl sc x px y py a b then (match slot sc.N x,slot sc.N y with | some i,some j=>Af5 (iA G n sc [a,b]) i j | _,_=>SM.bad) else SM.bad
 | tg,v=>if Ka v || (Fo tg&&Fo v) then SM.bad else (match iGt G n sc tg with | some g=>Aq (iE G n sc v) g | none=>SM.bad)
noncomputable def iSb (n:Nat) (B:SC->List Stmt->SM) (G:Gb) (sc:SC) (s:Stmt):SM:=match s with
 | .Expr e _=>if Ka e then SM.bad else Jg (iE G n sc e)
 | .Pass _=>Zn
 | .Break _=>λloc mh=>some (.bk,loc,mh)
 | .Continue _=>λloc mh=>some (.ct,loc,mh)
 | .Return (some e) _=>retS (iE G n sc e)
 | .Return none _=>λloc mh=>some (.rt .non,loc,mh)
 | .Assign [tg] v _=>Af6 n G sc tg v
 | .If c a b _=>ifS (iT G n sc c) (B sc a) (B sc b)
 | .For tg it body [] _=>if isSet it then SM.bad else (match iG sc tg with | some (_,g)=>Hr (iI G n sc tg it) g (B sc body) | none=>SM.bad)
 | _=>SM.bad
mutual
noncomputable def iS (G:Gb):Nat->SC->Stmt->SM
 | 0,_,_=>SM.bad
 | n+1,sc,s=>iSb n (iSs G n) G sc s
termination_by structural n=>n
noncomputable def iSs (G:Gb):Nat->SC->List Stmt->SM
 | 0,_,_=>SM.bad
 | n+1,sc,ss=>match ss with
  | []=>Zn
  | s::r=>Ab (iS G n sc s) (iSs G n sc r)
termination_by structural n=>n
end
structure FnI where
 ps:List Str
 N:List Str
 scope:Scope
 body:List Stmt
noncomputable def Ac (G:Gb) (n:Nat) (f:FnI):Fn:=λds mh=>if ds.length=f.ps.length then (match iSs G n { N:=f.N,scope:=f.scope,own:=λ_=>true } f.body (ds.map some++fj (f.N.length - ds.length) none) mh with
 | some (.rt d,_,mh')=>some (d,mh')
 | some (.nx,_,mh')=>some (.non,mh')
 | _=>none) else none
noncomputable def fuel:Nat:=60
structure Tb where
 tb:Str->Option FnI
 con:Str->Option D
 dic:Str->Option (List (Str×D))
 fld:Str->Str->Bool
 tbm:Str->Str->Option FnI
 mkr:Str->Option Str
noncomputable def GkN (T:Tb):Nat->Gb
 | 0=>{ cal:=λ_=>none,con:=T.con,dic:=T.dic,fld:=T.fld,met:=λ_ _=>none,mkr:=T.mkr }
 | k+1=>{ cal:=λx=>(match T.tb x with | some I=>some (I.ps,Ac (GkN T k) fuel I) | none=>none),con:=T.con,dic:=T.dic,fld:=T.fld,met:=λc m=>(match T.tbm c m with | some I=>some (I.ps,Ac (GkN T k) fuel I) | none=>none),mkr:=T.mkr }
noncomputable def Mj:List Str:=["len", "list", "tuple", "range", "isinstance", "int", "bool", "str", "dict", "set", "sorted", "all", "any", "max", "min", "enumerate", "zip", "sum"]
structure GOk (P:Program) (w:World) (K:aj) (mg:Str->Option Value) (base:Heap) (k:Nat) (G:Gb):Prop where
 fn:∀ x ps f,G.cal x=some (ps,f)->∃ fa fd,mg x=some (.ref fa)/\ug K (.ref fa)=true/\Binds K fd ps []/\FnOk P w K mg base CX0 (k+2) fa fd ps (spD K ps.length f)/\∀ ds mh r,f ds mh=some r->ds.length=ps.length
 con:∀ x d,G.con x=some d->∃ u v,mg x=some u/\RelV v u/\∀ H ρ,RD K H ρ d v
 blt:∀ b∈Mj,mg b=none
 dic:∀ x kvs,G.dic x=some kvs->∃ a,mg x=some (.ref a)/\DicOk w K a kvs
 fld:∀ c f,G.fld c f=true->∃ C,jo K mainGlobals c=some (some (.ref C))/\Cls K C/\Ga K C f
 met:∀ c m ps g,G.met c m=some (ps,g)->∃ C fa fd,jo K mainGlobals c=some (some (.ref C))/\Cls K C/\Meth K C m fa/\Binds K fd ps []/\FnOk P w K mg base CX0 (k+2) fa fd ps (spD K ps.length g)/\∀ ds mh r,g ds mh=some r->ds.length=ps.length
 mkr:∀ c f,G.mkr c=some f->∃ C fa fd ps,jo K mainGlobals c=some (some (.ref C))/\Mk K C fa/\mg c=some (.ref C)/\Binds K fd ps []/\FnOk P w K mg base CX0 1 fa fd ps (spI C f)
 clo:Adb P w K mg base (k+2) G.clo
structure XOk (X:Cx) (k:Nat) (G:Gb) (sc:SC):Prop where
 N:X.N=sc.N
 nd:sc.N.Nodup
 sco:X.env.scope=sc.scope
 own:∀ x,sc.own x=true->L2.Loc sc.scope x->X.fn x=true\/sc.scope.names.lookup x=some .local
 calm:X.calm=true
 xe:X.xe=λ_ _=>False
 room:Room (k+2) X.A
 g:GOk X.prog X.w X.K X.mg X.base k G
theorem Fy {N:List Str}{x:Str}{i:Nat}(h:slot N x=some i):N[i]?=some x:=by
 unfold slot at h;obtain ⟨hl,hp,_⟩:=GF.mp h;rw [au hl];exact congrArg some (dj hp)
theorem Abm {sc:Scope}{x:Str}(h:rP sc x=true):Vis sc x:=by
 unfold rP at h;split at h
 ·exact .inl (by assumption)
 ·exact .inr (.inl (by assumption))
 ·exact .inr (.inr (by assumption))
 ·cases h
theorem Vu {sc:Scope}{x:Str}(h:mD sc x=true):L2.Loc sc x:=by
 unfold mD at h;split at h
 ·exact .inl (by assumption)
 ·exact .inr (by assumption)
 ·cases h
theorem Af7 {sc:Scope}{x:Str}(h:glB sc x=true):sc.names.lookup x=some .globalImplicit:=by
 unfold glB at h;split at h
 ·assumption
 ·cases h
section
variable {X:Cx}{k:Nat}{G:Gb}{sc:SC}
theorem XOk.gl (O:XOk X k G sc) {x:Str}(h:glB sc.scope x=true):Gl X x:=by
 show X.env.scope.names.lookup x=_;rw [O.sco];exact Af7 h
theorem XOk.vis (O:XOk X k G sc) {x:Str}(h:rP sc.scope x=true):Vis X.env.scope x:=by rw [O.sco];exact Abm h
theorem XOk.units (O:XOk X k G sc):X.A.units+64 < cLine:=O.room.units
theorem Cr {a:Expr}{es:List Expr}{env:Env}(h:isStar a=false):starEach (a::es) env=(false,eval a env)::starEach es env:=by
 cases a <;> first | rfl | cases h
theorem Bu {pos:Pos}{env:Env}:∀ {es:List Expr},(es.all λe=>!isStar e)=true->(backTo pos (starEach es env)).any (·.1)=false
 | [],_=>rfl
 | a::r,h=>by
  rw [GK,bf] at h;have h1:isStar a=false:=by simpa using h.1
  rw [Cr h1];show (false || (backTo pos (starEach r env)).any (·.1))=false;rw [Bu h.2];rfl
theorem Vv {pos:Pos}{env:Env}:∀ {es:List Expr},(es.all λe=>!isStar e)=true->(backTo pos (starEach es env)).all (λx=>!x.1)=true
 | [],_=>rfl
 | a::r,h=>by
  rw [GK,bf] at h;have h1:isStar a=false:=by simpa using h.1
  rw [Cr h1];show (true&&(backTo pos (starEach r env)).all (λx=>!x.1))=true;rw [Vv h.2];rfl
theorem Dm {o:Expr}{name:Str}{env:Env}{w:Sem Value}(h:baseOk o=true):attributeBase o name env w=w:=by
 cases o <;> try rfl
 rename_i f as kw p;cases f <;> try rfl
 cases as <;> try rfl
 cases kw <;> try rfl
 cases h
theorem bM {e:Expr}{env:Env}(h:isSet e=false):∀ x,foldedSetIterable e env x=pure x:=by
 intro x;cases e <;> first | rfl | cases h
theorem Ml {op:CmpOp}{e:Expr}(h:isSet e=false):behindInMarks op e=false:=by
 cases e <;> first | rfl | cases h
theorem Akm {b:Expr}(h:isSlice b=false):U9 b:=by
 intro o i;cases b <;> first | rfl | cases h
theorem Rk (O:XOk X k G sc) (scope:Scope):relabel scope X.env=Mi scope sc.scope:=by
 unfold relabel Mi Env.kindOf;rw [O.sco]
theorem Nv (O:XOk X k G sc) {scope:Scope}(h:Pr scope sc=true):CompOk X scope:=by
 unfold Pr at h;rw [bf,bf] at h;obtain ⟨h1,h2,h3⟩:=h;refine ⟨?_,of_decide_eq_true h2,λp hp e=>?_⟩
 ·split at h1
  ·assumption
  ·cases h1
 ·have:=zm.mp h3 p hp;rw [e] at this;show X.env.scope.names.lookup p.1=_\/X.env.scope.names.lookup p.1=_;rw [O.sco];dsimp only at this;split at this
  ·exact .inl (by assumption)
  ·exact .inr (by assumption)
  ·cases this
theorem Vw {scope:Scope}(h:(scope.names.map (·.1)).Nodup):(Dy scope).Nodup:=by
 unfold Dy;exact h.sublist ((List.filter_sublist).map _)
theorem X8 (O:XOk X k G sc) (scope:Scope):CapOk X (Dy scope) scope (Rj sc.N scope):=by
 refine ⟨by unfold Rj;rw [ak],λi x j e1 e2=>?_⟩;unfold Rj at e2;rw [cj,e1] at e2;simp only [ux,KH] at e2;split at e2
 ·rename_i hl;exact ⟨hl,by rw [O.N];exact Fy e2⟩
 ·cases e2
theorem XOk.comp (O:XOk X k G sc) {scope:Scope}(h:Pr scope sc=true) (pins:List (Addr×Obj)) (C:Addr) (cells:List (Str×Addr)) (s₀:Shared) (H₀:Hp) (fp:List Addr) :
  XOk (Dc X pins (Dy scope) scope C cells s₀ H₀ fp) k G (Vt scope sc):=by
 have S:=Nv O h;refine ⟨rfl,Vw S.nd,Rk O scope,λx hx hl=>?_,O.calm,rfl,O.room,O.g⟩;have hx:mD scope x=true:=hx;rcases Vu hx with q|q
 ·right;show (Mi scope sc.scope).names.lookup x=_;rw [← Rk O scope,Gf,q];rfl
 ·left;exact decide_eq_true (jt q)
theorem Yb {x:Str}{i:Nat}(h:iGn sc x=some i):mD sc.scope x=true/\sc.own x=true/\slot sc.N x=some i:=by
 unfold iGn at h;split at h
 ·rename_i hc;rw [bf] at hc;exact ⟨hc.1,hc.2,h⟩
 ·cases h
theorem XOk.name (O:XOk X k G sc) {x:Str}{i:Nat}{pos:Pos}(h:iGn sc x=some i):PG X (.Name x pos) (nZ i):=by
 obtain ⟨h1,h2,h3⟩:=Yb h;have hl:=Vu h1;refine dF (by rw [O.N];exact O.nd) (by rw [O.N];exact Fy h3) (by rw [O.sco];exact hl) ?_;rw [O.sco];exact O.own x h2 hl
theorem XOk.names (O:XOk X k G sc) {es:List Expr}{is:List Nat}(h:iGs sc es=some is):PGs X es (gNs is)/\(assignEach es X.env).length=is.length/\(assignEach es X.env).findIdx? (·.1)=none:=by
 induction es generalizing is with
 | nil=>cases h;exact ⟨zE,rfl,rfl⟩
 | cons e r ih =>
  cases e with
  | Name x p =>
   simp only [iGs] at h;split at h
   ·rename_i i ei;split at h
    ·rename_i js ej;cases h;obtain ⟨h1,h2,h3⟩:=ih ej;refine ⟨oA (O.name ei) h1 rfl,?_,?_⟩
     ·show (assignEach r X.env).length+1=js.length+1;rw [h2]
     ·show List.findIdx? (λx=>x.1) ((false,assign (.Name x p) X.env)::assignEach r X.env)=none;rw [List.findIdx?_cons];simp only [zy,if_false,h3];rfl
    ·cases h
   ·cases h
  | _=>cases h
theorem XOk.target (O:XOk X k G sc) {tg:Expr}{ws:List Nat}{g:GM}(h:iG sc tg=some (ws,g)):DG X tg ws g:=by
 cases tg with
 | Name x p =>
  simp only [iG] at h;split at h
  ·rename_i i ei;cases h;obtain ⟨h1,h2,h3⟩:=Yb ei;have hl:=Vu h1;refine Aav (by rw [O.N];exact O.nd) (by rw [O.N];exact Fy h3) (by rw [O.sco];exact hl) ?_;rw [O.sco];exact O.own x h2 hl
  ·cases h
 | Tuple es kk p =>
  simp only [iG] at h;split at h
  ·rename_i is ei;cases h;obtain ⟨h1,h2,h3⟩:=O.names ei;exact Afo O.calm h1 h2 h3
  ·cases h
 | _=>cases h
end
structure SndE (G:Gb) (n:Nat):Prop where
 e:∀ {X:Cx} {k:Nat} {sc:SC},XOk X k G sc->∀ e,DE X e (iE G n sc e)
 t:∀ {X:Cx} {k:Nat} {sc:SC},XOk X k G sc->∀ e,DT X e (iT G n sc e)
 a:∀ {X:Cx} {k:Nat} {sc:SC},XOk X k G sc->∀ es,DA X es (iA G n sc es)
 f:∀ {X:Cx} {k:Nat} {sc:SC},XOk X k G sc->∀ es,DIf X es (iF G n sc es)
 i:∀ {X:Cx} {k:Nat} {sc:SC},XOk X k G sc->∀ tg e,DI X tg e (iI G n sc tg e)
theorem fB {X:Cx}{es:List Expr}:DIf X es Zb:=λpins s σ H Q I ⟨loc,mh,ρ,b,mh',q,_⟩=>by cases q
theorem Il {X:Cx}{tg e:Expr}:DI X tg e Zb:=λloc mh=>Ef
theorem Abn {c:Str}{T:String}(h:tyOf c=some T):T∈["bool", "int", "str", "tuple", "list", "dict"]/\bootBuiltins c=some (.type T)/\c∈Mj:=by
 unfold tyOf at h;split at h
 ·rename_i e;cases h;rw [dj e];exact ⟨by decide,boot_int,by decide +kernel⟩
 ·split at h
  ·rename_i e;cases h;rw [dj e];exact ⟨by decide,boot_bool,by decide +kernel⟩
  ·split at h
   ·rename_i e;cases h;rw [dj e];exact ⟨by decide,boot_str,by decide +kernel⟩
   ·split at h
    ·rename_i e;cases h;rw [dj e];exact ⟨by decide,by decide +kernel,by decide +kernel⟩
    ·split at h
     ·rename_i e;cases h;rw [dj e];exact ⟨by decide,by decide +kernel,by decide +kernel⟩
     ·split at h
      ·rename_i e;cases h;rw [dj e];exact ⟨by decide,by decide +kernel,by decide +kernel⟩
      ·cases h
theorem bN {G:Gb}{f fl:Str}{es:List Expr}(h:Adc G f es=some fl):es=[]/\G.mkr f=some fl:=by
 cases es with
 | nil=>exact ⟨rfl,h⟩
 | cons a r=>cases h
theorem Rm {X:Cx}{a:Expr}{es:List Expr}{p:Pos}(hs:isStar a=false) (hr:(es.all λe=>!isStar e)=true) (hk:(a::es).length < 20):((backTo p (starEach (a::es) X.env)).all (λx=>!x.1)&&(backToKw p (keywordEach [] X.env)).all (λx=>x.1.isSome)&&decide ((a::es).length+([]:List Keyword).length+(if ([]:List Keyword).isEmpty then 0 else 1) < 30))=true:=by
 rw [Vv (by rw [GK,hs,hr];rfl)];have:decide ((a::es).length+([]:List Keyword).length+(if ([]:List Keyword).isEmpty then 0 else 1) < 30)=true:=decide_eq_true (by simp;simp at hk;omega);rw [this];rfl
theorem rT {X:Cx}{k:Nat}{G:Gb}{sc:SC}(O:XOk X k G sc) {f:Str}{g:Fn}{p pos:Pos}{a:Expr}{es:List Expr}{mr:DM (List D)}(h:rQ f=some g) (hg:glB sc.scope f=true) (ha:DA X (a::es) mr) (hn:f ≠ "__name__") (hd:(f==("__debug__":Str))=false) (hs:isStar a=false) (hr:(es.all λe=>!isStar e)=true) :
  DE X (.Call (.Name f p) (a::es) [] pos) (mr.bnd λds=>Zl (g ds)):=by
 unfold rQ at h;split at h
 ·rename_i e;cases h;rw [dj e] at hg hn hd ⊢;exact Gh lX (O.gl hg) (O.g.blt _ (by decide +kernel)) PySem.boot_len ha hn hd (Cr hs) (Bu hr)
 ·split at h
  ·rename_i e;cases h;rw [dj e] at hg hn hd ⊢;exact Nh aK (O.gl hg) (O.g.blt _ (by decide +kernel)) (by decide +kernel) ha hn hd (Cr hs) (Bu hr)
  ·split at h
   ·rename_i e;cases h;rw [dj e] at hg hn hd ⊢;exact Nh Xc (O.gl hg) (O.g.blt _ (by decide +kernel)) (by decide +kernel) ha hn hd (Cr hs) (Bu hr)
   ·split at h
    ·rename_i e;cases h;rw [dj e] at hg hn hd ⊢;exact Gh (kY O.calm) (O.gl hg) (O.g.blt _ (by decide +kernel)) (by decide +kernel) ha hn hd (Cr hs) (Bu hr)
    ·split at h
     ·rename_i e;cases h;rw [dj e] at hg hn hd ⊢;exact Gh (Vs (f:=.builtin "any")) (O.gl hg) (O.g.blt _ (by decide +kernel)) (by decide +kernel) ha hn hd (Cr hs) (Bu hr)
     ·split at h
      ·rename_i e;cases h;rw [dj e] at hg hn hd ⊢;exact Gh (bA O.calm) (O.gl hg) (O.g.blt _ (by decide +kernel)) (by decide +kernel) ha hn hd (Cr hs) (Bu hr)
      ·split at h
       ·rename_i e;cases h;rw [dj e] at hg hn hd ⊢;exact Gh (Vs (f:=.builtin "min")) (O.gl hg) (O.g.blt _ (by decide +kernel)) (by decide +kernel) ha hn hd (Cr hs) (Bu hr)
       ·split at h
        ·rename_i e;cases h;rw [dj e] at hg hn hd ⊢;exact Nh lR (O.gl hg) (O.g.blt _ (by decide +kernel)) (by decide +kernel) ha hn hd (Cr hs) (Bu hr)
        ·split at h
         ·rename_i e;cases h;rw [dj e] at hg hn hd ⊢;exact Gh Vq (O.gl hg) (O.g.blt _ (by decide +kernel)) (by decide +kernel) ha hn hd (Cr hs) (Bu hr)
         ·split at h
          ·rename_i e;cases h;rw [dj e] at hg hn hd ⊢;exact Gh (Vs (f:=.builtin "sum")) (O.gl hg) (O.g.blt _ (by decide +kernel)) (by decide +kernel) ha hn hd (Cr hs) (Bu hr)
          ·cases h
theorem bO {X:Cx}{m:Str}{T:String}{f:D->List D->MH->Option (D×MH)}{o:Expr}{mo:DM D}{ap p:Pos}(h:Nu m 0=some (T,f)) (ho:DE X o mo) (hb:baseOk o=true) (hl:(ap.endLine==p.line)=true):DE X (.Call (.Attribute o m ap) [] [] p) (Dq T f mo (Zr [])):=by
 unfold Nu at h;split at h
 ·rename_i e;rw [bf] at e;exact absurd e.2 (by decide)
 ·split at h
  ·rename_i e;rw [bf] at e;cases h;rw [dj e.1];exact qH PySem.F.plainAttrs_int PySem.F.slot_int_bit_length PySem.F.type_int_bit_length qJ ho (Dm hb) hl
  ·split at h
   ·rename_i e;rw [bf] at e;exact absurd e.2 (by decide)
   ·split at h
    ·rename_i e;rw [bf] at e;cases h;rw [dj e.1];exact qH ur QX QZ X5 ho (Dm hb) hl
    ·split at h
     ·rename_i e;rw [bf] at e;exact absurd e.2 (by decide)
     ·split at h
      ·rename_i e;rw [bf] at e;exact absurd e.2 (by decide)
      ·cases h
theorem mF {X:Cx}{m:Str}{T:String}{f:D->List D->MH->Option (D×MH)}{o a:Expr}{es:List Expr}{mo:DM D}{mr:DM (List D)}{ap p:Pos}(h:Nu m (a::es).length=some (T,f)) (ho:DE X o mo) (ha:DA X (a::es) mr) (hb:baseOk o=true) (hl:(ap.endLine==p.line)=true) (hs:isStar a=false) (hr:(es.all λe=>!isStar e)=true) (hk:(a::es).length < 20) :
  DE X (.Call (.Attribute o m ap) (a::es) [] p) (Dq T f mo mr):=by
 have few:((backTo p (starEach (a::es) X.env)).all (λx=>!x.1)&&(backToKw p (keywordEach [] X.env)).all (λx=>x.1.isSome)&&decide ((a::es).length+([]:List Keyword).length+(if ([]:List Keyword).isEmpty then 0 else 1) < 30))=true:=by
  rw [Vv (by rw [GK,hs,hr];rfl)];have:decide ((a::es).length+([]:List Keyword).length+(if ([]:List Keyword).isEmpty then 0 else 1) < 30)=true:=decide_eq_true (by simp;simp at hk;omega);rw [this];rfl
 unfold Nu at h;split at h
 ·rename_i e;rw [bf] at e;cases h;rw [dj e.1];exact Ol ur PySem.F.slot_list_append PySem.F.type_list_append aP ho ha (Dm hb) few hl (Cr hs) (Bu hr)
 ·split at h
  ·rename_i e;rw [bf] at e;exact absurd (dj e.2) (by simp)
  ·split at h
   ·rename_i e;rw [bf] at e;cases h;rw [dj e.1];exact Ol ur QX QZ X5 ho ha (Dm hb) few hl (Cr hs) (Bu hr)
   ·split at h
    ·rename_i e;rw [bf] at e;exact absurd (dj e.2) (by simp)
    ·split at h
     ·rename_i e;rw [bf] at e;cases h;rw [dj e.1];exact Ol ur PySem.F.slot_list_extend PySem.F.type_list_extend aX ho ha (Dm hb) few hl (Cr hs) (Bu hr)
     ·split at h
      ·rename_i e;rw [bf] at e;cases h;rw [dj e.1];exact Ol EY DY OJ eG ho ha (Dm hb) few hl (Cr hs) (Bu hr)
      ·cases h
theorem Yc {a:Expr}{es:List Expr}{b:Expr}(h:bK a es=some b):es=[]/\isStar b=false/\∃ p q,a=.Call (.Name "range" p) [b] [] q:=by
 unfold bK at h;split at h
 ·rename_i g p b' q;split at h
  ·rename_i hc;rw [bf] at hc;cases h;exact ⟨rfl,by simpa using hc.2,p,q,by rw [dj hc.1]⟩
  ·cases h
 ·cases h
theorem Yd {a:Expr}{es:List Expr}{b:Expr}(h:setArg a es=some b):es=[]/\isStar b=false/\∃ p q,a=.Call (.Name "set" p) [b] [] q:=by
 unfold setArg at h;split at h
 ·rename_i g p b' q;split at h
  ·rename_i hc;rw [bf] at hc;cases h;exact ⟨rfl,by simpa using hc.2,p,q,by rw [dj hc.1]⟩
  ·cases h
 ·cases h
theorem bQ {X:Cx}{k:Nat}{G:Gb}{sc:SC}(O:XOk X k G sc) {a b:Expr}{op:CmpOp}{i j:Nat}{pos:Pos}(h:eZ sc a op b=some (i,j)) :
  DE X (.Compare a [op] [b] pos) (qQ (λloc mh=>match loc[i]? with | some (some d)=>some (d,mh) | _=>none) (λloc mh=>match loc[j]? with | some (some d)=>some (d,mh) | _=>none)):=by cases h
theorem rW (G:Gb):SndE G 0:=⟨λ_ _=>Av,λ_ _=>Eo,λ_ _=>pJ,λ_ _=>fB,λ_ _ _=>Il⟩
theorem Akn {G:Gb}{n:Nat}(S:SndE G n) {X:Cx}{k:Nat}{sc:SC}(O:XOk X k G sc) (es:List Expr):DA X es (iA G (n+1) sc es):=by
 cases es with
 | nil=>exact Afe
 | cons a r =>
  show DA X (a::r) (if isStar a then Zb else Aa (iE G n sc a) (iA G n sc r));split
  ·exact pJ
  ·rename_i h;exact Aal (S.e O a) (S.a O r) (Cr (by simpa using h))
theorem Ako {G:Gb}{n:Nat}(S:SndE G n) {X:Cx}{k:Nat}{sc:SC}(O:XOk X k G sc) (es:List Expr):DIf X es (iF G (n+1) sc es):=by
 cases es with
 | nil=>exact Aax
 | cons a r =>
  cases r with
  | nil=>exact Aay (S.t O a)
  | cons b r=>exact fB
theorem Akp {G:Gb}{n:Nat}(S:SndE G n) {X:Cx}{k:Nat}{sc:SC}(O:XOk X k G sc) (tg e:Expr):DI X tg e (iIb (iE G n) (iT G n) (iA G n) (iF G n) (iI G n) G sc tg e):=by
 cases e with
 | Call ff args kws p' =>
  cases ff with
  | Name f p =>
   cases args with
   | nil=>exact G7 (S.e O _)
   | cons a r =>
    cases r with
    | nil =>
     cases kws with
     | nil =>
      delta iIb
      dsimp only;split
      ·rename_i h;rw [bf] at h;split
       ·exact Il
       ·rename_i hs;have hs:isStar a=false:=by simpa using hs
        have e:=dj h.1;subst e;exact jX (O.gl h.2) (O.g.blt _ (by decide +kernel)) (S.a O [a]) (Cr hs)
      ·split
       ·rename_i h;rw [bf] at h;split
        ·exact Il
        ·rename_i hs;have hs:isStar a=false/\Fo tg=true:=by simpa using hs
         have e:=dj h.1;subst e;cases tg with
         | Tuple es kk tp=>exact Aa8 O.calm (O.gl h.2) (O.g.blt _ (by decide +kernel)) (S.e O a) (Cr hs.1)
         | _=>cases hs.2
       ·exact G7 (S.e O _)
     | cons _ _=>exact G7 (S.e O _)
    | cons b r =>
     cases r with
     | nil =>
      cases kws with
      | nil =>
       delta iIb
       dsimp only;split
       ·rename_i h;rw [bf] at h;split
        ·exact Il
        ·rename_i hs;have hs:isStar a=false/\isStar b=false:=by simpa using hs
         have e:=dj h.1;subst e;exact Il
       ·split
        ·rename_i h;rw [bf] at h;split
         ·exact Il
         ·rename_i hs;have hs:(isStar a=false/\isStar b=false)/\Fo tg=true:=by simpa using hs
          have e:=dj h.1;subst e;cases tg with
          | Tuple elts kk tp=>exact Il
          | _=>cases hs.2
        ·exact G7 (S.e O _)
      | cons _ _=>exact G7 (S.e O _)
     | cons c r =>
      cases r with
      | cons _ _=>exact G7 (S.e O _)
      | nil =>
       cases kws with
       | cons _ _=>exact G7 (S.e O _)
       | nil =>
        delta iIb
        dsimp only;split
        ·rename_i h;rw [bf] at h;split
         ·exact Il
         ·rename_i hs;have hs:(isStar a=false/\isStar b=false)/\isStar c=false:=by simpa using hs
          have e:=dj h.1;subst e;exact Il
        ·exact G7 (S.e O _)
  | _=>exact G7 (S.e O _)
 | _=>exact G7 (S.e O _)
theorem Ade {X:Cx}{op:BoolOp}{vs:List Expr}{p:Pos}{m:DM Bool}(h:DT X (.BoolOp op vs p) m):DW X (.BoolOp op vs p) m:=λloc mh wh pins s σ H Q I q=>h loc mh pins s σ H Q I q
theorem Akq {G:Gb}{n:Nat}(S:SndE G n) {X:Cx}{k:Nat}{sc:SC}(O:XOk X k G sc) (e:Expr):DT X e (iTb (iE G n) (iT G n) (iA G n) (iF G n) (iI G n) G sc e):=by
 cases e with
 | UnaryOp op a p =>
  cases op with
  | Not=>exact Afa (S.t O _)
  | _=>exact W9 (S.e O _) λ_=>rfl
 | BoolOp op vs p =>
  cases vs with
  | nil=>cases op <;> exact Eo
  | cons a r =>
   cases r with
   | nil =>
    cases op
    ·exact (Aaj (S.t O a)).dt
    ·exact (Ae8 (S.t O a)).dt
   | cons b r =>
    cases op
    ·exact (Ae9 (S.t O _) (Ade (S.t O _))).dt
    ·exact (Aj7 (S.t O _) (Ade (S.t O _))).dt
 | IfExp c a b p=>exact Eo
 | Compare a ops cs p =>
  cases ops with
  | nil=>exact Eo
  | cons op ops =>
   cases ops with
   | nil =>
    cases cs with
    | nil=>exact Eo
    | cons b cs =>
     cases cs with
     | cons _ _=>exact Eo
     | nil =>
      delta iTb
      dsimp only;split
      ·rename_i neg kvs hd;exact Eo
      ·split
       ·exact Eo
       ·rename_i h;exact Ae7 (Hu O.units _) (Ml (by simpa using h)) (S.e O _) (S.e O _)
   | cons op' ops =>
    cases ops with
    | cons _ _=>exact Eo
    | nil =>
     cases cs with
     | nil=>exact Eo
     | cons b cs =>
      cases cs with
      | nil=>exact Eo
      | cons c cs =>
       cases cs with
       | cons _ _=>exact Eo
       | nil =>
        delta iTb
        dsimp only;split
        ·exact Eo
        ·rename_i h;exact qF (Hu O.units _) (Hu O.units _) (by show behindInMarks _ _=false;exact Ml (by simpa using h)) (S.e O _) (S.e O _) (S.e O _)
 | _=>exact W9 (S.e O _) λ_=>rfl
theorem Akr {G:Gb}{n:Nat}(S:SndE G n) {X:Cx}{k:Nat}{sc:SC}(O:XOk X k G sc) (e:Expr):DE X e (iEb (iE G n) (iT G n) (iA G n) (iF G n) (iI G n) G sc e):=by
 cases e with
 | Constant c _ _ =>
  cases c with
  | int i=>exact Aah Adx λ_ _ _=>.int _
  | bool b=>exact Aah Ai4 λ_ _ _=>.bl _
  | none=>exact Aah Ady λ_ _ _=>.non
  | str x=>exact Aah Adz λ_ _ _=>.str _
  | _=>exact Av
 | Name x p =>
  delta iEb
  dsimp only;split
  ·rename_i h;rw [bf,bf] at h;obtain ⟨⟨h1,h2⟩,h3⟩:=h;split
   ·rename_i i ei;exact Ae5 (by rw [O.N];exact Fy ei) (O.vis h1) (by simpa using h2) (by simpa using h3)
   ·exact Av
  ·split
   ·rename_i h;rw [bf] at h;split
    ·rename_i d ed;obtain ⟨u,v,h1,h2,h3⟩:=O.g.con _ _ ed;exact λloc mh=>Br (yS (O.gl h.1) h1 h2 (by simpa using h.2)) λσ H Q ⟨ρ,d',mh',q,rl,rs,co⟩=>by
      cases q;exact co H ρ v Ev.refl rs (h3 H ρ)
    ·exact Av
   ·exact Av
 | BinOp a op b _ =>
  delta iEb
  dsimp only;split
  ·rename_i f ef;exact Aj4 (Abj ef) (S.e O _) (S.e O _)
  ·exact Av
 | UnaryOp op a _ =>
  cases op with
  | USub=>exact Aj6 Aa1 (S.e O _)
  | Not=>exact Afd (S.e O _)
  | _=>exact Av
 | BoolOp op vs _ =>
  cases vs with
  | nil=>cases op <;> exact Av
  | cons a r =>
   cases r with
   | nil=>cases op <;> exact Afb (S.e O _)
   | cons b r =>
    cases op
    ·exact Afc (S.e O _) (S.e O _)
    ·exact Aj9 (S.e O _) (S.e O _)
 | Compare a ops cs _ =>
  cases ops with
  | nil=>exact Av
  | cons op ops =>
   cases ops with
   | nil =>
    cases cs with
    | nil=>exact Av
    | cons b cs =>
     cases cs with
     | cons _ _=>exact Av
     | nil =>
      delta iEb
      dsimp only;split
      ·rename_i i j hp;exact bQ O hp
      ·split
       ·rename_i neg kvs hd;exact Av
       ·split
        ·exact Av
        ·rename_i h;exact Ae6 (Hu O.units _) (Ml (by simpa using h)) (S.e O _) (S.e O _)
   | cons op' ops =>
    cases ops with
    | cons _ _=>exact Av
    | nil =>
     cases cs with
     | nil=>exact Av
     | cons b cs =>
      cases cs with
      | nil=>exact Av
      | cons c cs =>
       cases cs with
       | cons _ _=>exact Av
       | nil =>
        delta iEb
        dsimp only;split
        ·exact Av
        ·rename_i h;exact qD (Hu O.units _) (Hu O.units _) (by show behindInMarks _ _=false;exact Ml (by simpa using h)) (S.e O _) (S.e O _) (S.e O _)
 | IfExp c a b _=>exact Aj8 (S.t O _) (S.e O _) (S.e O _)
 | Tuple es _ _=>exact Afg (S.a O _)
 | List es _=>exact Afh (S.a O _)
 | Dict ks vs p =>
  delta iEb
  dsimp only;split
  ·rename_i h;rw [bf,List.isEmpty_iff,List.isEmpty_iff] at h;obtain ⟨rfl,rfl⟩:=h;exact Abg
  split
  ·rename_i h;rw [bf,bf] at h;exact Av
  ·exact Av
 | Subscript a b _ =>
  have gen:DE X (.Subscript a b ‹_›) (if isSlice b then Zb else (match X6 G sc a with | some kvs=>Zb | none=>dop ixD (iE G n sc a) (iE G n sc b))):=by
   split
   ·exact Av
   ·rename_i h;split
    ·rename_i kvs hd;exact Av
    ·exact Aj5 (Amk (by have:=O.room.un;omega)) (Akm (by simpa using h)) (S.e O _) (S.e O _)
  cases b with
  | Slice lo hi st _ =>
   cases st with
   | none =>
    refine pR (S.e O _) ?_ ?_
    ·cases lo with
     | none=>trivial
     | some e=>exact S.e O e
    ·cases hi with
     | none=>trivial
     | some e=>exact S.e O e
   | some s =>
    cases lo with
    | none=>exact gen
    | some e1 =>
     cases hi with
     | none=>exact gen
     | some e2=>exact mC (S.e O _) (S.e O _) (S.e O _) (S.e O _)
  | _=>exact gen
 | Attribute o f _ =>
  delta iEb
  dsimp only;split
  ·rename_i h;exact Abd (λc hc=>O.g.fld c _ hc) (S.e O _) (Dm h)
  ·exact Av
 | Call ff args kws p' =>
  cases ff with
  | Name f p =>
   cases kws with
   | cons kw ks =>
    cases args with
    | nil=>exact Av
    | cons a es =>
     cases es with
     | cons _ _=>exact Av
     | nil =>
      delta iEb
      dsimp only;split
      ·rename_i h;simp only [bf] at h;obtain ⟨⟨⟨h1,h4⟩,h5⟩,h6⟩:=h;have h4:isStar a=false:=by simpa using h4
       have h6:ks=[]:=by simpa using h6
       subst h6;obtain ⟨j,cp,kp,rfl⟩:=X7 h5;split
       ·rename_i hf;have e:=dj hf;subst e;exact Av
       ·split
        ·rename_i hf;have e:=dj hf;subst e;exact Av
        ·exact Av
      ·exact Av
   | nil =>
    cases args with
    | nil =>
     delta iEb
     dsimp only;split
     ·rename_i h;rw [bf] at h;split
      ·rename_i g eg;obtain ⟨fa,fd,h1,h2,h3,h4,h5⟩:=O.g.fn _ _ _ eg;exact pZ (E:=E0) h4 O.room (O.gl h.1) h1 h2 h3 W0 (by simpa using h.2)
      ·exact Av
     ·exact Av
    | cons a es =>
     delta iEb
     dsimp only;split
     ·rename_i h;simp only [bf] at h;obtain ⟨⟨⟨⟨h1,h2⟩,h3⟩,h4⟩,h5⟩:=h;have h4:isStar a=false:=by simpa using h4
      exact Av
     split
     ·rename_i h;simp only [bf] at h;obtain ⟨⟨⟨⟨h1,h2⟩,h3⟩,h4⟩,h5⟩:=h
      have h2:(f==("__debug__":Str))=false:=by simpa using h2
      have h3:f ≠ "__name__":=by simpa using h3
      have h4:isStar a=false:=by simpa using h4
      split
      ·rename_i ps g eg;obtain ⟨fa,fd,g1,g2,g3,g4,g5⟩:=O.g.fn _ _ _ eg;exact Aa0 (E:=E0) g4 O.room (O.gl h1) g1 g2 g3 W0 (S.a O _) g5 h2 (Cr h4) (Bu h5)
      ·split
       ·rename_i fl hb;obtain ⟨rfl,hb⟩:=bN hb;obtain ⟨C,fa,fd,ps,g1,g2,g3,g4,g5⟩:=O.g.mkr _ _ hb;exact Aba (E:=E0) g1 g2 g5 (O.room.mono (by omega)) (O.gl h1) g3 g4 W0 (S.e O a) h2 (Cr h4)
       split
       ·rename_i b hb;obtain ⟨rfl,hsb,p2,q2,rfl⟩:=Yd hb;split
        ·rename_i hs;split
         ·rename_i hf;have e:=dj hf;subst e;exact kJ O.calm (O.gl h1) (O.g.blt _ (by decide +kernel)) (O.gl hs) (O.g.blt _ (by decide +kernel)) (S.e O b) (Cr hsb)
         ·split
          ·rename_i hf;have e:=dj hf;subst e;exact Av
          ·exact Av
        ·exact Av
       ·split
        ·rename_i b c hb;cases hb
        ·split
         ·rename_i b hb;obtain ⟨rfl,hsb,p2,q2,rfl⟩:=Yc hb;split
          ·rename_i hs;split
           ·rename_i hf;have e:=dj hf;subst e;exact aY O.calm (O.gl h1) (O.g.blt _ (by decide +kernel)) (O.gl hs) (O.g.blt _ (by decide +kernel)) (S.e O b) (Cr hsb)
           ·split
            ·rename_i hf;have e:=dj hf;subst e;exact lJ O.calm (O.gl h1) (O.g.blt _ (by decide +kernel)) (O.gl hs) (O.g.blt _ (by decide +kernel)) (S.e O b) (Cr hsb)
            ·exact Av
          ·exact Av
         ·split
          ·rename_i hf;split
           ·rename_i c pc;split
            ·rename_i hc;simp only [bf] at hc;obtain ⟨⟨c1,c2⟩,c3⟩:=hc;split
             ·rename_i T eT;obtain ⟨t1,t2,t3⟩:=Abn eT;have e:=dj hf;subst e;exact Afs t1 (O.gl h1) (O.g.blt _ (by decide +kernel)) (O.gl c1) (O.g.blt _ t3) t2 (by simpa using c3) (by simpa using c2) (S.e O a) (Cr h4)
             ·exact Av
            ·exact Av
           ·exact Av
          ·split
           ·rename_i g eg;exact rT O eg h1 (S.a O _) h3 h2 h4 h5
           ·exact Av
     ·exact Av
  | Attribute o m ap =>
   cases kws with
   | cons _ _=>cases args <;> exact Av
   | nil =>
    cases args with
    | nil =>
     delta iEb
     dsimp only;split
     ·rename_i h;rw [bf] at h;split
      ·rename_i T f eT;exact bO eT (S.e O _) h.1 h.2
      ·exact rB (E:=E0) (λc ps g hg=>O.g.met c _ ps g hg) O.room W0 (S.e O _) (Dm h.1) h.2
     ·exact Av
    | cons a es =>
     delta iEb
     dsimp only;split
     ·rename_i h;simp only [bf] at h;obtain ⟨⟨⟨⟨h1,h2⟩,h3⟩,h4⟩,h5⟩:=h;split
      ·rename_i hm;have em:=dj hm;subst em;rw [BW] at h3;split
       ·rename_i kvs hd;exact Av
       ·exact Av
      split
      ·rename_i hm;rw [bf] at hm;have em:=dj hm.1;subst em;rw [BW] at h3;exact Xx (Ol EY PySem.F.slot_tuple_count PySem.F.type_tuple_count X5 (S.e O _) (S.a O _) (Dm h1) (Rm h3 h4 (of_decide_eq_true h5)) h2 (Cr h3) (Bu h4))
        (Ol ur PySem.F.slot_list_count PySem.F.type_list_count X5 (S.e O _) (S.a O _) (Dm h1) (Rm h3 h4 (of_decide_eq_true h5)) h2 (Cr h3) (Bu h4))
      split
      ·rename_i hm;rw [bf] at hm;have em:=dj hm.1;subst em;rw [BW] at h3;exact Xx (Ol EY DY OJ eG (S.e O _) (S.a O _) (Dm h1) (Rm h3 h4 (of_decide_eq_true h5)) h2 (Cr h3) (Bu h4))
        (Ol ur PySem.F.slot_list_index PySem.F.type_list_index X5 (S.e O _) (S.a O _) (Dm h1) (Rm h3 h4 (of_decide_eq_true h5)) h2 (Cr h3) (Bu h4))
      split
      ·rename_i T f eT;exact mF eT (S.e O _) (S.a O _) h1 h2 (by simpa using h3) h4 (of_decide_eq_true h5)
      ·rw [BW] at h3;exact Abe (E:=E0) (λc ps g hg=>O.g.met c _ ps g hg) O.room W0 (S.e O _) (S.a O _) (Dm h1) (Rm h3 h4 (of_decide_eq_true h5)) h2 (Cr h3) (Bu h4)
     ·exact Av
  | _=>cases args <;> exact Av
 | ListComp elt gens scope p =>
  cases gens with
  | nil=>exact Av
  | cons g gens =>
   obtain ⟨tg,iter,ifs,kk⟩:=g;cases gens with
   | cons _ _=>exact Av
   | nil =>
    delta iEb
    dsimp only;split
    ·rename_i h;simp only [bf] at h;obtain ⟨⟨h1,h2⟩,h3⟩:=h;have e:=dj h1;subst e;split
     ·rename_i ws g eg;split
      ·rename_i hw;refine Aaz (N':=Dy scope) O.calm (Nv O h2) (X8 O scope) (λi hi j q=>?_) (S.i O tg iter) (λp C c s h f=>(O.comp h2 p C c s h f).target eg) (λp C c s h f=>S.f (O.comp h2 p C c s h f) ifs) (λp C c s h f=>S.e (O.comp h2 p C c s h f) elt) (bM (by simpa using h3));have z:=zm.mp hw i hi;rw [q] at z;cases z
      ·exact Av
     ·exact Av
    ·exact Av
 | _=>exact Av
theorem snd (G:Gb):∀ n,SndE G n
 | 0=>rW G
 | n+1=>⟨λO=>Akr (snd G n) O,λO=>Akq (snd G n) O,λO=>Akn (snd G n) O,λO=>Ako (snd G n) O,λO=>Akp (snd G n) O⟩
section
variable {K:aj}{H:Hp}{ρ:List Addr}
end
section
variable {P:Program}{w:World}{H:Hp}{h h2:Heap}{pl c a:Addr}{tb more:Array Value}{oc ob:Obj}{fs:List Addr}
end
section
variable {X:Cx}
end
theorem Ye {K:aj}{H:Hp}{ρ:List Addr}{N:List Str}{ds:List D}{vs:List V}(r:RDs K H ρ ds vs):RL K H ρ (ds.map some++fj (N.length - ds.length) none) (L2.start N vs):=by
 have hl:=r.length;unfold L2.start;refine ⟨by simp [hl],λi d e=>?_⟩
 by_cases hi:i < ds.length
 ·rw [ju (by simpa using hi),cj] at e;cases q:ds[i]? with
  | none=>rw [q] at e;cases e
  | some d' =>
   rw [q] at e;cases e;obtain ⟨v,e1,r1⟩:=r.get q;exact ⟨v,by rw [ju (by simp;omega),cj,e1];rfl,r1⟩
 ·rw [qm (by simpa using hi),um] at e;split at e <;> cases e
theorem Kc {X:Cx}{st:Stmt}{g:GM}:DS X st (Aq Zb g):=λ_ _ _ _ _ _ h=>by obtain ⟨_,_,_,_,_,_,e,_⟩:=h;cases e
theorem bR {G:Gb}{X:Cx}{k:Nat}{sc:SC}(O:XOk X k G sc) (n:Nat) {y:Str}{py vp spos:Pos}{elt:Expr}{gens:List Comprehension}{scope:Scope}{ws:List Nat}{gy:GM}(hgy:iG sc (.Name y py)=some (ws,gy)) :
  DS X (.Assign [.Name y py] (.ListComp elt gens scope vp) spos) (Aq (iE G n sc (.ListComp elt gens scope vp)) gy):=by
 have hg:=O.target hgy;have sw:swapsWith (.ListComp elt gens scope vp) (some (.Name y py)) spos.line X.env=pure (X.env.blockKind==.function&&X.env.kindOf y==some .local&&py.line==vp.line&&!(scope.names.any λ(n,k)=>n==y&&(k==.local || k==.cell))):=rfl;cases hb:(X.env.blockKind==.function&&X.env.kindOf y==some .local&&py.line==vp.line&&!(scope.names.any λ(n,k)=>n==y&&(k==.local || k==.cell))) with
 | false =>
  rw [hb] at sw;exact aN ((snd G n).e O _) hg sw rfl rfl
 | true =>
  rw [hb] at sw;cases n with
  | zero=>exact Kc
  | succ n =>
   show DS X _ (Aq (iEb (iE G n) (iT G n) (iA G n) (iF G n) (iI G n) G sc _) gy)
   match gens with
   | []=>exact Kc
   | ⟨_,_,_,_⟩::_::_=>exact Kc
   | [⟨tg,iter,ifs,kk⟩] =>
    delta iEb
    dsimp only;split
    ·rename_i h;simp only [bf] at h;obtain ⟨⟨h1,h2⟩,h3⟩:=h;have e:=dj h1;subst e;split
     ·rename_i ws g eg;split
      ·rename_i hw;refine aO (N':=Dy scope) O.calm (Nv O h2) (X8 O scope) (λi hi j q=>?_) ((snd G n).i O tg iter) (λp C c s h f=>(O.comp h2 p C c s h f).target eg) (λp C c s h f=>(snd G n).f (O.comp h2 p C c s h f) ifs) (λp C c s h f=>(snd G n).e (O.comp h2 p C c s h f) elt) hg sw (bM (by simpa using h3));have z:=zm.mp hw i hi;rw [q] at z;cases z
      ·exact Kc
     ·exact Kc
    ·exact Kc
theorem Rn {v tg:Expr}{line:Nat}{env:Env}(h:Ka v=false):swapsWithSole [tg] v line env=pure false:=by
 show swapsWith v (some tg) line env=pure false;cases v <;> first | rfl | cases h
theorem mG {v:Expr}{line:Nat}{env:Env}(h:Ka v=false):swapsWith v none line env=pure false:=by
 cases v <;> first | rfl | cases h
theorem Ov {v tg:Expr}{env:Env}(h:(Fo tg&&Fo v)=false) (hl:∀ es p,tg≠.List es p):swappedStores [tg] v env=pure none:=by
 cases tg with
 | Tuple ts kk p =>
  cases v with
  | Tuple vs k2 p2=>cases h
  | _=>rfl
 | List es p=>exact (hl es p rfl).elim
 | _=>first | rfl | (cases v <;> rfl)
theorem Af8 {x y:Str}{a b:Expr}{px py pt pt2:Pos}{kt k2:Nat}{env:Env}(hb:(env.blockKind==.function)=true) (hx:(env.kindOf x==some .local)=true) (hy:(env.kindOf y==some .local)=true) (hl:(py.line==px.line)=true) (hne:(x==y)=false) (sa:isStar a=false) (sb:isStar b=false)
  (hf:[a,b].all (foldedForSure 8)=false) (hc:[a,b].all (constantsAlone 8)=false):swappedStores [.Tuple [.Name x px,.Name y py] kt pt] (.Tuple [a,b] k2 pt2) env=pure (some [x,y]):=by
 have he:([x,y].eraseDups.length != [x,y].length)=false:=by
  have:(y==x)=false:=by
   cases q:(y==x) with
   | false=>rfl
   | true=>rw [dj q] at hne;simp at hne
  simp [List.eraseDups_cons,this,hne]
 have hbk:(env.blockKind != .function)=false:=by rw [bne,hb];rfl
 have e1:(Option.map (λe:Expr=>e.pos.line) [Expr.Name x px,Expr.Name y py].head?).getD 0=px.line:=rfl;unfold swappedStores;dsimp only;refine (if_neg ?_).trans ?_
 ·simp [hbk]
 refine (if_neg ?_).trans ?_
 ·simp only [zx,List.any_nil,RQ];rw [Bool.not_eq_true,HJ];constructor
  ·cases a <;> first | rfl | cases sa
  ·cases b <;> first | rfl | cases sb
 simp only [e1,qt,List.filterMap_nil,hx,hy,hl,beq_self_eq_true,JS,if_true];refine (if_neg ?_).trans ?_
 ·rw [he];simp
 rw [if_neg (by rw [hf];simp),if_neg (by rw [hc];simp)]
theorem Af9 {X:Cx}{i j:Nat}{x y:Str}{a b:Expr}{mr:DM (List D)}{px py pt pt2 pos:Pos}{kt k2:Nat}(hc:X.calm=true) (hN:X.N.Nodup) (hi:X.N[i]?=some x) (hj:X.N[j]?=some y) (hij:i≠j) (hx:X.env.scope.names.lookup x=some .local) (hy:X.env.scope.names.lookup y=some .local) (ha:DA X [a,b] mr)
  (hw:swappedStores [.Tuple [.Name x px,.Name y py] kt pt] (.Tuple [a,b] k2 pt2) X.env=pure (some [x,y])):DS X (.Assign [.Tuple [.Name x px,.Name y py] kt pt] (.Tuple [a,b] k2 pt2) pos) (Af5 mr i j):=by
 rintro pins s σ H N I ⟨loc,mh,ρ,f,loc',mh',e,rl,rs,co⟩;refine Aed hc hN hi hj hij hx hy (ha loc mh) hw rfl pins s σ H N I ?_;unfold Af5 at e;split at e
 ·rename_i d1 d2 h1 er;cases e;refine ⟨ρ,[d1,d2],mh',er,rl,rs,λH' ρ' vs e' rs' r'=>?_⟩;cases r' with
  | cons r1 r' =>
   cases r' with
   | cons r2 r' =>
    cases r';exact ⟨_,_,rfl,co H' ρ' _ e' rs' (((rl.mono e').set r1).set r2)⟩
 ·cases e
theorem Aks (G:Gb) (n:Nat) (ihss:∀ {X:Cx}{k:Nat}{sc:SC},XOk X k G sc->∀ ss,DSs X ss (iSs G n sc ss)) {X:Cx}{k:Nat}{sc:SC}(O:XOk X k G sc) (s:Stmt):DS X s (iSb n (iSs G n) G sc s):=by
 have S:=snd G n;cases s with
 | Expr e p =>
  delta iSb
  dsimp only;split
  ·exact Ep
  ·rename_i h;exact Aau (S.e O _) (mG (by simpa using h))
 | Pass _=>exact Aas
 | Break _=>exact pX
 | Continue _=>exact Xd
 | Return e _ =>
  cases e with
  | some e=>exact Afn (S.e O _)
  | none=>exact Aat
 | Assign ts v p =>
  cases ts with
  | nil=>exact Ep
  | cons tg r =>
   cases r with
   | cons _ _=>exact Ep
   | nil =>
    have gen:DS X (.Assign [tg] v p) (if Ka v || (Fo tg&&Fo v) then SM.bad else (match iGt G n sc tg with | some g=>Aq (iE G n sc v) g | none=>SM.bad)):=by
     split
     ·exact Ep
     ·rename_i h;have h:Ka v=false/\(Fo tg&&Fo v)=false:=by
       rw [Bool.not_eq_true,HJ] at h;exact h
      split
      ·rename_i g eg;have gen:(match iG sc tg with | some (_,g)=>some g | none=>none)=some g->DS X (.Assign [tg] v p) (Aq (iE G n sc v) g):=λeg=>by
        split at eg
        ·rename_i ws g' eg';cases eg;refine aN (S.e O _) (O.target eg') (Rn h.1) (Ov h.2 (λes p z=>by subst z;simp [iG] at eg')) ?_;cases tg <;> first | rfl | (simp [iG] at eg')
        ·cases eg
       cases tg with
       | Subscript o i p' =>
        simp only [iGt] at eg;split at eg
        ·cases eg
        ·rename_i hs;cases eg;have hs:isSlice i=false:=by simpa using hs
         refine Abh (aN (S.e O _) (Afp (S.e O _) (S.e O _) ?_) (Rn h.1) (Ov h.2 (λ_ _ z=>by cases z)) rfl) (Af2 O.units (S.e O _) (S.e O _) (S.e O _) (Rn (tg:=.Subscript o i p') (line:=p.line) (env:=X.env) h.1));intro v';cases i <;> first | rfl | cases hs
       | _=>exact gen eg
      ·exact Ep
    cases tg with
    | Name y py =>
     cases v with
     | ListComp elt gens scope vp =>
      delta iSb
      dsimp only
      delta Af6
      dsimp only;split
      ·rename_i ws g eg;exact bR O n eg
      ·exact Ep
     | _=>exact gen
    | Tuple tl kt pt =>
     cases tl with
     | nil=>exact gen
     | cons t1 tl =>
      cases t1 with
      | Name x px =>
       cases tl with
       | nil=>exact gen
       | cons t2 tl =>
        cases t2 with
        | Name y py =>
         cases tl with
         | cons _ _=>exact gen
         | nil =>
          cases v with
          | Tuple vl k2 pt2 =>
           cases vl with
           | nil=>exact gen
           | cons a vl =>
            cases vl with
            | nil=>exact gen
            | cons b vl =>
             cases vl with
             | cons _ _=>exact gen
             | nil =>
              delta iSb
              dsimp only
              delta Af6
              dsimp only;split
              ·rename_i h;unfold Akl at h;simp only [bf,BW] at h;obtain ⟨⟨⟨⟨⟨⟨⟨⟨h1,h2⟩,h3⟩,h4⟩,h5⟩,h6⟩,h7⟩,h8⟩,h9⟩:=h;split
               ·rename_i i j ei ej;have hi:=Fy ei;have hj:=Fy ej;refine Af9 O.calm (by rw [O.N];exact O.nd) (by rw [O.N];exact hi) (by rw [O.N];exact hj) (λz=>?_) (by rw [O.sco];exact dj h2) (by rw [O.sco];exact dj h3) (S.a O _) (Af8 ?_ ?_ ?_ h4 h5 h6 h7 h8 h9)
                ·subst z;rw [hi] at hj;cases hj;simp at h5
                ·unfold Env.blockKind;rw [O.sco];exact h1
                ·unfold Env.kindOf;rw [O.sco];exact h2
                ·unfold Env.kindOf;rw [O.sco];exact h3
               ·exact Ep
              ·exact Ep
          | _=>exact gen
        | _=>exact gen
      | _=>exact gen
    | _=>exact gen
 | If c a b _=>exact Akc (S.t O _) (ihss O _) (ihss O _)
 | For tg it body els _ =>
  cases els with
  | cons _ _=>exact Ep
  | nil =>
   delta iSb
   dsimp only;split
   ·exact Ep
   ·rename_i h;split
    ·rename_i ws g eg;refine Afq ?_ O.calm (S.i O _ _) (O.target eg) (ihss O _) (bM (by simpa using h));rw [O.xe];exact PassesOwn.never
    ·exact Ep
 | _=>exact Ep
theorem Amo (G:Gb) (n:Nat):(∀ {X:Cx}{k:Nat}{sc:SC},XOk X k G sc->∀ s,DS X s (iS G n sc s))/\(∀ {X:Cx}{k:Nat}{sc:SC},XOk X k G sc->∀ ss,DSs X ss (iSs G n sc ss)):=by
 induction n with
 | zero=>exact ⟨λ_ _=>Ep,λ_ _ _ _ _ _ _ _ h=>by obtain ⟨_,_,_,_,_,_,e,_⟩:=h;cases e⟩
 | succ n ih =>
  refine ⟨λ{X k sc} O s=>Aks G n (λO ss=>ih.2 O ss) O s,λ{X k sc} O ss=>?_⟩;cases ss with
  | nil=>exact Aar
  | cons s r=>exact pW (ih.1 O s) (ih.2 O r)
theorem rY {P:Program}{w:World}{K:aj}{mg:Str->Option Value}{base:Heap}{k:Nat}{G:Gb}{x qual:Str}{st:Stmt}{f:Addr}{fd:FuncData}{I:FnI}(g:GOk P w K mg base k G) (F:Fun K x qual st f fd) (S:FnScope I.N I.ps (Bc st))
  (hs:I.scope=Bc st) (hb:I.body=Cz st) (n:Nat):FnOk P w K mg base CX0 (k+3) f fd I.ps (spD K I.ps.length (Ac G n I)):=by
 refine F.ok S (λvs H Q E h=>h.1) λcdv A outer s H vs Q E hr h=>?_
 obtain ⟨hl,ρ,mh,ds,d,mh',q,rs,r,co⟩:=h;refine ⟨_,(Amo G n).2 (sc:={ N:=I.N,scope:=I.scope,own:=λ_=>true }) ⟨rfl,S.nd,hs.symm,λ_ _ _=>.inl rfl,rfl,rfl,hr,g⟩ (Cz st),?_⟩;unfold Ac at q;split at q
 ·split at q
  ·rename_i d' loc' m' e;cases q;exact ⟨_,mh,ρ,.rt d,loc',mh',by rw [← hb];exact e,Ye r,rs,co⟩
  ·rename_i loc' m' e;cases q;exact ⟨_,mh,ρ,.nx,loc',mh',by rw [← hb];exact e,Ye r,rs,λH' ρ' σ' e' rs' _=>co H' ρ' _ e' rs' .non⟩
  ·cases q
 ·cases q
theorem Yg {G:Gb}{n:Nat}{I:FnI}{ds:List D}{mh:MH}{r:D×MH}(h:Ac G n I ds mh=some r):ds.length=I.ps.length:=by
 unfold Ac at h;split at h
 ·assumption
 ·cases h
section
variable {P:Program}{w:World}{K:aj}{mg:Str->Option Value}{base:Heap}{k:Nat}{G:Gb}
end
section
variable {X:Cx}{pins:List (Addr×Obj)}{σ:L2.St}{H:Hp}{s:Shared}{fr:List Str}
end
section
variable {X:Cx}
end
section
variable {P:Program}{w:World}{K:aj}{mg:Str->Option Value}{base:Heap}{k:Nat}{G:Gb}
end
noncomputable def Akt (K:aj) (mg:Str->Option Value) (x:Str) (I:FnI):Prop:=∃ (qual:Str) (st:Stmt) (f:Addr) (fd:FuncData),mg x=some (.ref f)/\Fun K x qual st f fd/\FnScope I.N I.ps (Bc st)/\I.scope=Bc st/\I.body=Cz st/\∀ us:List Value,us.length=I.ps.length->bindArgs fd ⟨us,[]⟩=pure (I.ps.zip us)
noncomputable def rZ (K:aj) (mg:Str->Option Value) (x:Str) (d:D):Prop:=∃ u v,mg x=some u/\RelV v u/\∀ H ρ,RD K H ρ d v
structure TbOk (w:World) (K:aj) (mg:Str->Option Value) (T:Tb):Prop where
 fn:∀ x I,T.tb x=some I->∃ (qual:Str) (st:Stmt) (f:Addr) (fd:FuncData),mg x=some (.ref f)/\Fun K x qual st f fd/\FnScope I.N I.ps (Bc st)/\I.scope=Bc st/\I.body=Cz st/\∀ us:List Value,us.length=I.ps.length->bindArgs fd ⟨us,[]⟩=pure (I.ps.zip us)
 con:∀ x d,T.con x=some d->∃ u v,mg x=some u/\RelV v u/\∀ H ρ,RD K H ρ d v
 blt:∀ b∈Mj,mg b=none
 dic:∀ x kvs,T.dic x=some kvs->∃ a,mg x=some (.ref a)/\DicOk w K a kvs
 fld:∀ c f,T.fld c f=true->∃ C,jo K mainGlobals c=some (some (.ref C))/\Cls K C/\Ga K C f
 met:∀ c m I,T.tbm c m=some I->∃ (qual:Str) (st:Stmt) (C f:Addr) (fd:FuncData),jo K mainGlobals c=some (some (.ref C))/\Cls K C/\Meth K C m f/\Fun K m qual st f fd/\FnScope I.N I.ps (Bc st)/\I.scope=Bc st/\I.body=Cz st/\∀ us:List Value,us.length=I.ps.length->bindArgs fd ⟨us,[]⟩=pure (I.ps.zip us)
 mkr:∀ c f,T.mkr c=some f->∃ C fa fd ps,jo K mainGlobals c=some (some (.ref C))/\Mk K C fa/\mg c=some (.ref C)/\Binds K fd ps []/\∀ (P:Program) (w:World) (base:Heap),FnOk P w K mg base CX0 1 fa fd ps (spI C f)
theorem gok {P:Program}{w:World}{K:aj}{mg:Str->Option Value}{base:Heap}{T:Tb}(O:TbOk w K mg T) (k:Nat):GOk P w K mg base k (GkN T k):=by
 induction k with
 | zero=>exact ⟨λx ps f h=>(by cases h),O.con,O.blt,O.dic,O.fld,λc m ps g h=>(by cases h),λc f h=>by
   obtain ⟨C,fa,fd,ps,h1,h2,h3,h4,h5⟩:=O.mkr c f h
   exact ⟨C,fa,fd,ps,h1,h2,h3,h4,h5 _ _ _⟩,X3⟩
 | succ k ih =>
  refine ⟨λx ps f h=>?_,O.con,O.blt,O.dic,O.fld,λc m ps g h=>?_,λc f h=>by
   obtain ⟨C,fa,fd,ps,h1,h2,h3,h4,h5⟩:=O.mkr c f h
   exact ⟨C,fa,fd,ps,h1,h2,h3,h4,h5 _ _ _⟩,X3⟩
  ·simp only [GkN] at h;split at h
   ·rename_i I eI;cases h;obtain ⟨qual,st,fa,fd,h1,h2,h3,h4,h5,h6⟩:=O.fn x I eI;exact ⟨fa,fd,h1,h2.kp,.all h6,rY ih h2 h3 h4 h5 fuel,λds mh r hr=>Yg hr⟩
   ·cases h
  ·simp only [GkN] at h;split at h
   ·rename_i I eI;cases h;obtain ⟨qual,st,C,fa,fd,g1,g2,g3,h2,h3,h4,h5,h6⟩:=O.met c m I eI;exact ⟨C,fa,fd,g1,g2,g3,.all h6,rY ih h2 h3 h4 h5 fuel,λds mh r hr=>Yg hr⟩
   ·cases h
noncomputable def Bd (st:Stmt):FnI :=
  { ps:=(Eb st).args.map (·.arg),
    N:=(Eb st).args.map (·.arg)++(((Bc st).names.filter λp=>(match p.2 with | .local=>true | .cell=>true | _=>false)).map (·.1)).filter (λx=>!((Eb st).args.map (·.arg)).contains x),
    scope:=Bc st,body:=Cz st }
theorem walk {l:PySem.W.OpenLaw}{q:Program}{loose:List Str}{XP:(Str->Option Value)->Heap->Prop}{YP:World->Heap->Prop}{d:DefRec}{K:Params->aj}{Tt:Tb}{I:FnI}{x:Str}(k:Nat)
  (hn:l.most=some 63) (hdf:d.params.defaults=[]) (hY:∀ (w:World) (h:Heap),YP w h->(K w.params).In h) (hr:Room (k+3) callerA)
  (hI:Tt.tb d.name=some I) (hps:I.ps=[x])
  (T:∀ (w:World) (mg:Str->Option Value) (h:Heap),(K w.params).In h->h.Ns mainGlobals mg->TbOk w (K w.params) mg Tt)
  (main:∀ ns:List Int,ns.length<=63->∃ mh',Ac (GkN Tt k) fuel I [.rol (ns.map D.int)] []=some (.bl true,mh')) :
  RT q loose XP YP l.row.toRowW d [] (λf vs=>PySem.call f vs):=by
 refine L2.zZ (n:=63) (k:=k+3) (x:=x) (CX:=λ_=>CX0) (sp:=λw=>spD (K w.params) 1 (Ac (GkN Tt k) fuel I)) hn (by decide) hdf hr hY (λw mg fa h hK hN hm=>?_) (λw H a ns hl hO hS=>?_) λ_ _ _ _ _ z=>z
 ·obtain ⟨qual,st,f,fd,h1,h2,h3,h4,h5,h6⟩:=(T w mg h hK hN).fn _ _ hI;rw [hm] at h1;cases h1;refine ⟨fd,λs u=>.of_eq ?_,λbase hKb hNb=>?_⟩
  ·have:=h6 [u] (by rw [hps];rfl);rw [hps] at this;exact this
  ·have:=rY (P:=l.prog) (w:=w) (base:=base) (gok (T w mg h hK hN) k) h2 h3 h4 h5 fuel;rw [hps] at this;exact this
 ·obtain ⟨mh',e⟩:=main ns hl;have P:Jd (K w.params) H a (ns.map V.int):=by
   rcases hS with (h|h)|h
   ·rcases hO a with z|⟨o,xs,z⟩
    ·rw [z] at h;cases h
    ·rw [z] at h;cases h
   ·exact .inl h
   ·exact .inr h
  refine ⟨rfl,[],[],[.rol (ns.map D.int)],.bl true,mh',e,⟨rfl,ou,λn a o e=>by simp at e⟩,.cons (.rol P (RDs.ints ns)) .nil,λH' ρ' v _ _ r=>by cases r;rfl⟩
end DL
namespace DL
open PySem L2
noncomputable def vr (i:Nat):DM D:=λloc mh=>match loc[i]? with | some (some d)=>some (d,mh) | _=>none
noncomputable abbrev bT:=iop (λ_ _=>true) λi j=>i - j
noncomputable abbrev Mp:=eX (iop X4 λi j=>i * j)
noncomputable abbrev Mq:=iop (λ_ j=>decide (j≠0)&&decide (j.natAbs < 10889035741470030830827987437816582766592)) λi j=>i.fdiv j
noncomputable abbrev Mr:=iop (λ_ j=>decide (j≠0)) λi j=>i.fmod j
noncomputable abbrev Aku:=iop (λi j=>decide (0<=j)&&(decide (j<=1000000)&&decide (i.natAbs < 2 ^ 64))) λi j=>i * 2 ^ j.toNat
noncomputable abbrev Akv:=iop (λ_ j=>decide (0<=j)) λi j=>i / 2 ^ j.toNat
noncomputable abbrev Adf:=iop (λ_ _=>true) FQ
noncomputable abbrev Aga:=iop (λ_ _=>true) GJ
noncomputable abbrev ltD:=S5 λi j=>decide (i < j)
noncomputable abbrev leD:=S5 λi j=>decide (i<=j)
noncomputable abbrev gtD:=S5 λi j=>decide (j < i)
noncomputable abbrev geD:=S5 λi j=>decide (j<=i)
noncomputable def Agb (m:DM D):DM D:=m.bnd λx=>Zl (Aft x)
noncomputable def Akw (m:DM D):DM D:=(Ah m).bnd λc=>Zr (.bl (!c))
noncomputable def Bs (mr:DM (List D)):DM D:=mr.bnd λds=>Zl (T4 ds)
noncomputable def lstM (mr:DM (List D)):DM D:=mr.bnd λds=>Zl (T5 ds)
noncomputable def Ad (f:Fn) (mr:DM (List D)):DM D:=mr.bnd λds=>Zl (f ds)
noncomputable def Vx (T:String) (m:DM D):DM D:=m.bnd λx=>Zl (Xh T x)
noncomputable def fD (m:DM D):DM D:=m.bnd λx=>Zl (Ij x)
noncomputable def Ro (m:DM D):DM D:=m.bnd λx=>Zl (Ff x)
theorem ln0 {f:List Value->Prop}(h:f []) (us:List Value) (e:us.length=0):f us:=by
 cases us with
 | nil=>exact h
 | cons _ _=>cases e
theorem ln1 {f:List Value->Prop}(h:∀ a,f [a]) (us:List Value) (e:us.length=1):f us:=by
 cases us with
 | nil=>cases e
 | cons a r=>exact ln0 (f:=λr=>f (a::r)) (h a) r (Nat.succ.inj e)
theorem ln2 {f:List Value->Prop}(h:∀ a b,f [a,b]) (us:List Value) (e:us.length=2):f us:=by
 cases us with
 | nil=>cases e
 | cons a r=>exact ln1 (f:=λr=>f (a::r)) (h a) r (Nat.succ.inj e)
theorem ln3 {f:List Value->Prop}(h:∀ a b c,f [a,b,c]) (us:List Value) (e:us.length=3):f us:=by
 cases us with
 | nil=>cases e
 | cons a r=>exact ln2 (f:=λr=>f (a::r)) (h a) r (Nat.succ.inj e)
theorem ln4 {f:List Value->Prop}(h:∀ a b c d,f [a,b,c,d]) (us:List Value) (e:us.length=4):f us:=by
 cases us with
 | nil=>cases e
 | cons a r=>exact ln3 (f:=λr=>f (a::r)) (h a) r (Nat.succ.inj e)
theorem ln5 {f:List Value->Prop}(h:∀ a b c d e,f [a,b,c,d,e]) (us:List Value) (e:us.length=5):f us:=by
 cases us with
 | nil=>cases e
 | cons a r=>exact ln4 (f:=λr=>f (a::r)) (h a) r (Nat.succ.inj e)
theorem sE {q:Program}{loose:List Str}{XP:(Str->Option Value)->Heap->Prop}{K:Params->aj}{as:List Addr}{n t:Nat}{r:PySem.W.RowW}{d:DefRec}{kwd:List (Str×Expr)}{run:Value->List Value->Sem Value}
  (e:∀ P,as=(K P).map (·.1)) (h:RT q loose XP (λw h=>(K w.params).In h) r d kwd run):PySem.W.WalkX q loose XP (PySem.W.X.obsZ as) (PySem.W.X.valZ K n t) r d kwd run :=
 λw s₀ s₁ mg mb G y a o pm cd doc dV kV h1 h2 h3 h4 h5 h6 args vals as' L hpre hlay hrd hwl hlo =>
  h w s₀ s₁ mg mb G (PySem.W.InK.keeps w s₀.heap s₁.heap (PySem.W.X.z_facts e y).2.1 L.keeps) a o pm cd doc dV kV h1 h2 h3 h4 h5 h6 args vals as' hpre hlay hrd hwl hlo
noncomputable def Yh (K:aj):List (Str×Stmt)->Prop
 | []=>True
 | r::L=>(∃ (f:Addr) (fd:FuncData),jo K mainGlobals r.1=some (some (.ref f))/\Fun K r.1 r.1 r.2 f fd)/\Yh K L
theorem sG {K:aj}{x:Str}{st:Stmt}{L:List (Str×Stmt)}{f:Addr}{oc:Value}{od an:Option Addr}{osl:Array (Option Value)}{kV doc pm cdv ct:Value}(a:jo K mainGlobals x=some (some (.ref f)))
  (l:K.lookup f=some ⟨oc,od,.func (zf x x (Eb st) (Cz st) (Bc st) .none kV doc pm an cdv ct),osl⟩)
  (c:IK K cdv x=true) (k:ug K (.ref f)=true) (q:Yh K L):Yh K ((x,st)::L):=⟨⟨f,_,a,aB l c k⟩,q⟩
noncomputable def Akx (x:Str) (st:Stmt):Prop:=FnScope (Bd st).N (Bd st).ps (Bc st)/\∀ (kV doc pm:Value) (an:Option Addr) (cdv ct:Value) (us:List Value),us.length=(Bd st).ps.length->bindArgs (zf x x (Eb st) (Cz st) (Bc st) .none kV doc pm an cdv ct) ⟨us,[]⟩=pure ((Bd st).ps.zip us)
theorem Aw {x:Str}{st:Stmt}(s:FnScope (Bd st).N (Bd st).ps (Bc st)) (b:∀ (kV doc pm:Value) (an:Option Addr) (cdv ct:Value) (us:List Value),us.length=(Bd st).ps.length->bindArgs (zf x x (Eb st) (Cz st) (Bc st) .none kV doc pm an cdv ct) ⟨us,[]⟩=pure ((Bd st).ps.zip us)):Akx x st:=⟨s,b⟩
noncomputable def sH:List (Str×Stmt)->Prop
 | []=>True
 | r::L=>Akx r.1 r.2/\sH L
theorem fG {K:aj}{h:Heap}{mg:Str->Option Value}(X:K.In h) (G:h.Ns mainGlobals mg) {x:Str}{I:FnI}:∀ {L:List (Str×Stmt)},Yh K L->sH L->(L.lookup x).map Bd=some I->Akt K mg x I
 | [],_,_,e=>by cases e
 | (y,st)::L,⟨⟨f,fd,a,F⟩,q⟩,⟨s,t⟩,e=>by
  simp only [xj] at e;split at e
  ·rename_i hy;rw [dj hy];cases e;refine ⟨y,st,f,fd,PySem.W.mg_of X G a,F,s.1,rfl,rfl,λus hu=>?_⟩;obtain ⟨oc,od,kV,doc,pm,an,cdv,ct,osl,rfl,_⟩:=F.ex;exact s.2 kV doc pm an cdv ct us hu
  ·exact fG X G q t e
noncomputable def Yi (K:aj):List (Str×D)->Prop
 | []=>True
 | r::L=>(∃ u,jo K mainGlobals r.1=some (some u)/\rdV K 60 u=some r.2)/\Yi K L
theorem sI {K:aj}{x:Str}{d:D}{L:List (Str×D)}{u:Value}(a:jo K mainGlobals x=some (some u)) (b:rdV K 60 u=some d) (q:Yi K L):Yi K ((x,d)::L):=⟨⟨u,a,b⟩,q⟩
theorem Yj {K:aj}{h:Heap}{mg:Str->Option Value}(X:K.In h) (G:h.Ns mainGlobals mg) {x:Str}{d:D}:∀ {L:List (Str×D)},Yi K L->L.lookup x=some d->rZ K mg x d
 | [],_,e=>by cases e
 | (y,d')::L,⟨⟨u,a,b⟩,q⟩,e=>by
  simp only [xj] at e;split at e
  ·rename_i hy;rw [dj hy];cases e;obtain ⟨v,r1,r2⟩:=qY 60 b;exact ⟨u,v,PySem.W.mg_of X G a,r1,r2⟩
  ·exact Yj X G q e
noncomputable def Yk (K:aj):List Str->Prop
 | []=>True
 | b::L=>jo K mainGlobals b=some none/\Yk K L
theorem sJ {K:aj}{b:Str}{L:List Str}(a:jo K mainGlobals b=some none) (q:Yk K L):Yk K (b::L):=⟨a,q⟩
theorem Yl {K:aj}{h:Heap}{mg:Str->Option Value}(X:K.In h) (G:h.Ns mainGlobals mg):∀ {L:List Str},Yk K L->∀ b∈L,mg b=none
 | _::_,⟨a,_⟩,_,.head _=>PySem.W.mg_none_of X G a
 | _::_,⟨_,q⟩,b,.tail _ m=>Yl X G q b m
section
variable {loc:DL.Loc}{mh:MH}{ma mb:DM D}{mr:DM (List D)}{t u:DM Bool}{m1 m2:SM}
theorem Aky (i:Nat):vr i loc mh=(match loc[i]? with | some (some d)=>some (d,mh) | _=>none):=by kernel_rfl
theorem Abo:G6 ma loc mh=(match ma loc mh with | none=>none | some (x,h)=>(match pM x h with | some k=>some (k,h) | none=>none)):=by kernel_rfl
theorem sO (T:String) (f:D->List D->MH->Option (D×MH)):Dq T f ma mr loc mh=(match ma loc mh with | none=>none | some (x,h)=>if Vk T x h=true then (match mr loc h with | none=>none | some (ds,h2)=>f x ds h2) else none):=by kernel_rfl
theorem Abp (g:GM):Aq ma g loc mh=(match ma loc mh with | some (d,h)=>(match g d loc h with | some (l,h')=>some (.nx,l,h') | none=>none) | none=>none):=by kernel_rfl
theorem sS:ifS t m1 m2 loc mh=(match t loc mh with | some (k,h)=>if k=true then m1 loc h else m2 loc h | none=>none):=by kernel_rfl
theorem Abq:retS ma loc mh=(match ma loc mh with | some (d,h)=>some (.rt d,loc,h) | none=>none):=by kernel_rfl
theorem sU:Jg ma loc mh=(match ma loc mh with | some (_,h)=>some (.nx,loc,h) | none=>none):=by kernel_rfl
theorem fH:Ab m1 m2 loc mh=(match m1 loc mh with | some (.nx,l,h)=>m2 l h | r=>r):=by kernel_rfl
theorem Abr:Cq ma loc mh=(match ma loc mh with | none=>none | some (x,h)=>(match srcOf x h with | some s=>some (s,h) | none=>none)):=by kernel_rfl
theorem Abs (f:List D->Option Src):Ls f mr loc mh=(match mr loc mh with | none=>none | some (ds,h)=>(match f ds with | some s=>some (s,h) | none=>none)):=by
 unfold Ls DM.bnd;cases mr loc mh with
 | none=>rfl
 | some p =>
  obtain ⟨ds,h⟩:=p;dsimp only;cases f ds <;> rfl
theorem sV:Lr (some ma) loc mh=(match ma loc mh with | some (.int i,h)=>some (some i,h) | _=>none):=by
 show (ma.bnd _) loc mh=_;unfold DM.bnd;cases ma loc mh with
 | none=>rfl
 | some p =>
  obtain ⟨x,h⟩:=p;cases x <;> rfl
theorem sW:Mh ma loc mh=(match ma loc mh with | none=>none | some (x,h)=>(match srcOf x h with | some s=>some (.enum s,h) | none=>none)):=by kernel_rfl
end
theorem Agc (C:Int->Int->Bool) (g:Int->Int->Int) (i j:Int) (mh:MH):iop C g (.int i) (.int j) mh=if C i j=true then some (.int (g i j),mh) else none:=by kernel_rfl
theorem sX {j:Int}(h0:0<=j) (h:j<=1000000):K9 [.int j]=some (.seq (Cg 0 j.toNat)):=by
 have e2:-(2 ^ 62)<=j/\j < 2 ^ 62:=by omega
 unfold K9;dsimp only;rw [if_pos e2]
theorem Fg {B:Nat}(h:B<=1000000):K9 [.int B]=some (.seq (Cg 0 B)):=by rw [sX (by omega) (by omega),jh]
theorem Dv (lo:Int) (n:Nat):(Cg lo n).length=n:=by unfold Cg;rw [ak,ig]
theorem le_size {n:Nat}(h:n<=1000000):n<=sizeLine:=by rw [qp];omega
theorem lt_size {n:Nat}(h:n<=1000000):n < sizeLine:=by rw [qp];omega
theorem sY {ds:List D}{mh:MH}(h:ds.length<=1000000):T4 ds mh=some (.tup ds,mh):=by unfold T4;rw [if_pos (le_size h)]
theorem sZ {ds:List D}{mh:MH}(h:ds.length<=1000000):T5 ds mh=some (.ref mh.length,mh++[.lst ds]):=by unfold T5;rw [if_pos (le_size h)]
theorem bU {n:Nat}{ds:List D}{y:D}{mh:MH}(e:mh[n]?=some (.lst ds)) (h:ds.length<=1000000):Eg (.ref n) [y] mh=some (.non,mh.set n (.lst (ds++[y]))):=by
 simp only [Eg,e,if_pos (lt_size h)]
theorem tB {n m:Nat}{xs ys:List D}{mh:MH}(e1:mh[n]?=some (.lst xs)) (e2:mh[m]?=some (.lst ys)) (h:xs.length+ys.length<=1000000):Cp (.ref n) (.ref m) mh=some (.ref mh.length,mh++[.lst (xs++ys)]):=by
 simp only [Cp,e1,e2,if_pos (le_size h)]
theorem Hv (mh:MH) (n:Nat):∀ ns:List Int,Bx (py mh n) (ns.map D.int)=some (ns.map xq)
 | []=>rfl
 | a::r=>by
  have e:py mh n (.int a)=some (.int a):=by cases n <;> rfl
  simp only [iu,Bx,e,Hv mh n r]
theorem Abt {mh:MH}{n k:Nat}{ns:List Int}(h:mh[k]?=some (.lst (ns.map D.int))):py mh (n+1) (.ref k)=some (.list (ns.map xq)):=by
 simp only [py,h,Hv]
theorem Ow:∀ xs ys:List Int,vg (xs.map xq) (ys.map xq)=(xs==ys)
 | [],[]=>by simp [vg]
 | [],_::_=>by simp [vg]
 | _::_,[]=>by simp [vg]
 | a::r,b::t=>by simp only [iu,vg,lz,Ow r t];rfl
theorem Ym {mh:MH}{k:Nat}{xs:List Int}{a:Int}(h:mh[k]?=some (.lst (xs.map D.int))):inD false (.int a) (.ref k) mh=some (.bl (decide (a∈xs)),mh):=by
 have e:py mh 60 (.int a)=some (.int a):=rfl;simp only [inD,Uk h,aH,inB,e,Abt h];have:(RM xq xs).any (λy=>lz y (.int a))=decide (a∈xs):=by
  rw [List.any_map,qb,List.any_eq_true,decide_eq_true_iff];constructor
  ·rintro ⟨x,hx,e⟩;have e:(x==a)=true:=e;rw [← dj e];exact hx
  ·intro hx;exact ⟨a,hx,(beq_self_eq_true a:(a==a)=true)⟩
 rw [this];rfl
end DL
namespace DL
open PySem L2 PyProof.Rows
noncomputable abbrev Ae (n:Nat):D:=.int (n:Int)
noncomputable def Jr (g n:Nat):List Nat:=(dm n).filter λi=>g.testBit i
theorem Rp {g n i:Nat}:i∈Jr g n ↔ i < n/\g.testBit i=true:=by unfold Jr;simp
theorem Abu (g:Nat):g < 2 ^ qg (g:Int):=by
 unfold qg
 by_cases h:g=0
 ·subst h;decide
 ·have:¬ (((g:Int)==0)=true):=by simpa using h
  rw [if_neg this,VB];exact Nat.lt_log2_self
theorem bits_le {g n:Nat}(h:g < 2 ^ n):qg (g:Int)<=n:=by
 unfold qg
 by_cases hg:g=0
 ·subst hg;simp
 ·have:¬ (((g:Int)==0)=true):=by simpa using hg
  rw [if_neg this,VB];have:=(Nat.log2_lt hg).mpr h;omega
theorem Ld (g n:Nat):(Jr g n).length<=n:=by
 unfold Jr;have:=jx (λi=>g.testBit i) (dm n)
 simpa using this
noncomputable def setOf (l:List Nat):Nat:=l.foldl (λa h=>a ||| 2 ^ h) 0
theorem Ms (i:Nat):∀ (l:List Nat) (a:Nat),(l.foldl (λa h=>a ||| 2 ^ h) a).testBit i=(a.testBit i || decide (i∈l))
 | [],a=>by simp
 | h::r,a=>by
  rw [List.foldl_cons,Ms i r,FW,Nat.testBit_two_pow];have e:decide (h=i)=decide (i=h):=by simp [eq_comm]
  rw [e]
  by_cases e1:i=h
  ·simp [e1]
  ·by_cases e2:i∈r <;> simp [e1,e2]
theorem Cy (l:List Nat) (i:Nat):(setOf l).testBit i=decide (i∈l):=by unfold setOf;rw [Ms];simp
theorem mH (a b:Nat):GJ (a:Int) (b:Int)=((a ||| b:Nat):Int):=by
 rw [bitOr_and,bitAnd_pp (by omega) (by omega)];have:=nat_or_add_and a b;simp only [jh];omega
theorem Abv (s h:Nat):(FQ ((s:Int) / 2 ^ (h:Int).toNat) 1==1)=s.testBit h:=by
 rw [bitAnd_m1,jh];rw [Nat.testBit_eq_decide_div_mod_eq];have e:((s:Int) / 2 ^ h) % 2=((s / 2 ^ h % 2:Nat):Int):=by
  rw [Int.natCast_emod,Int.natCast_ediv,Int.natCast_pow];rfl
 rw [e,qb,decide_eq_true_iff,beq_iff_eq];omega
end DL
namespace DL
open PySem L2
noncomputable def wD {α:Type}(m:DM α) (loc:DL.Loc) (mh:MH) (P:α->MH->Prop):Prop:=∃ a h,m loc mh=some (a,h)/\P a h
noncomputable def wV (r:Option (D×MH)) (P:D->MH->Prop):Prop:=∃ d h,r=some (d,h)/\P d h
noncomputable def wG (r:Option (DL.Loc×MH)) (P:DL.Loc->MH->Prop):Prop:=∃ l h,r=some (l,h)/\P l h
noncomputable def wS (m:SM) (loc:DL.Loc) (mh:MH) (P:Fl->DL.Loc->MH->Prop):Prop:=∃ f l h,m loc mh=some (f,l,h)/\P f l h
section
variable {loc:DL.Loc}{mh:MH}{ma mb mc:DM D}{mr:DM (List D)}{t u:DM Bool}{P:D->MH->Prop}{B:Bool->MH->Prop}
theorem Az {α:Type}{m:DM α}{P Q:α->MH->Prop}(h:wD m loc mh P) (i:∀ a h,P a h->Q a h):wD m loc mh Q:=let ⟨a,h',e,p⟩:=h;⟨a,h',e,i a h' p⟩
theorem Be {i:Nat}{d:D}(e:loc[i]?=some (some d)) (h:P d mh):wD (vr i) loc mh P:=⟨d,mh,by rw [Aky,e],h⟩
theorem Aj {α:Type}{a:α}{P:α->MH->Prop}(h:P a mh):wD (Zr a) loc mh P:=⟨a,mh,rfl,h⟩
theorem Abw {f:MH->Option (D×MH)}(h:wV (f mh) P):wD (Zl f) loc mh P:=h
theorem Bl {α β:Type}{m:DM α}{f:α->DM β}{P:β->MH->Prop}(h:wD m loc mh λa h1=>wD (f a) loc h1 P):wD (m.bnd f) loc mh P:=by
 obtain ⟨a,h1,e1,b,h2,e2,p⟩:=h;exact ⟨b,h2,by unfold DM.bnd;rw [e1];exact e2,p⟩
theorem Bm {f:D->D->MH->Option (D×MH)}(h:wD ma loc mh λx h1=>wD mb loc h1 λy h2=>wV (f x y h2) P):wD (dop f ma mb) loc mh P:=Bl (Az h λ_ _ q=>Bl (Az q λ_ _ z=>z))
theorem Ax {P:List D->MH->Prop}(h:wD ma loc mh λx h1=>wD mr loc h1 λxs h2=>P (x::xs) h2):wD (Aa ma mr) loc mh P:=Bl (Az h λ_ _ q=>Bl (Az q λ_ _ z=>Aj z))
theorem Ca {f:Fn}(h:wD mr loc mh λds h1=>wV (f ds h1) P):wD (Ad f mr) loc mh P:=Bl (Az h λ_ _ q=>q)
theorem tE (h:wD mr loc mh λds h1=>ds.length<=1000000/\P (.tup ds) h1):wD (Bs mr) loc mh P:=Bl (Az h λ_ _ q=>⟨_,_,sY q.1,q.2⟩)
theorem Vy (h:wD mr loc mh λds h1=>ds.length<=1000000/\P (.ref h1.length) (h1++[.lst ds])):wD (lstM mr) loc mh P:=Bl (Az h λ_ _ q=>⟨_,_,sZ q.1,q.2⟩)
theorem tH (h:wD ma loc mh λx h1=>∃ i,x=.int i/\P (.int (-i)) h1):wD (Agb ma) loc mh P:=Bl (Az h λ_ _ ⟨i,e,q⟩=>by subst e;exact ⟨_,_,rfl,q⟩)
theorem Agd {T:String}(h:wD ma loc mh λx h1=>wV (Xh T x h1) P):wD (Vx T ma) loc mh P:=Bl (Az h λ_ _ q=>q)
theorem bV (h:wD ma loc mh λx h1=>wV (Ff x h1) P):wD (Ro ma) loc mh P:=Bl (Az h λ_ _ q=>q)
theorem mJ (h:wD ma loc mh λx h1=>wV (Ij x h1) P):wD (fD ma) loc mh P:=Bl (Az h λ_ _ q=>q)
theorem Ce (h:wD ma loc mh λx h1=>∃ k,x=.bl k/\B k h1):wD (Ah ma) loc mh B:=Bl (Az h λ_ _ ⟨k,e,q⟩=>by subst e;exact Aj q)
theorem Rq (h:wD ma loc mh λx h1=>∃ k,pM x h1=some k/\B k h1):wD (G6 ma) loc mh B:=by
 obtain ⟨x,h1,e,k,ek,q⟩:=h;exact ⟨k,h1,by rw [Abo,e];dsimp only;rw [ek],q⟩
theorem Abx (h:wD ma loc mh λx h1=>∃ k,x=.bl k/\P (.bl (!k)) h1):wD (Akw ma) loc mh P:=Bl (Ce (Az h λ_ _ ⟨k,e,q⟩=>⟨k,e,Aj q⟩))
theorem Vz (h:wD t loc mh λk h1=>B (!k) h1):wD (Hq t) loc mh B:=Bl (Az h λ_ _ q=>Aj q)
theorem fJ (h:wD t loc mh λk h1=>(k=true->wD u loc h1 B)/\(k=false->B false h1)):wD (Je t u) loc mh B:=Bl (Az h λk _ q=>by
 cases k with
 | true=>exact q.1 rfl
 | false=>exact Aj (q.2 rfl))
theorem bW (h:wD t loc mh λk h1=>(k=true->B true h1)/\(k=false->wD u loc h1 B)):wD (O5 t u) loc mh B:=Bl (Az h λk _ q=>by
 cases k with
 | true=>exact Aj (q.1 rfl)
 | false=>exact q.2 rfl)
theorem fK (h:wD ma loc mh λx h1=>∃ k,x=.bl k/\(k=true->wD mb loc h1 P)/\(k=false->P (.bl false) h1)):wD (Ec ma mb) loc mh P:=Bl (Ce (Az h λ_ _ ⟨k,e,q⟩=>⟨k,e,by
 cases k with
 | true=>exact q.1 rfl
 | false=>exact Aj (q.2 rfl)⟩))
theorem tK (h:wD t loc mh λk h1=>(k=true->wD ma loc h1 P)/\(k=false->wD mb loc h1 P)):wD (dIf t ma mb) loc mh P:=Bl (Az h λk _ q=>by
 cases k with
 | true=>exact q.1 rfl
 | false=>exact q.2 rfl)
theorem Yn {f f':D->D->MH->Option (D×MH)}(h:wD ma loc mh λx h1=>wD mb loc h1 λy h2=>wV (f x y h2) λz h3=>∃ k,z=.bl k/\(k=true->wD mc loc h3 λw h4=>wV (f' y w h4) P)/\(k=false->P (.bl false) h3)):wD (G9 f f' ma mb mc) loc mh P :=
 Bl (Az h λ_ _ q=>Bl (Az q λ_ _ z=>Bl (Ce (Az (Abw z) λ_ _ ⟨k,e,q⟩=>⟨k,e,by
  cases k with
  | true=>exact Bl (Az (q.1 rfl) λ_ _ w=>w)
  | false=>exact Aj (q.2 rfl)⟩))))
theorem Pu {T:String}{f:D->List D->MH->Option (D×MH)}(h:wD ma loc mh λx h1=>Vk T x h1=true/\wD mr loc h1 λds h2=>wV (f x ds h2) P):wD (Dq T f ma mr) loc mh P:=by
 obtain ⟨x,h1,e1,ht,ds,h2,e2,d,h3,e3,p⟩:=h;exact ⟨d,h3,by rw [sO,e1];dsimp only;rw [if_pos ht,e2];exact e3,p⟩
theorem tL {O:Option Int->MH->Prop}(h:O none mh):wD (Lr none) loc mh O:=⟨none,mh,rfl,h⟩
theorem tM {O:Option Int->MH->Prop}(h:wD ma loc mh λx h1=>∃ i,x=.int i/\O (some i) h1):wD (Lr (some ma)) loc mh O:=by
 obtain ⟨x,h1,e,i,rfl,q⟩:=h;exact ⟨some i,h1,by rw [sV,e],q⟩
theorem Akz {ml mu:Option (DM D)}(h:wD ma loc mh λx h1=>wD (Lr ml) loc h1 λl h2=>wD (Lr mu) loc h2 λr h3=>wV (slD x l r h3) P):wD (dSl ma ml mu) loc mh P :=
 Bl (Az h λ_ _ q=>Bl (Az q λ_ _ z=>Bl (Az z λ_ _ w=>w)))
theorem Im {R:Src->MH->Prop}(h:wD ma loc mh λx h1=>∃ s,srcOf x h1=some s/\R s h1):wD (Cq ma) loc mh R:=by
 obtain ⟨x,h1,e,s,es,q⟩:=h;exact ⟨s,h1,by rw [Abr,e];dsimp only;rw [es],q⟩
theorem Aby {R:Src->MH->Prop}(h:wD ma loc mh λx h1=>∃ s,srcOf x h1=some s/\R (.enum s) h1):wD (Mh ma) loc mh R:=by
 obtain ⟨x,h1,e,s,es,q⟩:=h;exact ⟨.enum s,h1,by rw [sW,e];dsimp only;rw [es],q⟩
theorem tO {R:Src->MH->Prop}{f:List D->Option Src}(h:wD mr loc mh λds h1=>∃ s,f ds=some s/\R s h1):wD (Ls f mr) loc mh R:=by
 obtain ⟨x,h1,e,s,es,q⟩:=h;exact ⟨s,h1,by rw [Abs,e];dsimp only;rw [es],q⟩
end
noncomputable def lC (m2:SM) (P:Fl->DL.Loc->MH->Prop) (f:Fl) (l:DL.Loc) (h:MH):Prop:=match f with
 | .nx=>wS m2 l h P
 | f=>P f l h
section
variable {loc l:DL.Loc}{mh h1:MH}{me:DM D}{m1 m2:SM}{g:GM}{t:DM Bool}{P:Fl->DL.Loc->MH->Prop}
theorem Am (h:wS m1 loc mh (lC m2 P)):wS (Ab m1 m2) loc mh P:=by
 obtain ⟨f,l,h1,e,q⟩:=h;cases f with
 | nx =>
  obtain ⟨f',l',h',e',p⟩:=q;exact ⟨f',l',h',by rw [fH,e];exact e',p⟩
 | _=>exact ⟨_,l,h1,by rw [fH,e],q⟩
theorem Ag (h:wS m2 l h1 P):lC m2 P .nx l h1:=h
theorem Abz {d:D}(h:P (.rt d) l h1):lC m2 P (.rt d) l h1:=h
theorem Bh (h:P .nx loc mh):wS Zn loc mh P:=⟨_,_,_,rfl,h⟩
theorem Ci (h:wD me loc mh λd h1=>wG (g d loc h1) λl h2=>P .nx l h2):wS (Aq me g) loc mh P:=by
 obtain ⟨d,h1,e1,l,h2,e2,p⟩:=h;exact ⟨.nx,l,h2,by rw [Abp,e1];dsimp only;rw [e2],p⟩
theorem Fp (h:wD me loc mh λd h1=>P (.rt d) loc h1):wS (retS me) loc mh P:=by
 obtain ⟨d,h1,e1,p⟩:=h;exact ⟨.rt d,loc,h1,by rw [Abq,e1],p⟩
theorem Ab0 (h:wD me loc mh λ_ h1=>P .nx loc h1):wS (Jg me) loc mh P:=by
 obtain ⟨d,h1,e1,p⟩:=h;exact ⟨.nx,loc,h1,by rw [sU,e1],p⟩
theorem Fi (h:wD t loc mh λk h1=>(k=true->wS m1 loc h1 P)/\(k=false->wS m2 loc h1 P)):wS (ifS t m1 m2) loc mh P:=by
 obtain ⟨k,h1,e1,a,b⟩:=h;cases k with
 | true =>
  obtain ⟨f,l,h',e,p⟩:=a rfl;exact ⟨f,l,h',by rw [sS,e1];exact e,p⟩
 | false =>
  obtain ⟨f,l,h',e,p⟩:=b rfl;exact ⟨f,l,h',by rw [sS,e1];exact e,p⟩
theorem Ar {i:Nat}{d:D}{R:DL.Loc->MH->Prop}(h:R (loc.set i (some d)) mh):wG (Ai i d loc mh) R:=⟨_,_,rfl,h⟩
theorem V0 {is:List Nat}{ds:List D}{R:DL.Loc->MH->Prop}(hl:ds.length=is.length) (h:R (Qu is ds loc) mh):wG (T8 is (.tup ds) loc mh) R:=⟨_,_,if_pos hl,h⟩
theorem Age {mo mi:DM D}{v:D}{R:DL.Loc->MH->Prop}(h:wD mo loc mh λo h1=>wD mi loc h1 λi h2=>∃ h3,Jp o i v h2=some h3/\R loc h3):wG (Ht mo mi v loc mh) R:=by
 obtain ⟨o,h1,e1,i,h2,e2,h3,e3,p⟩:=h;refine ⟨loc,h3,?_,p⟩;unfold Ht Rg;rw [e1];dsimp only;rw [e2];dsimp only;rw [e3]
theorem Ab1 {P:D->MH->Prop}(h:P (.ref mh.length) (mh++[.dct []])):wD newD loc mh P:=⟨_,_,rfl,h⟩
theorem Yo {n:Nat}{ds:List D}{k:Nat}{v:D}{h:MH}(e:h[n]?=some (.lst ds)) (hk:k < ds.length):Jp (.ref n) (.int k) v h=some (h.set n (.lst (ds.set k v))):=by
 have e2:ixN ds.length (k:Int)=some k:=by unfold ixN;rw [if_pos (by omega),if_pos (by omega)];simp
 simp only [Jp,e,e2]
noncomputable def Agf (J:DL.Loc->MH->Prop) (P:Fl->DL.Loc->MH->Prop) (f:Fl) (l:DL.Loc) (h:MH):Prop:=match f with
 | .nx=>J l h
 | .ct=>J l h
 | .bk=>P .nx l h
 | .rt d=>P (.rt d) l h
theorem bY {src:Src}{ds:List D}{body:SM}(J:Nat->DL.Loc->MH->Prop) (keep:∀ i l h,J i l h->src.ok h=true/\src.items h=ds)
  (step:∀ i d l h,ds[i]?=some d->J i l h->wG (g d l h) λl1 h1=>wS body l1 h1 (Agf (J (i+1)) P)) (fin:∀ l h,J ds.length l h->P .nx l h) :
  ∀ (k i:Nat) (l:DL.Loc) (h:MH),i+k=ds.length->J i l h->wS (O7 src g body k i) l h P
 | 0,i,l,h,e,j=>by
  have e:i=ds.length:=by omega
  subst e;have s:src.stop h ds.length=true:=by
   unfold Src.stop;rw [(keep _ _ _ j).1,(keep _ _ _ j).2,yj];exact decide_eq_true (bh _)
  exact ⟨.nx,l,h,by simp only [O7,s,if_true],fin _ _ j⟩
 | k+1,i,l,h,e,j=>by
  have hi:i < ds.length:=by omega
  have eg:src.get h i=some ds[i]:=by
   unfold Src.get;rw [(keep _ _ _ j).2,au hi]
  obtain ⟨l1,h1,e1,f,l2,h2,e2,q⟩:=step i ds[i] l h (au hi) j;cases f with
  | nx =>
   obtain ⟨f',l',h',e',p⟩:=bY J keep step fin k (i+1) l2 h2 (by omega) q;exact ⟨f',l',h',by simp only [O7,eg,e1,e2];exact e',p⟩
  | ct =>
   obtain ⟨f',l',h',e',p⟩:=bY J keep step fin k (i+1) l2 h2 (by omega) q;exact ⟨f',l',h',by simp only [O7,eg,e1,e2];exact e',p⟩
  | bk=>exact ⟨.nx,l2,h2,by simp only [O7,eg,e1,e2],q⟩
  | rt d=>exact ⟨.rt d,l2,h2,by simp only [O7,eg,e1,e2],q⟩
theorem Gm {mi:DM Src}{body:SM}(h:wD mi loc mh λsrc h0=>∃ ds,∃ J:Nat->DL.Loc->MH->Prop,J 0 loc h0/\(∀ i l h,J i l h->src.ok h=true/\src.items h=ds) /\
  (∀ i d l h,ds[i]?=some d->J i l h->wG (g d l h) λl1 h1=>wS body l1 h1 (Agf (J (i+1)) P))/\∀ l h,J ds.length l h->P .nx l h):wS (Hr mi g body) loc mh P:=by
 obtain ⟨src,h0,e,ds,J,j0,keep,step,fin⟩:=h;have el:(src.items h0).length=ds.length:=by rw [(keep _ _ _ j0).2]
 obtain ⟨f,l,h',e',p⟩:=bY J keep step fin ds.length 0 loc h0 (by omega) j0;refine ⟨f,l,h',?_,p⟩;unfold Hr;rw [e];dsimp only;rw [el];exact e'
theorem V1 {src:Src}{ds:List D}{tc:DM Bool}{e:DM D}{R:List D->MH->Prop}(J:Nat->List D->MH->Prop) (keep:∀ i acc h,J i acc h->src.ok h=true/\src.items h=ds) (hz:ds.length<=1000000) (small:∀ i acc h,J i acc h->acc.length<=i)
  (step:∀ i d acc h,ds[i]?=some d->J i acc h->wG (g d loc h) λl1 h1=>wD tc l1 h1 λc h2=>(c=true->wD e l1 h2 λy h3=>J (i+1) (acc++[y]) h3)/\(c=false->J (i+1) acc h2)) (fin:∀ acc h,J ds.length acc h->R acc h) :
  ∀ (k i:Nat) (acc:List D) (h:MH),i+k=ds.length->J i acc h->∃ acc' h',Ky src g tc e loc k i acc h=some (acc',h')/\R acc' h'
 | 0,i,acc,h,q,j=>by
  have q:i=ds.length:=by omega
  subst q;have s:src.stop h ds.length=true:=by
   unfold Src.stop;rw [(keep _ _ _ j).1,(keep _ _ _ j).2,yj];exact decide_eq_true (bh _)
  exact ⟨acc,h,by simp only [Ky,s,if_true],fin _ _ j⟩
 | k+1,i,acc,h,q,j=>by
  have hi:i < ds.length:=by omega
  have eg:src.get h i=some ds[i]:=by
   unfold Src.get;rw [(keep _ _ _ j).2,au hi]
  obtain ⟨l1,h1,e1,c,h2,e2,a,b⟩:=step i ds[i] acc h (au hi) j;cases c with
  | true =>
   obtain ⟨y,h3,e3,j3⟩:=a rfl;obtain ⟨acc',h',e',p⟩:=V1 J keep hz small step fin k (i+1) _ h3 (by omega) j3;have hl:acc.length < sizeLine:=lt_size (by have:=small _ _ _ j;omega);exact ⟨acc',h',by simp only [Ky,eg,e1,e2,if_true,e3,if_pos hl];exact e',p⟩
  | false =>
   obtain ⟨acc',h',e',p⟩:=V1 J keep hz small step fin k (i+1) _ h2 (by omega) (b rfl);exact ⟨acc',h',by simp only [Ky,eg,e1,e2,zy,if_false];exact e',p⟩
theorem Gu {mi:DM Src}{cs:List (Option Nat)}{tc:DM Bool}{e:DM D}{Q:D->MH->Prop}(h:wD mi loc mh λsrc h0=>∃ ds,∃ J:Nat->List D->MH->Prop,ds.length<=1000000/\J 0 [] h0/\(∀ i acc h,J i acc h->src.ok h=true/\src.items h=ds)/\(∀ i acc h,J i acc h->acc.length<=i) /\
  (∀ i d acc h,ds[i]?=some d->J i acc h->wG (g d (Nk cs loc) h) λl1 h1=>wD tc l1 h1 λc h2=>(c=true->wD e l1 h2 λy h3=>J (i+1) (acc++[y]) h3)/\(c=false->J (i+1) acc h2)) /\
  ∀ acc h,J ds.length acc h->Q (.ref h.length) (h++[.lst acc])):wD (Bp mi cs g tc e) loc mh Q:=by
 obtain ⟨src,h0,e0,ds,J,hz,j0,keep,small,step,fin⟩:=h;have el:(src.items h0).length=ds.length:=by rw [(keep _ _ _ j0).2]
 obtain ⟨acc,h',e',p⟩:=V1 J keep hz small step fin ds.length 0 [] h0 (by omega) j0;refine ⟨.ref h'.length,h'++[.lst acc],?_,p⟩;unfold Bp;rw [e0];dsimp only;rw [el,e']
end
noncomputable def bZ (P:D->MH->Prop) (f:Fl) (_:DL.Loc) (h:MH):Prop:=match f with
 | .rt d=>P d h
 | .nx=>P .non h
 | _=>False
theorem Af {G:Gb}{n:Nat}{I:FnI}{b:SM}{ds:List D}{mh:MH}{np m:Nat}{P:D->MH->Prop}(hb:iSs G n { N:=I.N,scope:=I.scope,own:=λ_=>true } I.body=b) (hp:I.ps.length=np) (hN:I.N.length=m) (hl:ds.length=np)
  (h:wS b (ds.map some++fj (m - np) none) mh (bZ P)):wV (Ac G n I ds mh) P:=by
 obtain ⟨f,l,h',e,p⟩:=h;cases f with
 | rt d=>exact ⟨d,h',by unfold Ac;rw [if_pos (by rw [hp];exact hl),hb,hN,hl,e],p⟩
 | nx=>exact ⟨.non,h',by unfold Ac;rw [if_pos (by rw [hp];exact hl),hb,hN,hl,e],p⟩
 | bk=>exact p.elim
 | ct=>exact p.elim
section
variable {mh:MH}{P:D->MH->Prop}
theorem Ay {r:Option (D×MH)}{d:D}{h:MH}(e:r=some (d,h)) (p:P d h):wV r P:=⟨d,h,e,p⟩
theorem Js {C:Int->Int->Bool}{g:Int->Int->Int}{i j:Int}(hC:C i j=true) (h:P (.int (g i j)) mh):wV (iop C g (.int i) (.int j) mh) P:=⟨_,_,by rw [Agc,if_pos hC],h⟩
theorem tQ {i j:Int}(h:P (.int (i - j)) mh):wV (bT (.int i) (.int j) mh) P:=Js rfl h
theorem Le {i j:Int}(hj:j≠0) (h:P (.int (i.fmod j)) mh):wV (Mr (.int i) (.int j) mh) P:=Js (decide_eq_true hj) h
theorem Mt {i j:Int}(hj:j≠0) (hb:j.natAbs < 10889035741470030830827987437816582766592) (h:P (.int (i.fdiv j)) mh):wV (Mq (.int i) (.int j) mh) P:=Js (by rw [decide_eq_true hj,decide_eq_true hb];rfl) h
theorem Jt {i j:Int}(hb:(-(2 ^ 64) < i/\i < 2 ^ 64)\/(-(2 ^ 64) < j/\j < 2 ^ 64)) (h:P (.int (i * j)) mh):wV (Mp (.int i) (.int j) mh) P:=show wV (iop X4 (λi j=>i * j) (.int i) (.int j) mh) P from Js (by unfold X4;rw [wg,decide_eq_true_iff,decide_eq_true_iff];exact hb) h
theorem Kd {g:Int->Int->Bool}{i j:Int}(h:P (.bl (g i j)) mh):wV (S5 g (.int i) (.int j) mh) P:=⟨_,_,rfl,h⟩
theorem Agg {i j:Int}(h:P (.int (i+j)) mh):wV (Cp (.int i) (.int j) mh) P:=⟨_,_,rfl,h⟩
theorem Ju {i j:Int}(h:P (.bl (i==j)) mh):wV (eqD (.int i) (.int j) mh) P:=⟨_,_,rfl,h⟩
theorem cA {i j:Int}(h:P (.bl (!(i==j))) mh):wV (neD (.int i) (.int j) mh) P:=⟨_,_,rfl,h⟩
theorem Gv {x y:D}{k:Bool}(e:eqB mh x y=some k) (h:P (.bl k) mh):wV (eqD x y mh) P:=⟨_,_,by unfold eqD;rw [e],h⟩
theorem tR {x y:D}{k:Bool}(e:eqB mh x y=some k) (h:P (.bl (!k)) mh):wV (neD x y mh) P:=⟨_,_,by unfold neD;rw [e],h⟩
theorem Ab2 {x y:D}{k:Bool}(e:inB mh x y=some k):Jq y mh=none:=by
 cases q:Jq y mh with
 | none=>rfl
 | some kvs =>
  obtain ⟨n,rfl,en⟩:=Ik q;have p:py mh 60 (.ref n)=none:=by
   show (match mh[n]? with | some (.lst o)=>(match Bx (py mh 59) o with | some xs=>some (PyData.list xs) | none=>none) | _=>none)=_;rcases en with ⟨kvs,en,_⟩ | ⟨kvs,en,_⟩ <;> rw [en]
  unfold inB at e;rw [p] at e;split at e
  ·rename_i z;cases z
  ·rename_i z;cases z
  ·cases e
theorem Adg {neg:Bool}{x y:D}{k:Bool}(e:inB mh x y=some k) (h:P (.bl (if neg then !k else k)) mh):wV (inD neg x y mh) P:=⟨_,_,by unfold inD;rw [Ab2 e];dsimp only;unfold aH;rw [e],h⟩
theorem Mu {n m:Nat}{xs ys:List D}(e1:mh[n]?=some (.lst xs)) (e2:mh[m]?=some (.lst ys)) (hz:xs.length+ys.length<=1000000) (h:P (.ref mh.length) (mh++[.lst (xs++ys)])):wV (Cp (.ref n) (.ref m) mh) P:=⟨_,_,tB e1 e2 hz,h⟩
theorem Io {xs ys:List D}(hz:xs.length+ys.length<=1000000) (h:P (.tup (xs++ys)) mh):wV (Cp (.tup xs) (.tup ys) mh) P:=⟨_,_,by simp only [Cp,if_pos (le_size hz)],h⟩
theorem Bo {ds:List D}{j:Nat}{d:D}(e:ds[j]?=some d) (h:P d mh):wV (ixD (.tup ds) (.int j) mh) P:=⟨d,mh,by simp only [ixD,Jq,pP,En,U8 e],h⟩
theorem Agh {ds:List D}{j:Nat}{d:D}(e:ds[j]?=some d) (h:P d mh):wV (ixD (.rol ds) (.int j) mh) P:=⟨d,mh,by simp only [ixD,Jq,pP,En,U8 e],h⟩
theorem Hh {n:Nat}{ds:List D}{j:Nat}{d:D}(e1:mh[n]?=some (.lst ds)) (e:ds[j]?=some d) (h:P d mh):wV (ixD (.ref n) (.int j) mh) P:=⟨d,mh,by simp only [ixD,Uk e1,pP,En,e1,U8 e],h⟩
theorem Hw {n:Nat}{ds:List D}{y:D}(e:mh[n]?=some (.lst ds)) (hz:ds.length<=1000000) (h:P .non (mh.set n (.lst (ds++[y])))):wV (Eg (.ref n) [y] mh) P:=⟨_,_,bU e hz,h⟩
theorem Bj {x:D}{ds:List D}(hx:∀ z,x≠.str z) (e:En x mh=some ds) (h:P (.int ds.length) mh):wV (Dd [x] mh) P:=by
 refine ⟨_,_,?_,h⟩;cases x with
 | str z=>exact (hx z rfl).elim
 | ref n =>
  have e':(match mh[n]? with | some (.lst o)=>some o | _=>none)=some ds:=e;cases q:mh[n]? with
  | none=>rw [q] at e';cases e'
  | some o=>cases o <;> first | (rw [q] at e';cases e';done) | simp only [Dd,q,T6,e]
 | _=>simp only [Dd,T6,e]
theorem Um {x:D}{ds:List D}(e:En x mh=some ds) (h:P (.ref mh.length) (mh++[.lst ds])):wV (Xb [x] mh) P:=⟨_,_,by simp only [Xb,e],h⟩
theorem Ck {x:D}{ds:List D}(e:En x mh=some ds) (h:P (.tup ds) mh):wV (Dg [x] mh) P:=⟨_,_,by simp only [Dg,e],h⟩
theorem Yp {f:List Bool->Bool}{x:D}{bs:List Bool}(e:En x mh=some (bs.map D.bl)) (h:P (.bl (f bs)) mh):wV (Mf f [x] mh) P:=⟨_,_,by simp only [Mf,e,Oo],h⟩
end
structure Ext (W:List Nat) (a b:MH):Prop where
 len:a.length<=b.length
 old:∀ i o,i ∉ W->a[i]?=some o->b[i]?=some o
theorem Ext.refl {W:List Nat}{a:MH}:Ext W a a:=⟨bh _,λ_ _ _ e=>e⟩
theorem Ext.trans {W:List Nat}{a b c:MH}(x:Ext W a b) (y:Ext W b c):Ext W a c:=⟨dz x.len y.len,λi o h e=>y.old i o h (x.old i o h e)⟩
theorem Ext.weak {W:List Nat}{a b:MH}(x:Ext [] a b):Ext W a b:=⟨x.len,λi o _ e=>x.old i o (by simp) e⟩
theorem Ext.more {W:List Nat}{a g:MH}:Ext W a (a++g):=⟨by rw [dg];omega,λi o _ e=>by rw [ju (cg.mp e).1];exact e⟩
theorem Ext.set {n:Nat}{a:MH}{o:MO}:Ext [n] a (a.set n o):=⟨by rw [jz];exact bh _,λi o' h e=>by rw [iy (λz=>h (by simp [z]))];exact e⟩
theorem Ext.setNew {W:List Nat}{n:Nat}{a b:MH}{o:MO}(x:Ext W a b) (h:a.length<=n):Ext W a (b.set n o):=⟨by rw [jz];exact x.len,λi o' hi e=>by
 have:i < a.length:=(cg.mp e).1
 rw [iy (by omega)];exact x.old i o' hi e⟩
theorem Ak {a:MH}{o:MO}:(a++[o])[a.length]?=some o:=by rw [qm (bh _),VD];rfl
theorem Ip {a:MH}{n:Nat}{o o':MO}(h:a[n]?=some o'):(a.set n o)[n]?=some o:=by
 rw [yq];simp [(cg.mp h).1]
noncomputable def mkM (c f:Str) (ma:DM D):DM D:=ma.bnd λd=>Zr (.obj c [f] [d])
theorem Yq {a b:Str}{k:Bool}(ha:jq a=true) (hb:jq b=true) (e:(a==b)=k) (mh:MH):eqB mh (.str a) (.str b)=some k:=by
 unfold eqB;simp only [py,if_pos ha,if_pos hb,lz,e]
section
variable {loc:DL.Loc}{mh:MH}{ma:DM D}{mr:DM (List D)}{P:D->MH->Prop}
theorem Ak0 {c f:Str}(h:wD ma loc mh λd h1=>P (.obj c [f] [d]) h1):wD (mkM c f ma) loc mh P:=Bl (Az h λ_ _ q=>Aj q)
theorem tU {met:Str->Str->Option (List Str×Fn)}{m:Str}(h:wD ma loc mh λx h1=>∃ c ks ds ps g,x=.obj c ks ds/\met c m=some (ps,g)/\ks.contains m=false/\wD mr loc h1 λas h2=>wV (g (.obj c ks ds::as) h2) P):wD (Hf met m ma mr) loc mh P:=Bl (Az h λ_ h1 ⟨c,ks,ds,ps,g,e,em,hk,q⟩=>by
 subst e;show wD (match met c m with | some (_,g)=>if ks.contains m then Zb else mr.bnd λas=>Zl (g (.obj c ks ds::as)) | none=>Zb) _ _ _;rw [em];dsimp only;rw [if_neg (by rw [hk];simp)]
 exact Bl (Az q λ_ _ z=>z))
theorem Agi {T1 T2:String}{f1 f2:D->List D->MH->Option (D×MH)}(h:wD ma loc mh λx h1=>(Vk T1 x h1=true/\wD mr loc h1 λds h2=>wV (f1 x ds h2) P)\/(Vk T1 x h1=false/\Vk T2 x h1=true/\wD mr loc h1 λds h2=>wV (f2 x ds h2) P)):wD (Oq T1 f1 T2 f2 ma mr) loc mh P:=by
 obtain ⟨x,h1,e,q⟩:=h;rcases q with ⟨t,q⟩|⟨t,t2,q⟩
 ·obtain ⟨a,h',e',p⟩:=Pu (T:=T1) (f:=f1) (ma:=ma) (mr:=mr) (loc:=loc) (mh:=mh) (P:=P) ⟨x,h1,e,t,q⟩;exact ⟨a,h',by unfold Oq;rw [e];dsimp only;rw [if_pos t];exact e',p⟩
 ·obtain ⟨a,h',e',p⟩:=Pu (T:=T2) (f:=f2) (ma:=ma) (mr:=mr) (loc:=loc) (mh:=mh) (P:=P) ⟨x,h1,e,t2,q⟩;exact ⟨a,h',by unfold Oq;rw [e];dsimp only;rw [if_neg (by rw [t];simp)];exact e',p⟩
theorem Agj {a b:Str}(ha:jq a=true) (hb:jq b=true) (e:(a==b)=true) (h:P (.bl true) mh):wV (eqD (.str a) (.str b) mh) P:=Gv (Yq ha hb e mh) h
theorem Agk {a b:Str}(ha:jq a=true) (hb:jq b=true) (e:(a==b)=false) (h:P (.bl false) mh):wV (eqD (.str a) (.str b) mh) P:=Gv (Yq ha hb e mh) h
end
section
variable {loc:DL.Loc}{mh:MH}{ma:DM D}{mr:DM (List D)}{P:D->MH->Prop}
theorem Agl {neg:Bool}{x:D}{k:PyData}{n:Nat}{kvs:List (PyData×D)}(e:mh[n]?=some (.dtk kvs)) (ek:kD x=some k) (h:P (.bl (if neg then !(Hg kvs k).isSome else (Hg kvs k).isSome)) mh):wV (inD neg x (.ref n) mh) P :=
 ⟨_,_,by simp only [inD,Ul e,ek,ux],h⟩
theorem Ab3 {y:D}{k:PyData}{n:Nat}{kvs:List (PyData×D)}{d:D}(e:mh[n]?=some (.dtk kvs)) (ek:kD y=some k) (ed:Hg kvs k=some d) (h:P d mh):wV (ixD (.ref n) y mh) P :=
 ⟨_,_,by simp only [ixD,Ul e,ek,ux,ed],h⟩
end
theorem Ak1 {k:Bool}{B:Bool->Prop}(h:B k):∃ j,D.bl k=.bl j/\B j:=⟨k,rfl,h⟩
theorem Agm {i:Int}{B:Int->Prop}(h:B i):∃ j,D.int i=.int j/\B j:=⟨i,rfl,h⟩
theorem tV {p q:Prop}(h:p):((true=true)->p)/\((true=false)->q):=⟨λ_=>h,λz=>by cases z⟩
theorem Er {p q:Prop}(h:q):((false=true)->p)/\((false=false)->q):=⟨λz=>(by cases z),λ_=>h⟩
theorem Px {k:Bool}{p q:Prop}(e:k=true) (h:p):(k=true->p)/\(k=false->q):=⟨λ_=>h,λz=>by rw [e] at z;cases z⟩
theorem V2 {k:Bool}{p q:Prop}(e:k=false) (h:q):(k=true->p)/\(k=false->q):=⟨λz=>(by rw [e] at z;cases z),λ_=>h⟩
theorem Bv {k:Bool}{p q:Prop}(h1:k=true->p) (h2:k=false->q):(k=true->p)/\(k=false->q):=⟨h1,h2⟩
theorem Agn {k:Bool}{h:MH}{B:Bool->Prop}(q:B k):∃ j,pM (.bl k) h=some j/\B j:=⟨k,rfl,q⟩
theorem Ago {T t:String}{x:D}{b:Bool}{mh:MH}{P:D->MH->Prop}(e1:pU x mh=some t) (e2:Afl t T=some b) (h:P (.bl b) mh):wV (Xh T x mh) P:=⟨_,_,by unfold Xh;rw [e1];dsimp only;rw [e2],h⟩
noncomputable def Bk (l:List Nat):D:=.tup (l.map Ae)
noncomputable def simple:D->Bool
 | .int _=>true
 | .bl _=>true
 | .non=>true
 | _=>false
theorem Mw (l:List Nat):l.map Ae=(l.map λn:Nat=>(n:Int)).map D.int:=by rw [kh];rfl
theorem Ab4 (l:List Nat) (mh:MH):py mh 60 (Bk l)=some (.tuple ((l.map λn:Nat=>(n:Int)).map xq)):=by
 show (match Bx (py mh 59) (l.map Ae) with | some xs=>some (PyData.tuple xs) | none=>none)=_;rw [Mw,Hv]
noncomputable abbrev IsP (c:Nat) (p:List Nat):Prop:=p.Perm (dm c)
theorem IsP.len {c:Nat}{p:List Nat}(h:IsP c p):p.length=c:=by rw [h.length_eq,ig]
theorem IsP.nd {c:Nat}{p:List Nat}(h:IsP c p):p.Nodup:=h.nodup_iff.mpr xg
theorem IsP.lt {c:Nat}{p:List Nat}(h:IsP c p) {x:Nat}(hx:x∈p):x < c:=ir.mp (h.mem_iff.mp hx)
theorem IsP.mem {c:Nat}{p:List Nat}(h:IsP c p) {x:Nat}(hx:x < c):x∈p:=h.mem_iff.mpr (ir.mpr hx)
theorem Yr {α:Type} [DecidableEq α]:∀ {l l':List α},l.Nodup->(∀ x∈l,x∈l')->l'.length<=l.length->l.Perm l'
 | [],l',_,_,h=>by
  have:l'=[]:=zu.mp (Nat.le_zero.mp h);rw [this]
 | a::r,l',nd,sub,h=>by
  obtain ⟨na,nr⟩:=pq.mp nd;have ha:=sub a (.head _);have pe:=RB ha;refine (List.Perm.cons a (Yr nr (λx hx=>?_) ?_)).trans pe.symm
  ·rcases gb.mp (pe.mem_iff.mp (sub x (.tail _ hx))) with q|q
   ·exact absurd (q ▸ hx) na
   ·exact q
  ·have:=pe.length_eq;simp at this h;omega
theorem tW {c:Nat}{p:List Nat}(hl:p.length=c) (nd:p.Nodup) (hlt:∀ x∈p,x < c):IsP c p:=Yr nd (λx hx=>ir.mpr (hlt x hx)) (by rw [ig,hl];exact bh _)
noncomputable def aft (p q:List Nat):List Nat:=p.map λx=>(q[x]?).getD 0
noncomputable def und (p:List Nat):List Nat:=(dm p.length).map λh=>p.idxOf h
theorem Ak2 {q:List Nat}{x:Nat}(h:x < q.length):(q[x]?).getD 0=q[x]:=by rw [au h];rfl
theorem Dj {α β:Type}{f:α->β}{l:List α}(nd:l.Nodup) (inj:∀ a∈l,∀ b∈l,f a=f b->a=b):(l.map f).Nodup:=by
 induction l with
 | nil=>exact ou
 | cons a r ih =>
  obtain ⟨na,nr⟩:=pq.mp nd;rw [iu,pq];refine ⟨λhm=>?_,ih nr λx hx y hy=>inj x (.tail _ hx) y (.tail _ hy)⟩;obtain ⟨b,hb,e⟩:=di.mp hm;have:=inj b (.tail _ hb) a (.head _) e;exact na (this ▸ hb)
theorem Agp {q:List Nat}(nd:q.Nodup) {i j:Nat}(hi:i < q.length) (hj:j < q.length) (e:q[i]=q[j]):i=j:=(List.getElem_inj nd).mp e
theorem Gw (p:List Nat):(und p).length=p.length:=by unfold und;rw [ak,ig]
theorem tX {p:List Nat}{i:Nat}(h:i < p.length):((und p)[i]?).getD 0=p.idxOf i:=by
 unfold und;rw [cj,uy h];rfl
theorem V3 {c:Nat}{p:List Nat}(hp:IsP c p):IsP c (und p):=by
 refine tW (by rw [Gw,hp.len]) (Dj xg λa ha b hb e=>?_) λx hx=>?_
 ·have h1:p.idxOf a < p.length:=uf.mpr (hp.mem (by rw [← hp.len];exact ir.mp ha));have h2:p.idxOf b < p.length:=uf.mpr (hp.mem (by rw [← hp.len];exact ir.mp hb));have e1:=xu h1;have e2:=xu h2;rw [← e1,← e2];congr 1
 ·unfold und at hx;obtain ⟨y,hy,rfl⟩:=di.mp hx;rw [← hp.len];exact uf.mpr (hp.mem (by rw [← hp.len];exact ir.mp hy))
theorem Py {p:List Nat}{i:Nat}(h:i < p.length):(und p)[i]?=some (p.idxOf i):=by
 unfold und;rw [cj,uy h];rfl
theorem fL (p q:List Nat) (i:Nat):(aft p q)[i]?=(p[i]?).map λx=>(q[x]?).getD 0:=by unfold aft;rw [cj]
theorem Ab5 (p q:List Nat):(aft p q).length=p.length:=by unfold aft;rw [ak]
theorem tY {a b:List Nat}{c:Nat}(ha:a.length=c) (hb:b.length=c) (h:∀ i,i < c->a[i]?=b[i]?):a=b:=by
 apply WM;intro i;rcases MP i c with q|q
 ·exact h i q
 ·rw [GZ (by omega),GZ (by omega)]
theorem V4 {p:List Nat}(nd:p.Nodup) {i:Nat}(h:i < p.length):p.idxOf p[i]=i:=Agp nd (uf.mpr (ni h)) h (xu _)
theorem Ab6 {c:Nat}{p:List Nat}(hp:IsP c p):aft p (und p)=dm c:=by
 refine tY (c:=c) (by rw [Ab5,hp.len]) ig λi hi=>?_
 have h1:i < p.length:=by rw [hp.len];exact hi
 rw [fL,au h1,uy hi];show some (((und p)[p[i]]?).getD 0)=some i;rw [Py (by rw [hp.len];exact hp.lt (ni h1)),V4 hp.nd h1];rfl
theorem Ab7 {c:Nat}{p:List Nat}(hp:IsP c p):und (und p)=p:=by
 have hu:=V3 hp;refine tY (c:=c) (by rw [Gw,Gw,hp.len]) hp.len λi hi=>?_
 have h1:i < p.length:=by rw [hp.len];exact hi
 have h2:i < (und p).length:=by rw [hu.len];exact hi
 rw [Py h2,au h1];congr 1;have hpi:p[i] < p.length:=by rw [hp.len];exact hp.lt (ni h1)
 have h4:p[i] < (und p).length:=by rw [Gw];exact hpi
 have e2:(und p)[p[i]]=i:=by
  have:=Py hpi;rw [au h4,V4 hp.nd h1] at this;exact Option.some.inj this
 have e3:=V4 hu.nd h4;rw [e2] at e3;exact e3
noncomputable def St3 (mh:MH) (n:Nat):Prop:=∃ a b c:Int,mh[n]?=some (.lst [.int a,.int b,.int c])
theorem St3.ext {mh mh':MH}{n:Nat}{W:List Nat}(h:St3 mh n) (e:Ext W mh mh') (hn:n ∉ W):St3 mh' n:=let ⟨a,b,c,q⟩:=h;⟨a,b,c,e.old _ _ hn q⟩
mutual
noncomputable def dat:Nat->D->Bool
 | _,.int _=>true
 | _,.bl _=>true
 | _,.non=>true
 | _,.str x=>jq x
 | n+1,.tup ds=>Mx n ds
 | _,_=>false
noncomputable def Mx:Nat->List D->Bool
 | _,[]=>true
 | n,d::r=>dat n d&&Mx n r
end
mutual
theorem V5 (mh:MH):∀ (n:Nat) (d:D),dat n d=true->∃ a,py mh n d=some a/\a.canLay0=true
 | n,.int i,_=>⟨.int i,by cases n <;> rfl,rfl⟩
 | n,.bl i,_=>⟨.bool i,by cases n <;> rfl,rfl⟩
 | n,.non,_=>⟨.none,by cases n <;> rfl,rfl⟩
 | n,.str x,h=>by
  have h2:jq x=true:=by cases n <;> exact h
  exact ⟨.str x,by cases n <;> (show (if jq x=true then some (HF x) else none)=_;rw [if_pos h2]),h2⟩
 | 0,.tup ds,h=>by simp [dat] at h
 | n+1,.tup ds,h=>by
  have h:Mx n ds=true:=h;obtain ⟨as,e,l⟩:=V6 mh n ds h;exact ⟨.tuple as,by simp only [py,e],by simpa [vq] using l⟩
 | 0,.ref _,h=>by simp [dat] at h
 | _+1,.ref _,h=>by simp [dat] at h
 | 0,.rol _,h=>by simp [dat] at h
 | _+1,.rol _,h=>by simp [dat] at h
 | 0,.obj ..,h=>by simp [dat] at h
 | _+1,.obj ..,h=>by simp [dat] at h
 | 0,.fn _,h=>by simp [dat] at h
 | _+1,.fn _,h=>by simp [dat] at h
theorem V6 (mh:MH):∀ (n:Nat) (ds:List D),Mx n ds=true->∃ as,Bx (py mh n) ds=some as/\wk as=true
 | n,[],_=>⟨[],rfl,rfl⟩
 | n,d::r,h=>by
  have h:(dat n d&&Mx n r)=true:=by simpa [Mx] using h
  rw [bf] at h;obtain ⟨a,e1,l1⟩:=V5 mh n d h.1;obtain ⟨as,e2,l2⟩:=V6 mh n r h.2;exact ⟨a::as,by simp only [Bx,e1,e2],by simp only [wk,l1,l2,JS]⟩
end
theorem Fw {a b:Str}{k:Bool}(ha:jq a=true) (hb:jq b=true) (e:(a==b)=k) (mh:MH):eqB mh (.str a) (.str b)=some k:=by
 unfold eqB;simp only [py,if_pos ha,if_pos hb,lz,e]
theorem My {p:List Nat}{x:Nat}(h:x < p.length):(p.map Ae)[x]?=some (Ae ((p[x]?).getD 0)):=by rw [cj,au h];rfl
noncomputable def hv (hs:List Nat) (r:Nat):List Nat:=(dm hs.length).filter λn=>hs[n]?==some r
noncomputable def lon (hs:List Nat) (r:Nat) (p:List Nat):List (List Nat):=((hv hs r).filter λn=>!p.contains n).map λn=>p++[n]
noncomputable def K3 (hs:List Nat) (r:Nat) (found:List (List Nat)):List (List Nat):=found.flatMap (lon hs r)
noncomputable def gen (hs:List Nat):Nat->List (List Nat)
 | 0=>[[]]
 | i+1=>K3 hs ((hs[i]?).getD 0) (gen hs i)
theorem fM (hs:List Nat) (r:Nat) (p:List Nat):(lon hs r p).length<=hs.length:=by
 unfold lon hv;rw [ak];refine dz (jx _ _) (dz (jx _ _) ?_);rw [ig];exact bh _
theorem Ny (hs:List Nat) (r:Nat):∀ (l:List (List Nat)),(K3 hs r l).length<=l.length * hs.length
 | []=>jy _
 | p::l=>by
  have h1:=fM hs r p;have h2:=Ny hs r l;show (lon hs r p++K3 hs r l).length<=_;rw [dg,jj,Nat.add_mul,Nat.one_mul];omega
theorem Ys {hs:List Nat}(h:hs.length<=6):∀ (i:Nat),(gen hs i).length<=6 ^ i
 | 0=>bh _
 | i+1=>by
  refine dz (Ny hs _ _) ?_;rw [Nat.pow_succ];exact IW (Ys h i) h
theorem Agq {i:Nat}(h:i<=6):6 ^ i<=46656:=dz (za (by decide) h) (by decide)
theorem mK {hs:List Nat}(h:hs.length<=6) {i:Nat}(hi:i<=6):(gen hs i).length<=46656:=dz (Ys h i) (Agq hi)
theorem Ab8 {hs:List Nat}{r:Nat}{p q:List Nat}(h:q∈lon hs r p):∃ n,q=p++[n]:=by
 obtain ⟨n,_,rfl⟩:=di.mp h;exact ⟨n,rfl⟩
theorem fO {hs:List Nat}:∀ (i:Nat) (p:List Nat),p∈gen hs i->p.length=i
 | 0,p,h=>by rw [ao.mp h];rfl
 | i+1,p,h=>by
  obtain ⟨q,hq,hp⟩:=jg.mp h;obtain ⟨n,rfl⟩:=Ab8 hp;rw [dg,fO i q hq];rfl
theorem cB {hs:List Nat}{r:Nat}{l:List (List Nat)}{j:Nat}{p:List Nat}(h:l[j]?=some p):K3 hs r (l.take (j+1))=K3 hs r (l.take j)++lon hs r p:=by
 unfold K3;rw [ql,h];simp
theorem tZ {n:Nat}{ns:List Int}{mh:MH}{P:D->MH->Prop}(e:mh[n]?=some (.lst (ns.map D.int))) (hz:ns.length < 64) (h:P (.ref mh.length) (mh++[.lst ((sortI ns).map D.int)])):wV (Gr [.ref n] mh) P :=
 ⟨_,_,by show Gr [.ref n] mh=_;simp only [Gr,e,Gi,if_pos hz],h⟩
theorem cC (ns:List Nat):∃ hs:List Nat,(sortI (ns.map λn:Nat=>(n:Int))).map D.int=hs.map Ae/\hs.length=ns.length/\∀ x∈hs,x∈ns:=by
 refine ⟨(sortI (ns.map λn:Nat=>(n:Int))).map Int.toNat,?_,?_,?_⟩
 ·rw [kh];apply zq;intro x hx;have:=(sortI_perm _).mem_iff.mp hx;obtain ⟨n,_,rfl⟩:=di.mp this;simp [Ae]
 ·rw [ak,(sortI_perm _).length_eq,ak]
 ·intro x hx;obtain ⟨y,hy,rfl⟩:=di.mp hx;have:=(sortI_perm _).mem_iff.mp hy;obtain ⟨n,hn,rfl⟩:=di.mp this
  simpa using hn
theorem any_ints (x:Nat):∀ (p:List Nat),(((p.map λn:Nat=>(n:Int)).map xq).any λy=>lz y (.int x))=p.contains x
 | []=>rfl
 | a::r=>by
  rw [iu,iu,zx,any_ints x r,UW];congr 1;show (((a:Nat):Int)==((x:Nat):Int))=(x==a);rw [qb,beq_iff_eq,beq_iff_eq];omega
theorem uD (x:Nat) (p:List Nat) (mh:MH):inB mh (.int x) (Bk p)=some (p.contains x):=by
 unfold inB;rw [Ab4];show some (((p.map λn:Nat=>(n:Int)).map xq).any λy=>lz y (.int x))=_;rw [any_ints]
theorem mL {n m:Nat}{xs ys:List D}{mh:MH}{P:D->MH->Prop}(e1:mh[n]?=some (.lst xs)) (e2:mh[m]?=some (.lst ys)) (hz:xs.length+ys.length<=1000000) (h:P .non (mh.set n (.lst (xs++ys)))):wV (J6 (.ref n) [.ref m] mh) P :=
 ⟨_,_,by simp only [J6,e1,e2,if_pos (le_size hz)],h⟩
theorem ty_list {a:Nat}{ds:List D}{mh:MH}(e:mh[a]?=some (.lst ds)):Vk "list" (.ref a) mh=true:=by
 show (true&&(match mh[a]? with | some (.lst _)=>true | _=>false))=true;rw [e];rfl
theorem src_list {a:Nat}{ds:List D}{mh:MH}(e:mh[a]?=some (.lst ds)):srcOf (.ref a) mh=some (.lref a):=by
 show (match mh[a]? with | some (.lst _)=>some (Src.lref a) | _=>none)=_;rw [e]
theorem Dk {a:Nat}{ds:List D}{mh:MH}(e:mh[a]?=some (.lst ds)):(Src.lref a).ok mh=true/\(Src.lref a).items mh=ds:=by
 refine ⟨?_,?_⟩
 ·show (match mh[a]? with | some (.lst _)=>true | _=>false)=true;rw [e]
 ·show (match mh[a]? with | some (.lst o)=>o | _=>[])=_;rw [e]
end DL
namespace Lw
open PySem L2 DL
noncomputable def top (i:Nat):Stmt:=PySem.Challenge.pw_letterall_k41_whole_renamed_worlds_move.main.body.getD i (.Pass ⟨0,0,0,0⟩)
noncomputable def Yt (s:Stmt) (j:Nat):Stmt:=match s with
 | .ClassDef _ _ _ b _ _ _ _ _ _ _=>b.getD j (.Pass ⟨0,0,0,0⟩)
 | _=>.Pass ⟨0,0,0,0⟩
noncomputable def f2:FnI:=Bd (top 2)
noncomputable def f3:FnI:=Bd (top 3)
noncomputable def f4:FnI:=Bd (top 4)
noncomputable def f5:FnI:=Bd (top 5)
noncomputable def f18:FnI:=Bd (top 18)
noncomputable def f19:FnI:=Bd (top 19)
noncomputable def f20:FnI:=Bd (top 20)
noncomputable def f21:FnI:=Bd (top 21)
noncomputable def f22:FnI:=Bd (top 22)
noncomputable def f23:FnI:=Bd (top 23)
noncomputable def f24:FnI:=Bd (top 24)
noncomputable def f25:FnI:=Bd (top 25)
noncomputable def f26:FnI:=Bd (top 26)
noncomputable def f28:FnI:=Bd (top 28)
noncomputable def f29:FnI:=Bd (top 29)
noncomputable def f30:FnI:=Bd (top 30)
noncomputable def f31:FnI:=Bd (top 31)
noncomputable def f39:FnI:=Bd (top 39)
noncomputable def f40:FnI:=Bd (top 40)
noncomputable def f41:FnI:=Bd (top 41)
noncomputable def f43:FnI:=Bd (top 43)
noncomputable def f44:FnI:=Bd (top 44)
noncomputable def f45:FnI:=Bd (top 45)
noncomputable def f50:FnI:=Bd (top 50)
noncomputable def f51:FnI:=Bd (top 51)
noncomputable def f52:FnI:=Bd (top 52)
noncomputable def f53:FnI:=Bd (top 53)
noncomputable def f54:FnI:=Bd (top 54)
noncomputable def f55:FnI:=Bd (top 55)
noncomputable def f57:FnI:=Bd (top 57)
noncomputable def f58:FnI:=Bd (top 58)
noncomputable def f59:FnI:=Bd (top 59)
noncomputable def f60:FnI:=Bd (top 60)
noncomputable def f61:FnI:=Bd (top 61)
noncomputable def f62:FnI:=Bd (top 62)
noncomputable def f63:FnI:=Bd (top 63)
noncomputable def f64:FnI:=Bd (top 64)
noncomputable def f65:FnI:=Bd (top 65)
noncomputable def f68:FnI:=Bd (top 68)
noncomputable def f69:FnI:=Bd (top 69)
noncomputable def f70:FnI:=Bd (top 70)
noncomputable def f71:FnI:=Bd (top 71)
noncomputable def f72:FnI:=Bd (top 72)
noncomputable def f73:FnI:=Bd (top 73)
noncomputable def f74:FnI:=Bd (top 74)
noncomputable def f79:FnI:=Bd (top 79)
noncomputable def f80:FnI:=Bd (top 80)
noncomputable def f81:FnI:=Bd (top 81)
noncomputable def f82:FnI:=Bd (top 82)
noncomputable def f83:FnI:=Bd (top 83)
noncomputable def f84:FnI:=Bd (top 84)
noncomputable def f85:FnI:=Bd (top 85)
noncomputable def f86:FnI:=Bd (top 86)
noncomputable def f87:FnI:=Bd (top 87)
noncomputable def f89:FnI:=Bd (top 89)
noncomputable def f90:FnI:=Bd (top 90)
noncomputable def f91:FnI:=Bd (top 91)
noncomputable def f92:FnI:=Bd (top 92)
noncomputable def f93:FnI:=Bd (top 93)
noncomputable def f94:FnI:=Bd (top 94)
noncomputable def f95:FnI:=Bd (top 95)
noncomputable def f96:FnI:=Bd (top 96)
noncomputable def f97:FnI:=Bd (top 97)
noncomputable def f98:FnI:=Bd (top 98)
noncomputable def O8:FnI:=Bd (top 100)
noncomputable def mO:FnI:=Bd (top 101)
noncomputable def Dz:FnI:=Bd (top 102)
noncomputable def uE:FnI:=Bd (top 103)
noncomputable def uF:FnI:=Bd (top 104)
noncomputable def uG:FnI:=Bd (top 105)
noncomputable def uH:FnI:=Bd (top 106)
noncomputable def mQ:FnI:=Bd (top 107)
noncomputable abbrev Rr:Stmt:=Yt (top 33) 1
noncomputable def fP:FnI:=Bd Rr
noncomputable def uI:List (Str×Stmt):=("has",top 2)::("members",top 3)::("set_of",top 4)::("many",top 5)::("blank",top 18)::("has_fallen",top 19)::("replaced",top 20)::("with_number",top 21)::("with_name",top 22)::("with_set",top 23)::("with_bell",top 24)::("at_place",top 25)::("moved_on",top 26)::("is_whole",top 28)::("is_between",top 29)::("is_tuple_of",top 30)::("are_between",top 31)::("hands_of",top 39)::("length_of",top 40)::("step_at",top 41)::("undone",top 43)::("is_renaming",top 44)::("keeping",top 45)::("first",top 50)::("all_hands",top 51)::("part",top 52)::("row",top 53)::("with_part",top 54)::("with_row",top 55)::("renamed",top 57)::("new_name",top 58)::("renamed_part",top 59)::("renamed_set",top 60)::("renamed_rows",top 61)::("renamed_letters",top 62)::("renamed_move",top 63)::("hands_in",top 64)::("renamed_choice",top 65)::("step_now",top 68)::("others_of",top 69)::("choices_of",top 70)::("out_choices",top 71)::("may_send",top 72)::("take_choices",top 73)::("senders",top 74)::("after_step",top 79)::("after_quiet",top 80)::("reckoned",top 81)::("named",top 82)::("gathered",top 83)::("goes_there",top 84)::("after_out",top 85)::("after_send",top 86)::("after_take",top 87)::("moves",top 89)::("losses",top 90)::("falls",top 91)::("do",top 92)::("after_move",top 93)::("may_be_made",top 94)::("is_move",top 95)::("is_choice",top 96)::("after_loss",top 97)::("after_fall",top 98)::("_law_cell_at",top 100)::("_law_mixed",top 101)::("_law_digit",top 102)::("_law_named_step",top 103)::("_law_step",top 104)::("_law_program",top 105)::("_law_alike",top 106)::("law",top 107)::[]
noncomputable def tb (x:Str):Option FnI:=(uI.lookup x).map Bd
theorem uJ:sH uI:=⟨Aw ⟨rfl,rfl,rfl,by decide +kernel,by decide +kernel,by decide +kernel,by decide +kernel⟩ λ_ _ _ _ _ _=>ln2 λ_ _=>rfl,Aw ⟨rfl,rfl,rfl,by decide +kernel,by decide +kernel,by decide +kernel,by decide +kernel⟩ λ_ _ _ _ _ _=>ln1 λ_=>rfl,Aw ⟨rfl,rfl,rfl,by decide +kernel,by decide +kernel,by decide +kernel,by decide +kernel⟩ λ_ _ _ _ _ _=>ln1 λ_=>rfl,Aw ⟨rfl,rfl,rfl,by decide +kernel,by decide +kernel,by decide +kernel,by decide +kernel⟩ λ_ _ _ _ _ _=>ln1 λ_=>rfl,Aw ⟨rfl,rfl,rfl,by decide +kernel,by decide +kernel,by decide +kernel,by decide +kernel⟩ λ_ _ _ _ _ _=>ln1 λ_=>rfl,Aw ⟨rfl,rfl,rfl,by decide +kernel,by decide +kernel,by decide +kernel,by decide +kernel⟩ λ_ _ _ _ _ _=>ln1 λ_=>rfl,Aw ⟨rfl,rfl,rfl,by decide +kernel,by decide +kernel,by decide +kernel,by decide +kernel⟩ λ_ _ _ _ _ _=>ln3 λ_ _ _=>rfl,Aw ⟨rfl,rfl,rfl,by decide +kernel,by decide +kernel,by decide +kernel,by decide +kernel⟩ λ_ _ _ _ _ _=>ln3 λ_ _ _=>rfl,Aw ⟨rfl,rfl,rfl,by decide +kernel,by decide +kernel,by decide +kernel,by decide +kernel⟩ λ_ _ _ _ _ _=>ln3 λ_ _ _=>rfl,Aw ⟨rfl,rfl,rfl,by decide +kernel,by decide +kernel,by decide +kernel,by decide +kernel⟩ λ_ _ _ _ _ _=>ln3 λ_ _ _=>rfl,Aw ⟨rfl,rfl,rfl,by decide +kernel,by decide +kernel,by decide +kernel,by decide +kernel⟩ λ_ _ _ _ _ _=>ln2 λ_ _=>rfl,Aw ⟨rfl,rfl,rfl,by decide +kernel,by decide +kernel,by decide +kernel,by decide +kernel⟩ λ_ _ _ _ _ _=>ln2 λ_ _=>rfl,Aw ⟨rfl,rfl,rfl,by decide +kernel,by decide +kernel,by decide +kernel,by decide +kernel⟩ λ_ _ _ _ _ _=>ln1 λ_=>rfl,Aw ⟨rfl,rfl,rfl,by decide +kernel,by decide +kernel,by decide +kernel,by decide +kernel⟩ λ_ _ _ _ _ _=>ln1 λ_=>rfl,Aw ⟨rfl,rfl,rfl,by decide +kernel,by decide +kernel,by decide +kernel,by decide +kernel⟩ λ_ _ _ _ _ _=>ln3 λ_ _ _=>rfl,Aw ⟨rfl,rfl,rfl,by decide +kernel,by decide +kernel,by decide +kernel,by decide +kernel⟩ λ_ _ _ _ _ _=>ln2 λ_ _=>rfl,Aw ⟨rfl,rfl,rfl,by decide +kernel,by decide +kernel,by decide +kernel,by decide +kernel⟩ λ_ _ _ _ _ _=>ln4 λ_ _ _ _=>rfl,Aw ⟨rfl,rfl,rfl,by decide +kernel,by decide +kernel,by decide +kernel,by decide +kernel⟩ λ_ _ _ _ _ _=>ln2 λ_ _=>rfl,Aw ⟨rfl,rfl,rfl,by decide +kernel,by decide +kernel,by decide +kernel,by decide +kernel⟩ λ_ _ _ _ _ _=>ln2 λ_ _=>rfl,Aw ⟨rfl,rfl,rfl,by decide +kernel,by decide +kernel,by decide +kernel,by decide +kernel⟩ λ_ _ _ _ _ _=>ln3 λ_ _ _=>rfl,Aw ⟨rfl,rfl,rfl,by decide +kernel,by decide +kernel,by decide +kernel,by decide +kernel⟩ λ_ _ _ _ _ _=>ln1 λ_=>rfl,Aw ⟨rfl,rfl,rfl,by decide +kernel,by decide +kernel,by decide +kernel,by decide +kernel⟩ λ_ _ _ _ _ _=>ln2 λ_ _=>rfl,Aw ⟨rfl,rfl,rfl,by decide +kernel,by decide +kernel,by decide +kernel,by decide +kernel⟩ λ_ _ _ _ _ _=>ln1 λ_=>rfl,Aw ⟨rfl,rfl,rfl,by decide +kernel,by decide +kernel,by decide +kernel,by decide +kernel⟩ λ_ _ _ _ _ _=>ln1 λ_=>rfl,Aw ⟨rfl,rfl,rfl,by decide +kernel,by decide +kernel,by decide +kernel,by decide +kernel⟩ λ_ _ _ _ _ _=>ln1 λ_=>rfl,Aw ⟨rfl,rfl,rfl,by decide +kernel,by decide +kernel,by decide +kernel,by decide +kernel⟩ λ_ _ _ _ _ _=>ln2 λ_ _=>rfl,Aw ⟨rfl,rfl,rfl,by decide +kernel,by decide +kernel,by decide +kernel,by decide +kernel⟩ λ_ _ _ _ _ _=>ln3 λ_ _ _=>rfl,Aw ⟨rfl,rfl,rfl,by decide +kernel,by decide +kernel,by decide +kernel,by decide +kernel⟩ λ_ _ _ _ _ _=>ln3 λ_ _ _=>rfl,Aw ⟨rfl,rfl,rfl,by decide +kernel,by decide +kernel,by decide +kernel,by decide +kernel⟩ λ_ _ _ _ _ _=>ln4 λ_ _ _ _=>rfl,Aw ⟨rfl,rfl,rfl,by decide +kernel,by decide +kernel,by decide +kernel,by decide +kernel⟩ λ_ _ _ _ _ _=>ln2 λ_ _=>rfl,Aw ⟨rfl,rfl,rfl,by decide +kernel,by decide +kernel,by decide +kernel,by decide +kernel⟩ λ_ _ _ _ _ _=>ln2 λ_ _=>rfl,Aw ⟨rfl,rfl,rfl,by decide +kernel,by decide +kernel,by decide +kernel,by decide +kernel⟩ λ_ _ _ _ _ _=>ln2 λ_ _=>rfl,Aw ⟨rfl,rfl,rfl,by decide +kernel,by decide +kernel,by decide +kernel,by decide +kernel⟩ λ_ _ _ _ _ _=>ln2 λ_ _=>rfl,Aw ⟨rfl,rfl,rfl,by decide +kernel,by decide +kernel,by decide +kernel,by decide +kernel⟩ λ_ _ _ _ _ _=>ln3 λ_ _ _=>rfl,Aw ⟨rfl,rfl,rfl,by decide +kernel,by decide +kernel,by decide +kernel,by decide +kernel⟩ λ_ _ _ _ _ _=>ln2 λ_ _=>rfl,Aw ⟨rfl,rfl,rfl,by decide +kernel,by decide +kernel,by decide +kernel,by decide +kernel⟩ λ_ _ _ _ _ _=>ln2 λ_ _=>rfl,Aw ⟨rfl,rfl,rfl,by decide +kernel,by decide +kernel,by decide +kernel,by decide +kernel⟩ λ_ _ _ _ _ _=>ln1 λ_=>rfl,Aw ⟨rfl,rfl,rfl,by decide +kernel,by decide +kernel,by decide +kernel,by decide +kernel⟩ λ_ _ _ _ _ _=>ln2 λ_ _=>rfl,Aw ⟨rfl,rfl,rfl,by decide +kernel,by decide +kernel,by decide +kernel,by decide +kernel⟩ λ_ _ _ _ _ _=>ln3 λ_ _ _=>rfl,Aw ⟨rfl,rfl,rfl,by decide +kernel,by decide +kernel,by decide +kernel,by decide +kernel⟩ λ_ _ _ _ _ _=>ln3 λ_ _ _=>rfl,Aw ⟨rfl,rfl,rfl,by decide +kernel,by decide +kernel,by decide +kernel,by decide +kernel⟩ λ_ _ _ _ _ _=>ln3 λ_ _ _=>rfl,Aw ⟨rfl,rfl,rfl,by decide +kernel,by decide +kernel,by decide +kernel,by decide +kernel⟩ λ_ _ _ _ _ _=>ln1 λ_=>rfl,Aw ⟨rfl,rfl,rfl,by decide +kernel,by decide +kernel,by decide +kernel,by decide +kernel⟩ λ_ _ _ _ _ _=>ln4 λ_ _ _ _=>rfl,Aw ⟨rfl,rfl,rfl,by decide +kernel,by decide +kernel,by decide +kernel,by decide +kernel⟩ λ_ _ _ _ _ _=>ln3 λ_ _ _=>rfl,Aw ⟨rfl,rfl,rfl,by decide +kernel,by decide +kernel,by decide +kernel,by decide +kernel⟩ λ_ _ _ _ _ _=>ln3 λ_ _ _=>rfl,Aw ⟨rfl,rfl,rfl,by decide +kernel,by decide +kernel,by decide +kernel,by decide +kernel⟩ λ_ _ _ _ _ _=>ln5 λ_ _ _ _ _=>rfl,Aw ⟨rfl,rfl,rfl,by decide +kernel,by decide +kernel,by decide +kernel,by decide +kernel⟩ λ_ _ _ _ _ _=>ln5 λ_ _ _ _ _=>rfl,Aw ⟨rfl,rfl,rfl,by decide +kernel,by decide +kernel,by decide +kernel,by decide +kernel⟩ λ_ _ _ _ _ _=>ln3 λ_ _ _=>rfl,Aw ⟨rfl,rfl,rfl,by decide +kernel,by decide +kernel,by decide +kernel,by decide +kernel⟩ λ_ _ _ _ _ _=>ln4 λ_ _ _ _=>rfl,Aw ⟨rfl,rfl,rfl,by decide +kernel,by decide +kernel,by decide +kernel,by decide +kernel⟩ λ_ _ _ _ _ _=>ln4 λ_ _ _ _=>rfl,Aw ⟨rfl,rfl,rfl,by decide +kernel,by decide +kernel,by decide +kernel,by decide +kernel⟩ λ_ _ _ _ _ _=>ln2 λ_ _=>rfl,Aw ⟨rfl,rfl,rfl,by decide +kernel,by decide +kernel,by decide +kernel,by decide +kernel⟩ λ_ _ _ _ _ _=>ln3 λ_ _ _=>rfl,Aw ⟨rfl,rfl,rfl,by decide +kernel,by decide +kernel,by decide +kernel,by decide +kernel⟩ λ_ _ _ _ _ _=>ln3 λ_ _ _=>rfl,Aw ⟨rfl,rfl,rfl,by decide +kernel,by decide +kernel,by decide +kernel,by decide +kernel⟩ λ_ _ _ _ _ _=>ln4 λ_ _ _ _=>rfl,Aw ⟨rfl,rfl,rfl,by decide +kernel,by decide +kernel,by decide +kernel,by decide +kernel⟩ λ_ _ _ _ _ _=>ln2 λ_ _=>rfl,Aw ⟨rfl,rfl,rfl,by decide +kernel,by decide +kernel,by decide +kernel,by decide +kernel⟩ λ_ _ _ _ _ _=>ln1 λ_=>rfl,Aw ⟨rfl,rfl,rfl,by decide +kernel,by decide +kernel,by decide +kernel,by decide +kernel⟩ λ_ _ _ _ _ _=>ln1 λ_=>rfl,Aw ⟨rfl,rfl,rfl,by decide +kernel,by decide +kernel,by decide +kernel,by decide +kernel⟩ λ_ _ _ _ _ _=>ln3 λ_ _ _=>rfl,Aw ⟨rfl,rfl,rfl,by decide +kernel,by decide +kernel,by decide +kernel,by decide +kernel⟩ λ_ _ _ _ _ _=>ln3 λ_ _ _=>rfl,Aw ⟨rfl,rfl,rfl,by decide +kernel,by decide +kernel,by decide +kernel,by decide +kernel⟩ λ_ _ _ _ _ _=>ln3 λ_ _ _=>rfl,Aw ⟨rfl,rfl,rfl,by decide +kernel,by decide +kernel,by decide +kernel,by decide +kernel⟩ λ_ _ _ _ _ _=>ln1 λ_=>rfl,Aw ⟨rfl,rfl,rfl,by decide +kernel,by decide +kernel,by decide +kernel,by decide +kernel⟩ λ_ _ _ _ _ _=>ln1 λ_=>rfl,Aw ⟨rfl,rfl,rfl,by decide +kernel,by decide +kernel,by decide +kernel,by decide +kernel⟩ λ_ _ _ _ _ _=>ln3 λ_ _ _=>rfl,Aw ⟨rfl,rfl,rfl,by decide +kernel,by decide +kernel,by decide +kernel,by decide +kernel⟩ λ_ _ _ _ _ _=>ln2 λ_ _=>rfl,Aw ⟨rfl,rfl,rfl,by decide +kernel,by decide +kernel,by decide +kernel,by decide +kernel⟩ λ_ _ _ _ _ _=>ln2 λ_ _=>rfl,Aw ⟨rfl,rfl,rfl,by decide +kernel,by decide +kernel,by decide +kernel,by decide +kernel⟩ λ_ _ _ _ _ _=>ln1 λ_=>rfl,Aw ⟨rfl,rfl,rfl,by decide +kernel,by decide +kernel,by decide +kernel,by decide +kernel⟩ λ_ _ _ _ _ _=>ln2 λ_ _=>rfl,Aw ⟨rfl,rfl,rfl,by decide +kernel,by decide +kernel,by decide +kernel,by decide +kernel⟩ λ_ _ _ _ _ _=>ln3 λ_ _ _=>rfl,Aw ⟨rfl,rfl,rfl,by decide +kernel,by decide +kernel,by decide +kernel,by decide +kernel⟩ λ_ _ _ _ _ _=>ln4 λ_ _ _ _=>rfl,Aw ⟨rfl,rfl,rfl,by decide +kernel,by decide +kernel,by decide +kernel,by decide +kernel⟩ λ_ _ _ _ _ _=>ln1 λ_=>rfl,Aw ⟨rfl,rfl,rfl,by decide +kernel,by decide +kernel,by decide +kernel,by decide +kernel⟩ λ_ _ _ _ _ _=>ln4 λ_ _ _ _=>rfl,Aw ⟨rfl,rfl,rfl,by decide +kernel,by decide +kernel,by decide +kernel,by decide +kernel⟩ λ_ _ _ _ _ _=>ln1 λ_=>rfl,trivial⟩
noncomputable def Adh:List (Str×D):=[("BELL_CHOICE",(.tup [(.int (-1)),(.int (0))])),("NUMBER_WORDS",(.tup [(.str "put"),(.str "copy"),(.str "raise"),(.str "sum"),(.str "choose")])),("NAME_WORDS",(.tup [(.str "me"),(.str "only"),(.str "pick")])),("SET_WORDS",(.tup [(.str "all"),(.str "empty"),(.str "join")])),("PLACE",(.int (0))),("NUMBERS",(.int (1))),("NAMES",(.int (2))),("SETS",(.int (3))),("BELL",(.int (4))),("NOBODY",(.int (-1))),("FALLEN",(.int (-1))),("ROOM",(.int (0))),("LEFT",(.int (1))),("ROLES",(.int (2))),("HANDS",(.int (3))),("PARTS",(.int (0))),("ROWS",(.int (1))),("LEFT_STILL",(.int (2)))]
noncomputable def con (x:Str):Option D:=Adh.lookup x
noncomputable def dic (_:Str):Option (List (Str×D)):=none
noncomputable def fld (c f:Str):Bool:=(c == "Step"&&f == "form")
noncomputable def tbm (c m:Str):Option FnI:=if c == "Step"&&m == "told" then some fP else none
noncomputable def mkr (c:Str):Option Str:=if c == "Step" then some "form" else none
noncomputable def Tt:Tb:={ tb:=tb,con:=con,dic:=dic,fld:=fld,tbm:=tbm,mkr:=mkr }
theorem Agr:FnScope fP.N fP.ps (Bc Rr):=⟨rfl,rfl,rfl,by decide +kernel,by decide +kernel,by decide +kernel,by decide +kernel⟩
theorem Adi:f2.ps.length=2/\f2.N.length=2:=by decide +kernel
theorem Adj:f3.ps.length=1/\f3.N.length=1:=by decide +kernel
theorem fQ:f4.ps.length=1/\f4.N.length=3:=by decide +kernel
theorem Adk:f5.ps.length=1/\f5.N.length=1:=by decide +kernel
theorem uK:f19.ps.length=1/\f19.N.length=1:=by decide +kernel
theorem uL:f20.ps.length=3/\f20.N.length=3:=by decide +kernel
theorem uM:f28.ps.length=1/\f28.N.length=1:=by decide +kernel
theorem uN:f29.ps.length=3/\f29.N.length=3:=by decide +kernel
theorem uO:f30.ps.length=2/\f30.N.length=2:=by decide +kernel
theorem uP:f31.ps.length=4/\f31.N.length=4:=by decide +kernel
theorem V7:f39.ps.length=2/\f39.N.length=2:=by decide +kernel
theorem uQ:f40.ps.length=2/\f40.N.length=2:=by decide +kernel
theorem uR:f41.ps.length=3/\f41.N.length=3:=by decide +kernel
theorem uT:f43.ps.length=1/\f43.N.length=1:=by decide +kernel
theorem uU:f44.ps.length=2/\f44.N.length=2:=by decide +kernel
theorem uV:f45.ps.length=1/\f45.N.length=5:=by decide +kernel
theorem uW:f50.ps.length=1/\f50.N.length=2:=by decide +kernel
theorem V8:f51.ps.length=1/\f51.N.length=1:=by decide +kernel
theorem uX:f52.ps.length=2/\f52.N.length=2:=by decide +kernel
theorem uY:f53.ps.length=3/\f53.N.length=3:=by decide +kernel
theorem uZ:f54.ps.length=3/\f54.N.length=3:=by decide +kernel
theorem vA:f55.ps.length=4/\f55.N.length=4:=by decide +kernel
theorem vB:f57.ps.length=2/\f57.N.length=5:=by decide +kernel
theorem vC:f58.ps.length=2/\f58.N.length=2:=by decide +kernel
theorem vD:f59.ps.length=2/\f59.N.length=4:=by decide +kernel
theorem vG:f60.ps.length=2/\f60.N.length=2:=by decide +kernel
theorem vH:f61.ps.length=3/\f61.N.length=3:=by decide +kernel
theorem vI:f62.ps.length=2/\f62.N.length=2:=by decide +kernel
theorem vJ:f63.ps.length=2/\f63.N.length=2:=by decide +kernel
theorem vK:f64.ps.length=1/\f64.N.length=1:=by decide +kernel
theorem vL:f65.ps.length=2/\f65.N.length=2:=by decide +kernel
theorem vM:f68.ps.length=3/\f68.N.length=3:=by decide +kernel
theorem vN:f69.ps.length=3/\f69.N.length=3:=by decide +kernel
theorem vO:f70.ps.length=3/\f70.N.length=5:=by decide +kernel
theorem vP:f71.ps.length=1/\f71.N.length=1:=by decide +kernel
theorem vQ:f72.ps.length=4/\f72.N.length=5:=by decide +kernel
theorem vR:f73.ps.length=3/\f73.N.length=7:=by decide +kernel
theorem vU:f74.ps.length=3/\f74.N.length=4:=by decide +kernel
theorem vV:f79.ps.length=5/\f79.N.length=5:=by decide +kernel
theorem vW:f80.ps.length=5/\f80.N.length=6:=by decide +kernel
theorem Hi:f81.ps.length=3/\f81.N.length=4:=by decide +kernel
theorem Nz:f82.ps.length=4/\f82.N.length=5:=by decide +kernel
theorem N5:f83.ps.length=4/\f83.N.length=7:=by decide +kernel
theorem Hj:f84.ps.length=2/\f84.N.length=3:=by decide +kernel
theorem vX:f85.ps.length=3/\f85.N.length=5:=by decide +kernel
theorem vY:f86.ps.length=3/\f86.N.length=7:=by decide +kernel
theorem vZ:f87.ps.length=4/\f87.N.length=8:=by decide +kernel
theorem wA:f89.ps.length=2/\f89.N.length=5:=by decide +kernel
theorem wB:f90.ps.length=1/\f90.N.length=4:=by decide +kernel
theorem wC:f91.ps.length=1/\f91.N.length=1:=by decide +kernel
theorem wF:f92.ps.length=3/\f92.N.length=3:=by decide +kernel
theorem V9:f93.ps.length=3/\f93.N.length=4:=by decide +kernel
theorem wH:f94.ps.length=3/\f94.N.length=3:=by decide +kernel
theorem wI:f95.ps.length=1/\f95.N.length=1:=by decide +kernel
theorem wJ:f96.ps.length=1/\f96.N.length=1:=by decide +kernel
theorem wK:f97.ps.length=3/\f97.N.length=5:=by decide +kernel
theorem wL:f98.ps.length=2/\f98.N.length=4:=by decide +kernel
theorem fU:O8.ps.length=2/\O8.N.length=2:=by decide +kernel
theorem fV:mO.ps.length=1/\mO.N.length=1:=by decide +kernel
theorem fW:Dz.ps.length=2/\Dz.N.length=3:=by decide +kernel
theorem fX:uE.ps.length=3/\uE.N.length=9:=by decide +kernel
theorem fY:uF.ps.length=4/\uF.N.length=14:=by decide +kernel
theorem fZ:uG.ps.length=1/\uG.N.length=13:=by decide +kernel
theorem gA:uH.ps.length=4/\uH.N.length=9:=by decide +kernel
theorem gB:mQ.ps.length=1/\mQ.N.length=8:=by decide +kernel
theorem Amp {w:World}{K:W.Frag}{h:Heap}{mg:Str->Option Value}(X:K.In h) (G:h.Ns mainGlobals mg){C33:Addr}{f33_1':Addr} {od33_1 an33_1:Option Addr} {sl33_1:Array (Option Value)} {oc33_1 kV33_1 dc33_1 pm33_1 cd33_1 ct33_1:Value}{f33_0':Addr} {od33_0 an33_0:Option Addr} {sl33_0:Array (Option Value)} {oc33_0 kV33_0 dc33_0 pm33_0 cd33_0 ct33_0:Value}(rf:Yh K uI)(rb:Yk K Mj)(rc:Yi K Adh)(C33a:W.nsIn K mainGlobals "Step"=some (some (.ref C33)))(C33b:W.plainGet K C33 Str.empty=true)(C33c:W.hasDictIn K C33=true)(C33d:W.plainOver K C33=true)(C33e:W.findIn K (.ref C33) "__setattr__"=some (some (.builtin "object.__setattr__")))(C33f:W.findIn K (.ref C33) "form"=some none)(a33_1:W.findIn K (.ref C33) "told"=some (some (.ref f33_1')))(b33_1:W.isFn K (.ref f33_1')=true)(l33_1:K.lookup f33_1'=some ⟨oc33_1,od33_1,.func (W.fnOf "told" "Step.told" (Eb Rr) (Cz Rr) (Bc Rr) .none kV33_1 dc33_1 pm33_1 an33_1 cd33_1 ct33_1),sl33_1⟩)(c33_1:W.codeIn K cd33_1 "Step.told"=true)(k33_1:W.keepIn K (.ref f33_1')=true)(a33_0:W.findIn K (.ref C33) "__init__"=some (some (.ref f33_0')))(b33_0:W.isFn K (.ref f33_0')=true)(l33_0:K.lookup f33_0'=some ⟨oc33_0,od33_0,.func (W.fnOf "__init__" "Step.__init__" (Eb (Yt (top 33) 0)) (Cz (Yt (top 33) 0)) (Bc (Yt (top 33) 0)) .none kV33_0 dc33_0 pm33_0 an33_0 cd33_0 ct33_0),sl33_0⟩)(c33_0:W.codeIn K cd33_0 "Step.__init__"=true)(k33_0:W.keepIn K (.ref f33_0')=true)(C33m:W.makesIn K C33=true)(C33k:W.keepIn K (.ref C33)=true):TbOk w K mg Tt:=by
 refine ⟨λx I hx=>?_,λx d hx=>?_,λb hb=>?_,λx kvs hx=>?_,λc f hx=>?_,λc m I hx=>?_,λc f hx=>?_⟩
 ·exact fG X G rf uJ hx
 ·show rZ K mg x d;change con x=some d at hx;unfold con at hx;exact Yj X G rc hx
 ·exact Yl X G rb b hb
 ·cases hx
 ·change fld c f=true at hx;unfold fld at hx;simp only [wg,bf,beq_iff_eq] at hx;rcases hx with ⟨rfl,rfl⟩
  ·exact ⟨_,C33a,⟨C33b,C33c,C33d,C33e⟩,C33f⟩
 ·change tbm c m=some I at hx;unfold tbm at hx;split at hx
  ·rename_i e;rw [bf] at e;rw [dj e.1,dj e.2];cases hx;exact ⟨_,Rr,_,_,_,C33a,⟨C33b,C33c,C33d,C33e⟩,⟨a33_1,b33_1,k33_1⟩,(aB (st:=Rr) l33_1 c33_1 k33_1),Agr,rfl,rfl,ln1 λ_=>rfl⟩
  ·cases hx
 ·change mkr c=some f at hx;unfold mkr at hx;split at hx
  ·rename_i e;rw [dj e];cases hx;exact ⟨_,_,_,["self", "form"],C33a,⟨C33m,a33_0,b33_0,C33k⟩,W.mg_of X G C33a,.all (ln2 λ_ _=>rfl),λP w base=>Abb (aB (st:=Yt (top 33) 0) l33_0 c33_0 k33_0) ⟨rfl,rfl,rfl,by decide +kernel,by decide +kernel,by decide +kernel,by decide +kernel⟩ rfl (.inl (by decide +kernel)) (.inl (by decide +kernel)) ⟨C33b,C33c,C33d,C33e⟩ C33f (by decide) (by decide)⟩
  ·cases hx
noncomputable def Gk (k:Nat):Gb:=GkN Tt k
noncomputable abbrev Bq (I:FnI) (k:Nat):SM:=iSs (Gk (k+1)) fuel {N:=I.N,scope:=I.scope,own:=λ_=>true} I.body
noncomputable def Ak3 (k:Nat):Str->Str->Option (List Str×Fn):=λc m=>(match tbm c m with | some I=>some (I.ps,Ac (Gk k) fuel I) | none=>none)
noncomputable def b2 (k:Nat):SM :=
 (Ab (retS (dop eqD (dop Adf (dop Akv (vr 0) (vr 1)) (Zr (.int 1))) (Zr (.int 1))))
 Zn)
theorem Ak4 (k:Nat):Bq f2 k=b2 k:=by kernel_rfl
noncomputable def b3 (k:Nat):SM :=
 (Ab (retS (Ad Dg (Aa (Bp (Ls K9 (Aa (Dq "int" qI (vr 0) (Zr [])) (Zr []))) [none,none,some 0] (Ai 1) (G6 (Ad (Ac (Gk k) fuel f2) (Aa (vr 2) (Aa (vr 1) (Zr []))))) (vr 1)) (Zr []))))
 Zn)
theorem Ak5 (k:Nat):Bq f3 k=b3 k:=by kernel_rfl
noncomputable def b4 (k:Nat):SM :=
 (Ab (Aq (Zr (.int 0)) (Ai 1))
 (Ab (Hr (Cq (vr 0)) (Ai 2)
 (Ab (Aq (dop Aga (vr 1) (dop Aku (Zr (.int 1)) (vr 2))) (Ai 1))
  Zn))
 (Ab (retS (vr 1))
 Zn)))
theorem Adl (k:Nat):Bq f4 k=b4 k:=by kernel_rfl
noncomputable def b5 (k:Nat):SM :=
 (Ab (retS (Ad Dd (Aa (Ad (Ac (Gk k) fuel f3) (Aa (vr 0) (Zr []))) (Zr []))))
 Zn)
theorem Ak6 (k:Nat):Bq f5 k=b5 k:=by kernel_rfl
noncomputable def b19 (k:Nat):SM :=
 (Ab (retS (dop eqD (dop ixD (vr 0) (Zr (.int (0)))) (Zr (.int (-1)))))
 Zn)
theorem Ags (k:Nat):Bq f19 k=b19 k:=by kernel_rfl
noncomputable def b20 (k:Nat):SM :=
 (Ab (retS (dop Cp (dop Cp (dSl (vr 0) none (some (vr 1))) (Bs (Aa (vr 2) (Zr [])))) (dSl (vr 0) (some (dop Cp (vr 1) (Zr (.int 1)))) none)))
 Zn)
theorem Agt (k:Nat):Bq f20 k=b20 k:=by kernel_rfl
noncomputable def b28 (k:Nat):SM :=
 (Ab (retS (Ec (Vx "int" (vr 0)) (Akw (Vx "bool" (vr 0)))))
 Zn)
theorem Agu (k:Nat):Bq f28 k=b28 k:=by kernel_rfl
noncomputable def b29 (k:Nat):SM :=
 (Ab (retS (Ec (Ad (Ac (Gk k) fuel f28) (Aa (vr 0) (Zr []))) (G9 leD leD (vr 1) (vr 0) (vr 2))))
 Zn)
theorem Agv (k:Nat):Bq f29 k=b29 k:=by kernel_rfl
noncomputable def b30 (k:Nat):SM :=
 (Ab (retS (Ec (Vx "tuple" (vr 0)) (dop eqD (Ad Dd (Aa (vr 0) (Zr []))) (vr 1))))
 Zn)
theorem Agw (k:Nat):Bq f30 k=b30 k:=by kernel_rfl
noncomputable def b31 (k:Nat):SM :=
 (Ab (retS (Ec (Ad (Ac (Gk k) fuel f30) (Aa (vr 0) (Aa (vr 1) (Zr [])))) (Ad kW (Aa (Bp (Cq (vr 0)) [none,none,some 3,some 2] (Ai 1) (Zr true) (Ad (Ac (Gk k) fuel f29) (Aa (vr 1) (Aa (vr 3) (Aa (vr 2) (Zr [])))))) (Zr [])))))
 Zn)
theorem Agx (k:Nat):Bq f31 k=b31 k:=by kernel_rfl
noncomputable def b39 (k:Nat):SM :=
 (Ab (retS (Ad Dg (Aa (Bp (Mh (dop ixD (vr 0) (Zr (.int (3))))) [none,none,none,some 1] (T8 [1,2]) (Ah (dop eqD (vr 2) (vr 3))) (vr 1)) (Zr []))))
 Zn)
theorem wM (k:Nat):Bq f39 k=b39 k:=by kernel_rfl
noncomputable def b40 (k:Nat):SM :=
 (Ab (retS (Ad Dd (Aa (dop ixD (dop ixD (vr 0) (Zr (.int (2)))) (vr 1)) (Zr []))))
 Zn)
theorem Agy (k:Nat):Bq f40 k=b40 k:=by kernel_rfl
noncomputable def b41 (k:Nat):SM :=
 (Ab (ifS (Ah (G9 leD ltD (Zr (.int 0)) (vr 2) (Ad (Ac (Gk k) fuel f40) (Aa (vr 0) (Aa (vr 1) (Zr []))))))
 (Ab (retS (mkM "Step" "form" (dop ixD (dop ixD (dop ixD (vr 0) (Zr (.int (2)))) (vr 1)) (vr 2))))
  Zn)
 Zn)
 (Ab (retS (Zr .non))
 Zn))
theorem Agz (k:Nat):Bq f41 k=b41 k:=by kernel_rfl
noncomputable def b43 (k:Nat):SM :=
 (Ab (retS (Ad Dg (Aa (Bp (Ls K9 (Aa (Ad Dd (Aa (vr 0) (Zr []))) (Zr []))) [none,none,some 0] (Ai 1) (Zr true) (Oq "tuple" lH "list" bJ (vr 2) (Aa (vr 1) (Zr [])))) (Zr []))))
 Zn)
theorem Ag0 (k:Nat):Bq f43 k=b43 k:=by kernel_rfl
noncomputable def b44 (k:Nat):SM :=
 (Ab (retS (Ec (Ad (Ac (Gk k) fuel f31) (Aa (vr 0) (Aa (vr 1) (Aa (Zr (.int 0)) (Aa (dop bT (vr 1) (Zr (.int 1))) (Zr [])))))) (dop eqD (fD (vr 0)) (vr 1))))
 Zn)
theorem Ag1 (k:Nat):Bq f44 k=b44 k:=by kernel_rfl
noncomputable def b45 (k:Nat):SM :=
 (Ab (Aq (lstM (Aa (Bs (Zr [])) (Zr []))) (Ai 1))
 (Ab (Hr (Cq (dop ixD (vr 0) (Zr (.int (3))))) (Ai 2)
 (Ab (Aq (lstM (Zr [])) (Ai 3))
  (Ab (Hr (Cq (vr 1)) (Ai 4)
  (Ab (Jg (Dq "list" J6 (vr 3) (Aa (Bp (Cq (Ad (Ac (Gk k) fuel f39) (Aa (vr 0) (Aa (vr 2) (Zr []))))) [none,none,some 4] (Ai 1) (Ah (dop (inD true) (vr 1) (vr 2))) (dop Cp (vr 2) (Bs (Aa (vr 1) (Zr []))))) (Zr []))))
   Zn))
  (Ab (Aq (vr 3) (Ai 1))
  Zn))))
 (Ab (retS (vr 1))
 Zn)))
theorem Ag2 (k:Nat):Bq f45 k=b45 k:=by kernel_rfl
noncomputable def b50 (k:Nat):SM :=
 (Ab (Aq (Ad Dd (Aa (dop ixD (vr 0) (Zr (.int (3)))) (Zr []))) (Ai 1))
 (Ab (retS (Bs (Aa (dop Mp (Bs (Aa (Ad (Ac (Gk k) fuel f18) (Aa (Zr (.int 0)) (Zr []))) (Zr []))) (vr 1)) (Aa (dop Mp (Bs (Aa (dop Mp (Bs (Aa (Bs (Zr [])) (Zr []))) (vr 1)) (Zr []))) (vr 1)) (Aa (dop ixD (vr 0) (Zr (.int (1)))) (Zr []))))))
 Zn))
theorem Ag3 (k:Nat):Bq f50 k=b50 k:=by kernel_rfl
noncomputable def b51 (k:Nat):SM :=
 (Ab (retS (Ro (Ad Dd (Aa (dop ixD (vr 0) (Zr (.int (0)))) (Zr [])))))
 Zn)
theorem wN (k:Nat):Bq f51 k=b51 k:=by kernel_rfl
noncomputable def b52 (k:Nat):SM :=
 (Ab (retS (dop ixD (dop ixD (vr 0) (Zr (.int (0)))) (vr 1)))
 Zn)
theorem Ag4 (k:Nat):Bq f52 k=b52 k:=by kernel_rfl
noncomputable def b53 (k:Nat):SM :=
 (Ab (retS (dop ixD (dop ixD (dop ixD (vr 0) (Zr (.int (1)))) (vr 2)) (vr 1)))
 Zn)
theorem Ag5 (k:Nat):Bq f53 k=b53 k:=by kernel_rfl
noncomputable def b54 (k:Nat):SM :=
 (Ab (retS (Ad (Ac (Gk k) fuel f20) (Aa (vr 0) (Aa (Zr (.int (0))) (Aa (Ad (Ac (Gk k) fuel f20) (Aa (dop ixD (vr 0) (Zr (.int (0)))) (Aa (vr 1) (Aa (vr 2) (Zr []))))) (Zr []))))))
 Zn)
theorem Ag6 (k:Nat):Bq f54 k=b54 k:=by kernel_rfl
noncomputable def b55 (k:Nat):SM :=
 (Ab (retS (Ad (Ac (Gk k) fuel f20) (Aa (vr 0) (Aa (Zr (.int (1))) (Aa (Ad (Ac (Gk k) fuel f20) (Aa (dop ixD (vr 0) (Zr (.int (1)))) (Aa (vr 2) (Aa (Ad (Ac (Gk k) fuel f20) (Aa (dop ixD (dop ixD (vr 0) (Zr (.int (1)))) (vr 2)) (Aa (vr 1) (Aa (vr 3) (Zr []))))) (Zr []))))) (Zr []))))))
 Zn)
theorem Ag7 (k:Nat):Bq f55 k=b55 k:=by kernel_rfl
noncomputable def b57 (k:Nat):SM :=
 (Ab (ifS (Hq (G6 (Ad (Ac (Gk k) fuel f44) (Aa (vr 1) (Aa (Ad Dd (Aa (dop ixD (vr 0) (Zr (.int (0)))) (Zr []))) (Zr []))))))
 (Ab SM.bad
  Zn)
 Zn)
 (Ab (Aq (Ad (Ac (Gk k) fuel f43) (Aa (vr 1) (Zr []))) (Ai 2))
 (Ab (Aq (Ad Dg (Aa (Bp (Cq (vr 2)) [none,none,some 1,some 0] (Ai 1) (Zr true) (Ad (Ac (Gk k) fuel f59) (Aa (Ad (Ac (Gk k) fuel f52) (Aa (vr 3) (Aa (vr 1) (Zr [])))) (Aa (vr 2) (Zr []))))) (Zr []))) (Ai 3))
 (Ab (Aq (Ad Dg (Aa (Bp (Cq (vr 2)) [none,none,some 2,some 1,some 0] (Ai 1) (Zr true) (Ad (Ac (Gk k) fuel f61) (Aa (dop ixD (dop ixD (vr 4) (Zr (.int (1)))) (vr 1)) (Aa (vr 3) (Aa (vr 2) (Zr [])))))) (Zr []))) (Ai 4))
 (Ab (retS (Bs (Aa (vr 3) (Aa (vr 4) (Aa (dop ixD (vr 0) (Zr (.int (2)))) (Zr []))))))
 Zn)))))
theorem Ag8 (k:Nat):Bq f57 k=b57 k:=by kernel_rfl
noncomputable def b58 (k:Nat):SM :=
 (Ab (retS (dIf (Ah (dop eqD (vr 0) (Zr (.int (-1))))) (vr 0) (dop ixD (vr 1) (vr 0))))
 Zn)
theorem Ag9 (k:Nat):Bq f58 k=b58 k:=by kernel_rfl
noncomputable def b59 (k:Nat):SM :=
 (Ab (ifS (Je (Ah (dop eqD (dop ixD (vr 0) (Zr (.int (2)))) (Bs (Aa (Zr (.int (-1))) (Aa (Zr (.int (-1))) (Aa (Zr (.int (-1))) (Zr []))))))) (Ah (dop eqD (dop ixD (vr 0) (Zr (.int (3)))) (Bs (Aa (Zr (.int 0)) (Aa (Zr (.int 0)) (Zr [])))))))
 (Ab (retS (vr 0))
  Zn)
 Zn)
 (Ab (Aq (Ad Dg (Aa (Bp (Cq (dop ixD (vr 0) (Zr (.int (2))))) [none,none,some 1] (Ai 1) (Zr true) (Ad (Ac (Gk k) fuel f58) (Aa (vr 1) (Aa (vr 2) (Zr []))))) (Zr []))) (Ai 2))
 (Ab (Aq (Ad Dg (Aa (Bp (Cq (dop ixD (vr 0) (Zr (.int (3))))) [none,none,some 1] (Ai 1) (Zr true) (Ad (Ac (Gk k) fuel f60) (Aa (vr 1) (Aa (vr 2) (Zr []))))) (Zr []))) (Ai 3))
 (Ab (retS (Ad (Ac (Gk k) fuel f20) (Aa (Ad (Ac (Gk k) fuel f20) (Aa (vr 0) (Aa (Zr (.int (2))) (Aa (vr 2) (Zr []))))) (Aa (Zr (.int (3))) (Aa (vr 3) (Zr []))))))
 Zn))))
theorem Aha (k:Nat):Bq f59 k=b59 k:=by kernel_rfl
noncomputable def b60 (k:Nat):SM :=
 (Ab (retS (Ad (Ac (Gk k) fuel f4) (Aa (Bp (Cq (Ad (Ac (Gk k) fuel f3) (Aa (vr 0) (Zr [])))) [none,none,some 1] (Ai 1) (Zr true) (dop ixD (vr 2) (vr 1))) (Zr []))))
 Zn)
theorem Ahb (k:Nat):Bq f60 k=b60 k:=by kernel_rfl
noncomputable def b61 (k:Nat):SM :=
 (Ab (retS (Ad Dg (Aa (Bp (Cq (vr 2)) [none,none,some 1,some 0] (Ai 1) (Zr true) (Ad (Ac (Gk k) fuel f62) (Aa (dop ixD (vr 3) (vr 1)) (Aa (vr 2) (Zr []))))) (Zr []))))
 Zn)
theorem Ahc (k:Nat):Bq f61 k=b61 k:=by kernel_rfl
noncomputable def b62 (k:Nat):SM :=
 (Ab (retS (Ad Dg (Aa (Bp (Cq (vr 0)) [none,none,none,none,some 1] (T8 [1,2,3]) (Zr true) (Bs (Aa (vr 1) (Aa (vr 2) (Aa (Ad (Ac (Gk k) fuel f58) (Aa (vr 3) (Aa (vr 4) (Zr [])))) (Zr [])))))) (Zr []))))
 Zn)
theorem Ahd (k:Nat):Bq f62 k=b62 k:=by kernel_rfl
noncomputable def b63 (k:Nat):SM :=
 (Ab (ifS (O5 (Hq (G6 (Vx "tuple" (vr 1)))) (O5 (Hq (G6 (Ad (Ac (Gk k) fuel f44) (Aa (vr 1) (Aa (Ad Dd (Aa (vr 1) (Zr []))) (Zr [])))))) (Ah (dop geD (Ad eV (Aa (Ad (Ac (Gk k) fuel f64) (Aa (vr 0) (Zr []))) (Zr []))) (Ad Dd (Aa (vr 1) (Zr [])))))))
 (Ab SM.bad
  Zn)
 Zn)
 (Ab (ifS (Ah (dop eqD (dop ixD (vr 0) (Zr (.int 0))) (Zr (.str "do"))))
 (Ab (retS (Bs (Aa (Zr (.str "do")) (Aa (dop ixD (vr 1) (dop ixD (vr 0) (Zr (.int 1)))) (Aa (Ad (Ac (Gk k) fuel f65) (Aa (dop ixD (vr 0) (Zr (.int 2))) (Aa (vr 1) (Zr [])))) (Zr []))))))
  Zn)
 Zn)
 (Ab (retS (dop Cp (Bs (Aa (dop ixD (vr 0) (Zr (.int 0))) (Zr []))) (Ad Dg (Aa (Bp (Cq (dSl (vr 0) (some (Zr (.int 1))) none)) [none,none,some 1] (Ai 1) (Zr true) (dop ixD (vr 2) (vr 1))) (Zr [])))))
 Zn)))
theorem Ahe (k:Nat):Bq f63 k=b63 k:=by kernel_rfl
noncomputable def b64 (k:Nat):SM :=
 (Ab (ifS (Ah (dop neD (dop ixD (vr 0) (Zr (.int 0))) (Zr (.str "do"))))
 (Ab (retS (Ad Xb (Aa (dSl (vr 0) (some (Zr (.int 1))) none) (Zr []))))
  Zn)
 Zn)
 (Ab (ifS (G6 (Vx "tuple" (dop ixD (vr 0) (Zr (.int 2)))))
 (Ab (retS (lstM (Aa (dop ixD (vr 0) (Zr (.int 1))) (Aa (dop ixD (dop ixD (vr 0) (Zr (.int 2))) (Zr (.int 0))) (Zr [])))))
  Zn)
 Zn)
 (Ab (retS (lstM (Aa (dop ixD (vr 0) (Zr (.int 1))) (Zr []))))
 Zn)))
theorem Ahf (k:Nat):Bq f64 k=b64 k:=by kernel_rfl
noncomputable def b65 (k:Nat):SM :=
 (Ab (ifS (G6 (Vx "tuple" (vr 0)))
 (Ab (retS (dop Cp (Bs (Aa (Ad (Ac (Gk k) fuel f58) (Aa (dop ixD (vr 0) (Zr (.int 0))) (Aa (vr 1) (Zr [])))) (Zr []))) (dSl (vr 0) (some (Zr (.int 1))) none)))
  Zn)
 Zn)
 (Ab (retS (vr 0))
 Zn))
theorem Ahg (k:Nat):Bq f65 k=b65 k:=by kernel_rfl
noncomputable def b68 (k:Nat):SM :=
 (Ab (retS (Ad (Ac (Gk k) fuel f41) (Aa (vr 0) (Aa (dop ixD (dop ixD (vr 0) (Zr (.int (3)))) (vr 2)) (Aa (dop ixD (Ad (Ac (Gk k) fuel f52) (Aa (vr 1) (Aa (vr 2) (Zr [])))) (Zr (.int (0)))) (Zr []))))))
 Zn)
theorem Ahh (k:Nat):Bq f68 k=b68 k:=by kernel_rfl
noncomputable def b69 (k:Nat):SM :=
 (Ab (retS (Bp (Cq (Ad (Ac (Gk k) fuel f39) (Aa (vr 0) (Aa (vr 1) (Zr []))))) [none,none,some 2] (Ai 1) (Ah (dop neD (vr 1) (vr 2))) (vr 1)))
 Zn)
theorem Ahi (k:Nat):Bq f69 k=b69 k:=by kernel_rfl
noncomputable def b70 (k:Nat):SM :=
 (Ab (Aq (Ad (Ac (Gk k) fuel f68) (Aa (vr 0) (Aa (vr 1) (Aa (vr 2) (Zr []))))) (Ai 3))
 (Ab (ifS (Ah (dop (isD false) (vr 3) (Zr .non)))
 (Ab (retS (lstM (Zr [])))
  Zn)
 Zn)
 (Ab (Aq (Hf (Ak3 k) "told" (vr 3) (Zr [])) (Ai 4))
 (Ab (ifS (Ah (dop eqD (dop ixD (vr 4) (Zr (.int 0))) (Zr (.str "choose"))))
 (Ab (retS (Ro (dop ixD (vr 4) (Zr (.int 2)))))
  Zn)
 Zn)
 (Ab (ifS (Ah (dop eqD (dop ixD (vr 4) (Zr (.int 0))) (Zr (.str "pick"))))
 (Ab (retS (Bp (Cq (Ad (Ac (Gk k) fuel f69) (Aa (vr 0) (Aa (dop ixD (vr 4) (Zr (.int 2))) (Aa (vr 2) (Zr [])))))) [none,none] (Ai 1) (Zr true) (Bs (Aa (vr 1) (Zr [])))))
  Zn)
 Zn)
 (Ab (ifS (Ah (dop eqD (dop ixD (vr 4) (Zr (.int 0))) (Zr (.str "out"))))
 (Ab (retS (Ad (Ac (Gk k) fuel f71) (Aa (dop ixD (dop ixD (Ad (Ac (Gk k) fuel f52) (Aa (vr 1) (Aa (vr 2) (Zr [])))) (Zr (.int (3)))) (dop ixD (vr 4) (Zr (.int 2)))) (Zr []))))
  Zn)
 Zn)
 (Ab (ifS (Ah (dop eqD (dop ixD (vr 4) (Zr (.int 0))) (Zr (.str "take"))))
 (Ab (retS (Ad (Ac (Gk k) fuel f73) (Aa (vr 1) (Aa (vr 2) (Aa (vr 4) (Zr []))))))
  Zn)
 Zn)
 (Ab (ifS (Je (Ah (dop eqD (dop ixD (vr 4) (Zr (.int 0))) (Zr (.str "send")))) (Hq (G6 (Ad (Ac (Gk k) fuel f72) (Aa (vr 0) (Aa (vr 1) (Aa (vr 2) (Aa (vr 4) (Zr [])))))))))
 (Ab (retS (lstM (Zr [])))
  Zn)
 Zn)
 (Ab (retS (lstM (Aa (Zr (.int 0)) (Zr []))))
 Zn)))))))))
theorem Ahj (k:Nat):Bq f70 k=b70 k:=by kernel_rfl
noncomputable def b71 (k:Nat):SM :=
 (Ab (ifS (Ah (dop eqD (vr 0) (Zr (.int 0))))
 (Ab (retS (lstM (Aa (Zr (.int 0)) (Zr []))))
  Zn)
 Zn)
 (Ab (retS (Bp (Cq (Ad (Ac (Gk k) fuel f3) (Aa (vr 0) (Zr [])))) [none,none] (Ai 1) (Zr true) (Bs (Aa (vr 1) (Zr [])))))
 Zn))
theorem Ahk (k:Nat):Bq f71 k=b71 k:=by kernel_rfl
noncomputable def b72 (k:Nat):SM :=
 (Ab (Aq (dop ixD (dop ixD (Ad (Ac (Gk k) fuel f52) (Aa (vr 1) (Aa (vr 2) (Zr [])))) (Zr (.int (2)))) (dop ixD (vr 3) (Zr (.int 1)))) (Ai 4))
 (Ab (ifS (O5 (Ah (dop eqD (vr 4) (Zr (.int (-1))))) (G6 (Ad (Ac (Gk k) fuel f19) (Aa (Ad (Ac (Gk k) fuel f52) (Aa (vr 1) (Aa (vr 4) (Zr [])))) (Zr [])))))
 (Ab (retS (Zr (.bl true)))
  Zn)
 Zn)
 (Ab (retS (dop ltD (Ad Dd (Aa (Ad (Ac (Gk k) fuel f53) (Aa (vr 1) (Aa (vr 2) (Aa (vr 4) (Zr []))))) (Zr []))) (dop ixD (vr 0) (Zr (.int (0))))))
 Zn)))
theorem Ahl (k:Nat):Bq f72 k=b72 k:=by kernel_rfl
noncomputable def b73 (k:Nat):SM :=
 (Ab (Aq (Bp (Cq (dop ixD (vr 2) (Zr (.int 2)))) [none,none] (Ai 1) (Zr true) (dop ixD (vr 1) (Zr (.int 0)))) (Ai 3))
 (Ab (Aq (lstM (Zr [])) (Ai 4))
 (Ab (ifS (Je (Ah (dop (inD false) (Zr (.int 0)) (vr 3))) (G6 (dop ixD (Ad (Ac (Gk k) fuel f52) (Aa (vr 0) (Aa (vr 1) (Zr [])))) (Zr (.int (4))))))
 (Ab (Jg (Dq "list" Eg (vr 4) (Aa (Zr (.tup [(.int (-1)),(.int (0))])) (Zr []))))
  Zn)
 Zn)
 (Ab (Hr (Cq (Ad (Ac (Gk k) fuel f74) (Aa (vr 0) (Aa (vr 1) (Aa (dop ixD (vr 2) (Zr (.int 1))) (Zr [])))))) (Ai 5)
 (Ab (Aq (Ad (Ac (Gk k) fuel f53) (Aa (vr 0) (Aa (vr 5) (Aa (vr 1) (Zr []))))) (Ai 6))
  (Ab (ifS (Je (Ah (dop gtD (Ad Dd (Aa (vr 6) (Zr []))) (Zr (.int 0)))) (Ah (dop (inD false) (dop ixD (dop ixD (vr 6) (Zr (.int 0))) (Zr (.int 0))) (vr 3))))
  (Ab (Jg (Dq "list" Eg (vr 4) (Aa (Bs (Aa (vr 5) (Aa (dop ixD (dop ixD (vr 6) (Zr (.int 0))) (Zr (.int 0))) (Zr [])))) (Zr []))))
   Zn)
  Zn)
  Zn)))
 (Ab (retS (vr 4))
 Zn)))))
theorem Ahm (k:Nat):Bq f73 k=b73 k:=by kernel_rfl
noncomputable def b74 (k:Nat):SM :=
 (Ab (ifS (Ah (dop eqD (vr 2) (Agb (Zr (.int 1)))))
 (Ab (retS (Ad (Ac (Gk k) fuel f51) (Aa (vr 0) (Zr []))))
  Zn)
 Zn)
 (Ab (Aq (dop ixD (dop ixD (Ad (Ac (Gk k) fuel f52) (Aa (vr 0) (Aa (vr 1) (Zr [])))) (Zr (.int (2)))) (vr 2)) (Ai 3))
 (Ab (retS (dIf (Ah (dop eqD (vr 3) (Zr (.int (-1))))) (lstM (Zr [])) (lstM (Aa (vr 3) (Zr [])))))
 Zn)))
theorem Ahn (k:Nat):Bq f74 k=b74 k:=by kernel_rfl
noncomputable def b79 (k:Nat):SM :=
 (Ab (ifS (Ah (dop eqD (dop ixD (vr 3) (Zr (.int 0))) (Zr (.str "send"))))
 (Ab (retS (Ad (Ac (Gk k) fuel f86) (Aa (vr 1) (Aa (vr 2) (Aa (vr 3) (Zr []))))))
  Zn)
 Zn)
 (Ab (ifS (Ah (dop eqD (dop ixD (vr 3) (Zr (.int 0))) (Zr (.str "take"))))
 (Ab (retS (Ad (Ac (Gk k) fuel f87) (Aa (vr 1) (Aa (vr 2) (Aa (vr 3) (Aa (vr 4) (Zr [])))))))
  Zn)
 Zn)
 (Ab (retS (Ad (Ac (Gk k) fuel f54) (Aa (vr 1) (Aa (vr 2) (Aa (Ad (Ac (Gk k) fuel f80) (Aa (vr 0) (Aa (vr 2) (Aa (Ad (Ac (Gk k) fuel f52) (Aa (vr 1) (Aa (vr 2) (Zr [])))) (Aa (vr 3) (Aa (vr 4) (Zr []))))))) (Zr []))))))
 Zn)))
theorem Aho (k:Nat):Bq f79 k=b79 k:=by kernel_rfl
noncomputable def b80 (k:Nat):SM :=
 (Ab (Aq (dop ixD (vr 3) (Zr (.int 0))) (Ai 5))
 (Ab (ifS (Ah (dop (inD false) (vr 5) (Zr (.tup [(.str "put"),(.str "copy"),(.str "raise"),(.str "sum"),(.str "choose")]))))
 (Ab (retS (Ad (Ac (Gk k) fuel f26) (Aa (Ad (Ac (Gk k) fuel f21) (Aa (vr 2) (Aa (dop ixD (vr 3) (Zr (.int 1))) (Aa (Ad (Ac (Gk k) fuel f81) (Aa (dop ixD (vr 2) (Zr (.int (1)))) (Aa (vr 3) (Aa (vr 4) (Zr []))))) (Zr []))))) (Zr []))))
  Zn)
 Zn)
 (Ab (ifS (Ah (dop (inD false) (vr 5) (Zr (.tup [(.str "me"),(.str "only"),(.str "pick")]))))
 (Ab (retS (Ad (Ac (Gk k) fuel f26) (Aa (Ad (Ac (Gk k) fuel f22) (Aa (vr 2) (Aa (dop ixD (vr 3) (Zr (.int 1))) (Aa (Ad (Ac (Gk k) fuel f82) (Aa (vr 0) (Aa (vr 1) (Aa (vr 3) (Aa (vr 4) (Zr [])))))) (Zr []))))) (Zr []))))
  Zn)
 Zn)
 (Ab (ifS (Ah (dop (inD false) (vr 5) (Zr (.tup [(.str "all"),(.str "empty"),(.str "join")]))))
 (Ab (retS (Ad (Ac (Gk k) fuel f26) (Aa (Ad (Ac (Gk k) fuel f23) (Aa (vr 2) (Aa (dop ixD (vr 3) (Zr (.int 1))) (Aa (Ad (Ac (Gk k) fuel f83) (Aa (vr 0) (Aa (vr 1) (Aa (vr 2) (Aa (vr 3) (Zr [])))))) (Zr []))))) (Zr []))))
  Zn)
 Zn)
 (Ab (ifS (Ah (dop eqD (vr 5) (Zr (.str "out"))))
 (Ab (retS (Ad (Ac (Gk k) fuel f85) (Aa (vr 2) (Aa (vr 3) (Aa (vr 4) (Zr []))))))
  Zn)
 Zn)
 (Ab (ifS (Ah (dop eqD (vr 5) (Zr (.str "bell"))))
 (Ab (retS (Ad (Ac (Gk k) fuel f26) (Aa (Ad (Ac (Gk k) fuel f24) (Aa (vr 2) (Aa (Zr (.bl true)) (Zr [])))) (Zr []))))
  Zn)
 Zn)
 (Ab (ifS (G6 (Ad (Ac (Gk k) fuel f84) (Aa (vr 2) (Aa (vr 3) (Zr [])))))
 (Ab (retS (Ad (Ac (Gk k) fuel f25) (Aa (vr 2) (Aa (dop ixD (vr 3) (Agb (Zr (.int 1)))) (Zr [])))))
  Zn)
 Zn)
 (Ab (retS (Ad (Ac (Gk k) fuel f26) (Aa (vr 2) (Zr []))))
 Zn))))))))
theorem Ahp (k:Nat):Bq f80 k=b80 k:=by kernel_rfl
noncomputable def b81 (k:Nat):SM :=
 (Ab (Aq (dop ixD (vr 1) (Zr (.int 0))) (Ai 3))
 (Ab (ifS (Ah (dop eqD (vr 3) (Zr (.str "put"))))
 (Ab (retS (dop ixD (vr 1) (Zr (.int 2))))
  Zn)
 Zn)
 (Ab (ifS (Ah (dop eqD (vr 3) (Zr (.str "copy"))))
 (Ab (retS (dop ixD (vr 0) (dop ixD (vr 1) (Zr (.int 2)))))
  Zn)
 Zn)
 (Ab (ifS (Ah (dop eqD (vr 3) (Zr (.str "raise"))))
 (Ab (retS (dop Cp (dop ixD (vr 0) (dop ixD (vr 1) (Zr (.int 1)))) (dop ixD (vr 1) (Zr (.int 2)))))
  Zn)
 Zn)
 (Ab (ifS (Ah (dop eqD (vr 3) (Zr (.str "sum"))))
 (Ab (retS (dop Cp (dop ixD (vr 0) (dop ixD (vr 1) (Zr (.int 1)))) (dop ixD (vr 0) (dop ixD (vr 1) (Zr (.int 2))))))
  Zn)
 Zn)
 (Ab (retS (vr 2))
 Zn))))))
theorem Rt (k:Nat):Bq f81 k=b81 k:=by kernel_rfl
noncomputable def b82 (k:Nat):SM :=
 (Ab (Aq (dop ixD (vr 2) (Zr (.int 0))) (Ai 4))
 (Ab (ifS (Ah (dop eqD (vr 4) (Zr (.str "me"))))
 (Ab (retS (vr 1))
  Zn)
 Zn)
 (Ab (ifS (Ah (dop eqD (vr 4) (Zr (.str "only"))))
 (Ab (retS (dop ixD (Ad (Ac (Gk k) fuel f39) (Aa (vr 0) (Aa (dop ixD (vr 2) (Zr (.int 2))) (Zr [])))) (Zr (.int 0))))
  Zn)
 Zn)
 (Ab (retS (dop ixD (vr 3) (Zr (.int 0))))
 Zn))))
theorem cD (k:Nat):Bq f82 k=b82 k:=by kernel_rfl
noncomputable def b83 (k:Nat):SM :=
 (Ab (Aq (dop ixD (vr 3) (Zr (.int 0))) (Ai 4))
 (Ab (ifS (Ah (dop eqD (vr 4) (Zr (.str "all"))))
 (Ab (retS (Ad (Ac (Gk k) fuel f4) (Aa (Ad (Ac (Gk k) fuel f69) (Aa (vr 0) (Aa (dop ixD (vr 3) (Zr (.int 2))) (Aa (vr 1) (Zr []))))) (Zr []))))
  Zn)
 Zn)
 (Ab (ifS (Ah (dop eqD (vr 4) (Zr (.str "empty"))))
 (Ab (retS (Zr (.int 0)))
  Zn)
 Zn)
 (Ab (Aq (dop ixD (dop ixD (vr 2) (Zr (.int (3)))) (dop ixD (vr 3) (Zr (.int 1)))) (Ai 5))
 (Ab (Aq (dop ixD (dop ixD (vr 2) (Zr (.int (2)))) (dop ixD (vr 3) (Zr (.int 2)))) (Ai 6))
 (Ab (retS (dIf (Ah (dop eqD (vr 6) (Zr (.int (-1))))) (vr 5) (dop Aga (vr 5) (Ad (Ac (Gk k) fuel f4) (Aa (lstM (Aa (vr 6) (Zr []))) (Zr []))))))
 Zn))))))
theorem cF (k:Nat):Bq f83 k=b83 k:=by kernel_rfl
noncomputable def b84 (k:Nat):SM :=
 (Ab (Aq (dop ixD (vr 1) (Zr (.int 0))) (Ai 2))
 (Ab (ifS (Ah (dop eqD (vr 2) (Zr (.str "less"))))
 (Ab (retS (dop ltD (dop ixD (dop ixD (vr 0) (Zr (.int (1)))) (dop ixD (vr 1) (Zr (.int 1)))) (dop ixD (vr 1) (Zr (.int 2)))))
  Zn)
 Zn)
 (Ab (ifS (Ah (dop eqD (vr 2) (Zr (.str "before"))))
 (Ab (retS (dop ltD (dop ixD (dop ixD (vr 0) (Zr (.int (1)))) (dop ixD (vr 1) (Zr (.int 1)))) (dop ixD (dop ixD (vr 0) (Zr (.int (1)))) (dop ixD (vr 1) (Zr (.int 2))))))
  Zn)
 Zn)
 (Ab (ifS (Ah (dop eqD (vr 2) (Zr (.str "alike"))))
 (Ab (retS (dop eqD (dop ixD (dop ixD (vr 0) (Zr (.int (2)))) (dop ixD (vr 1) (Zr (.int 1)))) (dop ixD (dop ixD (vr 0) (Zr (.int (2)))) (dop ixD (vr 1) (Zr (.int 2))))))
  Zn)
 Zn)
 (Ab (ifS (Ah (dop eqD (vr 2) (Zr (.str "many"))))
 (Ab (retS (dop geD (Ad (Ac (Gk k) fuel f5) (Aa (dop ixD (dop ixD (vr 0) (Zr (.int (3)))) (dop ixD (vr 1) (Zr (.int 1)))) (Zr []))) (dop ixD (vr 1) (Zr (.int 2)))))
  Zn)
 Zn)
 (Ab (retS (Zr (.bl true)))
 Zn))))))
theorem Ru (k:Nat):Bq f84 k=b84 k:=by kernel_rfl
noncomputable def b85 (k:Nat):SM :=
 (Ab (Aq (dop ixD (dop ixD (vr 0) (Zr (.int (3)))) (dop ixD (vr 1) (Zr (.int 2)))) (Ai 3))
 (Ab (ifS (Ah (dop eqD (vr 3) (Zr (.int 0))))
 (Ab (retS (Ad (Ac (Gk k) fuel f25) (Aa (vr 0) (Aa (dop ixD (vr 1) (Zr (.int 3))) (Zr [])))))
  Zn)
 Zn)
 (Ab (Aq (Ad (Ac (Gk k) fuel f23) (Aa (vr 0) (Aa (dop ixD (vr 1) (Zr (.int 2))) (Aa (dop bT (vr 3) (Ad (Ac (Gk k) fuel f4) (Aa (vr 2) (Zr [])))) (Zr []))))) (Ai 4))
 (Ab (retS (Ad (Ac (Gk k) fuel f26) (Aa (Ad (Ac (Gk k) fuel f22) (Aa (vr 4) (Aa (dop ixD (vr 1) (Zr (.int 1))) (Aa (dop ixD (vr 2) (Zr (.int 0))) (Zr []))))) (Zr []))))
 Zn))))
theorem Ahq (k:Nat):Bq f85 k=b85 k:=by kernel_rfl
noncomputable def b86 (k:Nat):SM :=
 (Ab (Aq (Ad (Ac (Gk k) fuel f52) (Aa (vr 0) (Aa (vr 1) (Zr [])))) (Ai 3))
 (Ab (Aq (Ad (Ac (Gk k) fuel f54) (Aa (vr 0) (Aa (vr 1) (Aa (Ad (Ac (Gk k) fuel f26) (Aa (vr 3) (Zr []))) (Zr []))))) (Ai 4))
 (Ab (Aq (dop ixD (dop ixD (vr 3) (Zr (.int (2)))) (dop ixD (vr 2) (Zr (.int 1)))) (Ai 5))
 (Ab (ifS (O5 (Ah (dop eqD (vr 5) (Zr (.int (-1))))) (G6 (Ad (Ac (Gk k) fuel f19) (Aa (Ad (Ac (Gk k) fuel f52) (Aa (vr 0) (Aa (vr 5) (Zr [])))) (Zr [])))))
 (Ab (retS (vr 4))
  Zn)
 Zn)
 (Ab (Aq (Bs (Aa (dop ixD (vr 2) (Zr (.int 2))) (Aa (dop ixD (dop ixD (vr 3) (Zr (.int (1)))) (dop ixD (vr 2) (Zr (.int 3)))) (Aa (dop ixD (dop ixD (vr 3) (Zr (.int (2)))) (dop ixD (vr 2) (Zr (.int 4)))) (Zr []))))) (Ai 6))
 (Ab (retS (Ad (Ac (Gk k) fuel f55) (Aa (vr 4) (Aa (vr 1) (Aa (vr 5) (Aa (dop Cp (Ad (Ac (Gk k) fuel f53) (Aa (vr 0) (Aa (vr 1) (Aa (vr 5) (Zr []))))) (Bs (Aa (vr 6) (Zr [])))) (Zr [])))))))
 Zn))))))
theorem Ahr (k:Nat):Bq f86 k=b86 k:=by kernel_rfl
noncomputable def b87 (k:Nat):SM :=
 (Ab (Aq (dop ixD (Bp (Cq (dop ixD (vr 2) (Zr (.int 2)))) [none,none,some 3] (Ai 1) (Ah (dop eqD (dop ixD (vr 1) (Zr (.int 0))) (dop ixD (vr 2) (Zr (.int 1))))) (vr 1)) (Zr (.int 0))) (Ai 4))
 (Ab (Aq (Ad (Ac (Gk k) fuel f25) (Aa (Ad (Ac (Gk k) fuel f52) (Aa (vr 0) (Aa (vr 1) (Zr [])))) (Aa (dop ixD (vr 4) (Zr (.int 4))) (Zr [])))) (Ai 5))
 (Ab (ifS (Ah (dop eqD (vr 3) (Zr (.tup [(.int (-1)),(.int (0))]))))
 (Ab (retS (Ad (Ac (Gk k) fuel f54) (Aa (vr 0) (Aa (vr 1) (Aa (Ad (Ac (Gk k) fuel f24) (Aa (vr 5) (Aa (Zr (.bl false)) (Zr [])))) (Zr []))))))
  Zn)
 Zn)
 (Ab (Aq (dop ixD (vr 3) (Zr (.int 0))) (Ai 6))
 (Ab (Aq (Ad (Ac (Gk k) fuel f53) (Aa (vr 0) (Aa (vr 6) (Aa (vr 1) (Zr []))))) (Ai 7))
 (Ab (Aq (Ad (Ac (Gk k) fuel f21) (Aa (vr 5) (Aa (dop ixD (vr 4) (Zr (.int 1))) (Aa (dop ixD (dop ixD (vr 7) (Zr (.int 0))) (Zr (.int 1))) (Zr []))))) (Ai 5))
 (Ab (Aq (Ad (Ac (Gk k) fuel f22) (Aa (vr 5) (Aa (dop ixD (vr 4) (Zr (.int 2))) (Aa (dop ixD (dop ixD (vr 7) (Zr (.int 0))) (Zr (.int 2))) (Zr []))))) (Ai 5))
 (Ab (Aq (Ad (Ac (Gk k) fuel f22) (Aa (vr 5) (Aa (dop ixD (vr 4) (Zr (.int 3))) (Aa (vr 6) (Zr []))))) (Ai 5))
 (Ab (retS (Ad (Ac (Gk k) fuel f54) (Aa (Ad (Ac (Gk k) fuel f55) (Aa (vr 0) (Aa (vr 6) (Aa (vr 1) (Aa (dSl (vr 7) (some (Zr (.int 1))) none) (Zr [])))))) (Aa (vr 1) (Aa (vr 5) (Zr []))))))
 Zn)))))))))
theorem Ahs (k:Nat):Bq f87 k=b87 k:=by kernel_rfl
noncomputable def b89 (k:Nat):SM :=
 (Ab (Aq (lstM (Zr [])) (Ai 2))
 (Ab (Hr (Cq (Ad (Ac (Gk k) fuel f51) (Aa (vr 1) (Zr [])))) (Ai 3)
 (Ab (Hr (Cq (Ad (Ac (Gk k) fuel f70) (Aa (vr 0) (Aa (vr 1) (Aa (vr 3) (Zr [])))))) (Ai 4)
  (Ab (Jg (Dq "list" Eg (vr 2) (Aa (Bs (Aa (Zr (.str "do")) (Aa (vr 3) (Aa (vr 4) (Zr []))))) (Zr []))))
   Zn))
  Zn))
 (Ab (retS (dop Cp (dop Cp (vr 2) (Ad (Ac (Gk k) fuel f90) (Aa (vr 1) (Zr [])))) (Ad (Ac (Gk k) fuel f91) (Aa (vr 1) (Zr [])))))
 Zn)))
theorem Aht (k:Nat):Bq f89 k=b89 k:=by kernel_rfl
noncomputable def b90 (k:Nat):SM :=
 (Ab (Aq (lstM (Zr [])) (Ai 1))
 (Ab (ifS (Ah (dop eqD (dop ixD (dop ixD (vr 0) (Zr (.int (2)))) (Zr (.int 0))) (Zr (.int 0))))
 (Ab (retS (vr 1))
  Zn)
 Zn)
 (Ab (Hr (Cq (Ad (Ac (Gk k) fuel f51) (Aa (vr 0) (Zr [])))) (Ai 2)
 (Ab (Hr (Cq (Ad (Ac (Gk k) fuel f51) (Aa (vr 0) (Zr [])))) (Ai 3)
  (Ab (ifS (Ah (dop gtD (Ad Dd (Aa (Ad (Ac (Gk k) fuel f53) (Aa (vr 0) (Aa (vr 2) (Aa (vr 3) (Zr []))))) (Zr []))) (Zr (.int 0))))
   (Ab (Jg (Dq "list" Eg (vr 1) (Aa (Bs (Aa (Zr (.str "lose")) (Aa (vr 2) (Aa (vr 3) (Zr []))))) (Zr []))))
    Zn)
   Zn)
   Zn))
  Zn))
 (Ab (retS (vr 1))
 Zn))))
theorem Ahu (k:Nat):Bq f90 k=b90 k:=by kernel_rfl
noncomputable def b91 (k:Nat):SM :=
 (Ab (ifS (Ah (dop eqD (dop ixD (dop ixD (vr 0) (Zr (.int (2)))) (Zr (.int 1))) (Zr (.int 0))))
 (Ab (retS (lstM (Zr [])))
  Zn)
 Zn)
 (Ab (retS (Bp (Cq (Ad (Ac (Gk k) fuel f51) (Aa (vr 0) (Zr [])))) [none,none,some 0] (Ai 1) (Hq (G6 (Ad (Ac (Gk k) fuel f19) (Aa (Ad (Ac (Gk k) fuel f52) (Aa (vr 2) (Aa (vr 1) (Zr [])))) (Zr []))))) (Bs (Aa (Zr (.str "fall")) (Aa (vr 1) (Zr []))))))
 Zn))
theorem Ahv (k:Nat):Bq f91 k=b91 k:=by kernel_rfl
noncomputable def b92 (k:Nat):SM :=
 (Ab (ifS (Hq (G6 (Ad (Ac (Gk k) fuel f94) (Aa (vr 0) (Aa (vr 1) (Aa (vr 2) (Zr [])))))))
 (Ab SM.bad
  Zn)
 Zn)
 (Ab (retS (Ad (Ac (Gk k) fuel f93) (Aa (vr 0) (Aa (vr 1) (Aa (vr 2) (Zr []))))))
 Zn))
theorem Ahw (k:Nat):Bq f92 k=b92 k:=by kernel_rfl
noncomputable def b93 (k:Nat):SM :=
 (Ab (ifS (Ah (dop eqD (dop ixD (vr 2) (Zr (.int 0))) (Zr (.str "lose"))))
 (Ab (retS (Ad (Ac (Gk k) fuel f97) (Aa (vr 1) (Aa (dop ixD (vr 2) (Zr (.int 1))) (Aa (dop ixD (vr 2) (Zr (.int 2))) (Zr []))))))
  Zn)
 Zn)
 (Ab (ifS (Ah (dop eqD (dop ixD (vr 2) (Zr (.int 0))) (Zr (.str "fall"))))
 (Ab (retS (Ad (Ac (Gk k) fuel f98) (Aa (vr 1) (Aa (dop ixD (vr 2) (Zr (.int 1))) (Zr [])))))
  Zn)
 Zn)
 (Ab (Aq (Hf (Ak3 k) "told" (Ad (Ac (Gk k) fuel f68) (Aa (vr 0) (Aa (vr 1) (Aa (dop ixD (vr 2) (Zr (.int 1))) (Zr []))))) (Zr [])) (Ai 3))
 (Ab (retS (Ad (Ac (Gk k) fuel f79) (Aa (vr 0) (Aa (vr 1) (Aa (dop ixD (vr 2) (Zr (.int 1))) (Aa (vr 3) (Aa (dop ixD (vr 2) (Zr (.int 2))) (Zr []))))))))
 Zn))))
theorem wO (k:Nat):Bq f93 k=b93 k:=by kernel_rfl
noncomputable def b94 (k:Nat):SM :=
 (Ab (ifS (Hq (G6 (Ad (Ac (Gk k) fuel f95) (Aa (vr 2) (Zr [])))))
 (Ab (retS (Zr (.bl false)))
  Zn)
 Zn)
 (Ab (ifS (Ah (dop eqD (dop ixD (vr 2) (Zr (.int 0))) (Zr (.str "lose"))))
 (Ab (retS (dop (inD false) (vr 2) (Ad (Ac (Gk k) fuel f90) (Aa (vr 1) (Zr [])))))
  Zn)
 Zn)
 (Ab (ifS (Ah (dop eqD (dop ixD (vr 2) (Zr (.int 0))) (Zr (.str "fall"))))
 (Ab (retS (dop (inD false) (vr 2) (Ad (Ac (Gk k) fuel f91) (Aa (vr 1) (Zr [])))))
  Zn)
 Zn)
 (Ab (retS (Ec (G9 leD ltD (Zr (.int 0)) (dop ixD (vr 2) (Zr (.int 1))) (Ad Dd (Aa (dop ixD (vr 1) (Zr (.int (0)))) (Zr [])))) (dop (inD false) (dop ixD (vr 2) (Zr (.int 2))) (Ad (Ac (Gk k) fuel f70) (Aa (vr 0) (Aa (vr 1) (Aa (dop ixD (vr 2) (Zr (.int 1))) (Zr []))))))))
 Zn))))
theorem Ahx (k:Nat):Bq f94 k=b94 k:=by kernel_rfl
noncomputable def b95 (k:Nat):SM :=
 (Ab (ifS (O5 (Hq (G6 (Vx "tuple" (vr 0)))) (Hq (Ah (G9 leD leD (Zr (.int 2)) (Ad Dd (Aa (vr 0) (Zr []))) (Zr (.int 3))))))
 (Ab (retS (Zr (.bl false)))
  Zn)
 Zn)
 (Ab (ifS (Ah (dop eqD (dop ixD (vr 0) (Zr (.int 0))) (Zr (.str "do"))))
 (Ab (retS (Ec (dop eqD (Ad Dd (Aa (vr 0) (Zr []))) (Zr (.int 3))) (Ec (Ad (Ac (Gk k) fuel f28) (Aa (dop ixD (vr 0) (Zr (.int 1))) (Zr []))) (Ad (Ac (Gk k) fuel f96) (Aa (dop ixD (vr 0) (Zr (.int 2))) (Zr []))))))
  Zn)
 Zn)
 (Ab (ifS (Ah (dop eqD (dop ixD (vr 0) (Zr (.int 0))) (Zr (.str "lose"))))
 (Ab (retS (Ec (dop eqD (Ad Dd (Aa (vr 0) (Zr []))) (Zr (.int 3))) (Ec (Ad (Ac (Gk k) fuel f28) (Aa (dop ixD (vr 0) (Zr (.int 1))) (Zr []))) (Ad (Ac (Gk k) fuel f28) (Aa (dop ixD (vr 0) (Zr (.int 2))) (Zr []))))))
  Zn)
 Zn)
 (Ab (retS (Ec (dop eqD (dop ixD (vr 0) (Zr (.int 0))) (Zr (.str "fall"))) (Ec (dop eqD (Ad Dd (Aa (vr 0) (Zr []))) (Zr (.int 2))) (Ad (Ac (Gk k) fuel f28) (Aa (dop ixD (vr 0) (Zr (.int 1))) (Zr []))))))
 Zn))))
theorem Ahy (k:Nat):Bq f95 k=b95 k:=by kernel_rfl
noncomputable def b96 (k:Nat):SM :=
 (Ab (ifS (G6 (Vx "tuple" (vr 0)))
 (Ab (retS (Ad kW (Aa (Bp (Cq (vr 0)) [none,none] (Ai 1) (Zr true) (Ad (Ac (Gk k) fuel f28) (Aa (vr 1) (Zr [])))) (Zr []))))
  Zn)
 Zn)
 (Ab (retS (Ad (Ac (Gk k) fuel f28) (Aa (vr 0) (Zr []))))
 Zn))
theorem Ahz (k:Nat):Bq f96 k=b96 k:=by kernel_rfl
noncomputable def b97 (k:Nat):SM :=
 (Ab (Aq (dop ixD (vr 0) (Zr (.int (2)))) (Ai 3))
 (Ab (Aq (Ad (Ac (Gk k) fuel f55) (Aa (vr 0) (Aa (vr 1) (Aa (vr 2) (Aa (dSl (Ad (Ac (Gk k) fuel f53) (Aa (vr 0) (Aa (vr 1) (Aa (vr 2) (Zr []))))) (some (Zr (.int 1))) none) (Zr [])))))) (Ai 4))
 (Ab (retS (Ad (Ac (Gk k) fuel f20) (Aa (vr 4) (Aa (Zr (.int (2))) (Aa (Bs (Aa (dop bT (dop ixD (vr 3) (Zr (.int 0))) (Zr (.int 1))) (Aa (dop ixD (vr 3) (Zr (.int 1))) (Zr [])))) (Zr []))))))
 Zn)))
theorem Ah0 (k:Nat):Bq f97 k=b97 k:=by kernel_rfl
noncomputable def b98 (k:Nat):SM :=
 (Ab (Aq (dop ixD (vr 0) (Zr (.int (2)))) (Ai 2))
 (Ab (Aq (Ad (Ac (Gk k) fuel f20) (Aa (vr 0) (Aa (Zr (.int (1))) (Aa (Ad (Ac (Gk k) fuel f20) (Aa (dop ixD (vr 0) (Zr (.int (1)))) (Aa (vr 1) (Aa (dop Mp (Bs (Aa (Bs (Zr [])) (Zr []))) (Ad Dd (Aa (dop ixD (vr 0) (Zr (.int (0)))) (Zr [])))) (Zr []))))) (Zr []))))) (Ai 3))
 (Ab (retS (Ad (Ac (Gk k) fuel f20) (Aa (Ad (Ac (Gk k) fuel f54) (Aa (vr 3) (Aa (vr 1) (Aa (Ad (Ac (Gk k) fuel f18) (Aa (Zr (.int (-1))) (Zr []))) (Zr []))))) (Aa (Zr (.int (2))) (Aa (Bs (Aa (dop ixD (vr 2) (Zr (.int 0))) (Aa (dop bT (dop ixD (vr 2) (Zr (.int 1))) (Zr (.int 1))) (Zr [])))) (Zr []))))))
 Zn)))
theorem Ah1 (k:Nat):Bq f98 k=b98 k:=by kernel_rfl
noncomputable def Ah2 (k:Nat):SM :=
 (Ab (ifS (Ah (dop ltD (vr 1) (Ad Dd (Aa (vr 0) (Zr [])))))
 (Ab (retS (dop ixD (vr 0) (vr 1)))
  Zn)
 Zn)
 (Ab (retS (Zr (.int 0)))
 Zn))
theorem Ab9 (k:Nat):Bq O8 k=Ah2 k:=by kernel_rfl
noncomputable def Ah3 (k:Nat):SM :=
 (Ab (Aq (dop Mr (dop Mp (dop Cp (dop Mr (vr 0) (Zr (.int 2147483647))) (Zr (.int 1))) (Zr (.int 48271))) (Zr (.int 2147483647))) (Ai 0))
 (Ab (Aq (dop Mr (dop Mp (vr 0) (dop Cp (dop Mq (vr 0) (Zr (.int 1009))) (Zr (.int 69621)))) (Zr (.int 2147483647))) (Ai 0))
 (Ab (retS (dop Mr (dop Mp (dop Cp (vr 0) (Zr (.int 1))) (dop Cp (dop Mq (vr 0) (Zr (.int 757))) (Zr (.int 16807)))) (Zr (.int 2147483629))))
 Zn)))
theorem Aca (k:Nat):Bq mO k=Ah3 k:=by kernel_rfl
noncomputable def Ah4 (k:Nat):SM :=
 (Ab (ifS (Je (Ah (dop eqD (dop ixD (vr 0) (Zr (.int 1))) (Zr (.int 0)))) (Ah (dop gtD (dop ixD (vr 0) (Zr (.int 0))) (Zr (.int 0)))))
 (Ab (Aq (dop Mr (dop ixD (vr 0) (Zr (.int 0))) (vr 1)) (Ai 2))
  (Ab (Aq (dop Mq (dop ixD (vr 0) (Zr (.int 0))) (vr 1)) (Ht (vr 0) (Zr (.int 0))))
  (Ab (retS (vr 2))
  Zn)))
 Zn)
 (Ab (Aq (Ad (Ac (Gk k) fuel mO) (Aa (dop Cp (dop ixD (vr 0) (Zr (.int 2))) (Zr (.int 1))) (Zr []))) (Ht (vr 0) (Zr (.int 2))))
 (Ab (retS (dop Mr (dop Mq (dop ixD (vr 0) (Zr (.int 2))) (Zr (.int 7))) (vr 1)))
 Zn)))
theorem Acb (k:Nat):Bq Dz k=Ah4 k:=by kernel_rfl
noncomputable def Ah5 (k:Nat):SM :=
 (Ab (Aq (Ad (Ac (Gk k) fuel Dz) (Aa (vr 0) (Aa (Zr (.int 3)) (Zr [])))) (Ai 3))
 (Ab (Aq (Ad (Ac (Gk k) fuel Dz) (Aa (vr 0) (Aa (Zr (.int 3)) (Zr [])))) (Ai 4))
 (Ab (Aq (Ad (Ac (Gk k) fuel Dz) (Aa (vr 0) (Aa (Zr (.int 2)) (Zr [])))) (Ai 5))
 (Ab (Aq (Ad (Ac (Gk k) fuel Dz) (Aa (vr 0) (Aa (dop Cp (vr 1) (Zr (.int 1))) (Zr [])))) (Ai 6))
 (Ab (Aq (Ad (Ac (Gk k) fuel Dz) (Aa (vr 0) (Aa (Ad Dd (Aa (vr 2) (Zr []))) (Zr [])))) (Ai 7))
 (Ab (Aq (lstM (Aa (Bs (Aa (Zr (.str "me")) (Aa (vr 3) (Zr [])))) (Aa (Bs (Aa (Zr (.str "pick")) (Aa (vr 3) (Aa (vr 7) (Zr []))))) (Aa (Bs (Aa (Zr (.str "alike")) (Aa (vr 3) (Aa (vr 4) (Aa (vr 6) (Zr [])))))) (Aa (Bs (Aa (Zr (.str "all")) (Aa (vr 5) (Aa (vr 7) (Zr []))))) (Aa (Bs (Aa (Zr (.str "empty")) (Aa (vr 5) (Zr [])))) (Zr []))))))) (Ai 8))
 (Ab (Aq (dop Cp (vr 8) (lstM (Aa (Bs (Aa (Zr (.str "join")) (Aa (vr 5) (Aa (vr 3) (Zr []))))) (Aa (Bs (Aa (Zr (.str "out")) (Aa (vr 3) (Aa (vr 5) (Aa (vr 6) (Zr [])))))) (Aa (Bs (Aa (Zr (.str "many")) (Aa (vr 5) (Aa (vr 4) (Aa (vr 6) (Zr [])))))) (Zr [])))))) (Ai 8))
 (Ab (ifS (Ah (dop eqD (dop ixD (vr 2) (vr 7)) (Zr (.int 1))))
 (Ab (Aq (dop Cp (vr 8) (lstM (Aa (Bs (Aa (Zr (.str "only")) (Aa (vr 3) (Aa (vr 7) (Zr []))))) (Zr [])))) (Ai 8))
  Zn)
 Zn)
 (Ab (retS (dop ixD (vr 8) (Ad (Ac (Gk k) fuel Dz) (Aa (vr 0) (Aa (Ad Dd (Aa (vr 8) (Zr []))) (Zr []))))))
 Zn)))))))))
theorem Acd (k:Nat):Bq uE k=Ah5 k:=by kernel_rfl
noncomputable def Ah6 (k:Nat):SM :=
 (Ab (Aq (lstM (Aa (dop Mq (vr 0) (Zr (.int 2))) (Aa (dop Mr (vr 0) (Zr (.int 2))) (Aa (dop Cp (vr 0) (dop Mp (Zr (.int 65537)) (vr 1))) (Zr []))))) (Ai 4))
 (Ab (Aq (Ad (Ac (Gk k) fuel Dz) (Aa (vr 4) (Aa (Zr (.int 4)) (Zr [])))) (Ai 5))
 (Ab (ifS (Ah (dop eqD (vr 5) (Zr (.int 0))))
 (Ab (retS (Ad (Ac (Gk k) fuel uE) (Aa (vr 4) (Aa (vr 2) (Aa (vr 3) (Zr []))))))
  Zn)
 Zn)
 (Ab (Aq (Ad (Ac (Gk k) fuel Dz) (Aa (vr 4) (Aa (Zr (.int 3)) (Zr [])))) (Ai 6))
 (Ab (Aq (Ad (Ac (Gk k) fuel Dz) (Aa (vr 4) (Aa (Zr (.int 3)) (Zr [])))) (Ai 7))
 (Ab (Aq (Ad (Ac (Gk k) fuel Dz) (Aa (vr 4) (Aa (dop Cp (vr 2) (Zr (.int 1))) (Zr [])))) (Ai 8))
 (Ab (Aq (dop Cp (Zr (.int 1)) (Ad (Ac (Gk k) fuel Dz) (Aa (vr 4) (Aa (Zr (.int 2)) (Zr []))))) (Ai 9))
 (Ab (ifS (Ah (dop eqD (vr 5) (Zr (.int 1))))
 (Ab (retS (Bs (Aa (Zr (.str "send")) (Aa (vr 6) (Aa (vr 9) (Aa (vr 7) (Aa (Ad (Ac (Gk k) fuel Dz) (Aa (vr 4) (Aa (Zr (.int 3)) (Zr [])))) (Zr []))))))))
  Zn)
 Zn)
 (Ab (ifS (Ah (dop eqD (vr 5) (Zr (.int 2))))
 (Ab (Aq (Bs (Aa (vr 9) (Aa (vr 6) (Aa (vr 7) (Aa (dop Mr (dop Cp (vr 7) (Zr (.int 1))) (Zr (.int 3))) (Aa (vr 8) (Zr []))))))) (Ai 10))
  (Ab (Aq (Bs (Aa (Zr (.int 0)) (Aa (vr 6) (Aa (vr 7) (Aa (dop Mr (dop Cp (vr 7) (Zr (.int 2))) (Zr (.int 3))) (Aa (Ad (Ac (Gk k) fuel Dz) (Aa (vr 4) (Aa (dop Cp (vr 2) (Zr (.int 1))) (Zr [])))) (Zr []))))))) (Ai 11))
  (Ab (retS (Bs (Aa (Zr (.str "take")) (Aa (dop bT (Ad (Ac (Gk k) fuel Dz) (Aa (vr 4) (Aa (Zr (.int 4)) (Zr [])))) (Zr (.int 1))) (Aa (dop ixD (lstM (Aa (Bs (Aa (vr 10) (Zr []))) (Aa (Bs (Aa (vr 10) (Aa (vr 11) (Zr [])))) (Zr [])))) (Ad (Ac (Gk k) fuel Dz) (Aa (vr 4) (Aa (Zr (.int 2)) (Zr []))))) (Zr []))))))
  Zn)))
 Zn)
 (Ab (Aq (dop bT (Ad (Ac (Gk k) fuel Dz) (Aa (vr 4) (Aa (Zr (.int 5)) (Zr [])))) (Zr (.int 2))) (Ai 12))
 (Ab (Aq (lstM (Aa (Bs (Aa (Zr (.str "put")) (Aa (vr 6) (Aa (vr 12) (Zr []))))) (Aa (Bs (Aa (Zr (.str "copy")) (Aa (vr 6) (Aa (vr 7) (Zr []))))) (Aa (Bs (Aa (Zr (.str "raise")) (Aa (vr 6) (Aa (vr 12) (Zr []))))) (Aa (Bs (Aa (Zr (.str "sum")) (Aa (vr 6) (Aa (vr 7) (Zr []))))) (Aa (Bs (Aa (Zr (.str "bell")) (Zr []))) (Zr []))))))) (Ai 13))
 (Ab (Aq (dop Cp (vr 13) (lstM (Aa (Bs (Aa (Zr (.str "choose")) (Aa (vr 6) (Aa (dop Cp (Zr (.int 1)) (vr 7)) (Zr []))))) (Aa (Bs (Aa (Zr (.str "less")) (Aa (vr 6) (Aa (vr 12) (Aa (vr 8) (Zr [])))))) (Aa (Bs (Aa (Zr (.str "before")) (Aa (vr 6) (Aa (vr 7) (Aa (vr 8) (Zr [])))))) (Aa (Bs (Aa (Zr (.str "go")) (Aa (vr 8) (Zr [])))) (Zr []))))))) (Ai 13))
 (Ab (retS (dop ixD (vr 13) (Ad (Ac (Gk k) fuel Dz) (Aa (vr 4) (Aa (Ad Dd (Aa (vr 13) (Zr []))) (Zr []))))))
 Zn)))))))))))))
theorem Ace (k:Nat):Bq uF k=Ah6 k:=by kernel_rfl
noncomputable def Ah7 (k:Nat):SM :=
 (Ab (Aq (lstM (Aa (dop Mq (Ad (Ac (Gk k) fuel O8) (Aa (vr 0) (Aa (Zr (.int 0)) (Zr [])))) (Zr (.int 2))) (Aa (dop Mr (Ad (Ac (Gk k) fuel O8) (Aa (vr 0) (Aa (Zr (.int 0)) (Zr [])))) (Zr (.int 2))) (Aa (Ad (Ac (Gk k) fuel O8) (Aa (vr 0) (Aa (Zr (.int 0)) (Zr [])))) (Zr []))))) (Ai 1))
 (Ab (Aq (dop Cp (Zr (.int 1)) (Ad (Ac (Gk k) fuel Dz) (Aa (vr 1) (Aa (Zr (.int 3)) (Zr []))))) (Ai 2))
 (Ab (Aq (Ad Dg (Aa (Ad Gr (Aa (Bp (Ls K9 (Aa (dop Cp (Zr (.int 2)) (Ad (Ac (Gk k) fuel Dz) (Aa (vr 1) (Aa (Zr (.int 3)) (Zr []))))) (Zr []))) [none,none,some 2,some 1] (Ai 1) (Zr true) (Ad (Ac (Gk k) fuel Dz) (Aa (vr 3) (Aa (vr 2) (Zr []))))) (Zr []))) (Zr []))) (Ai 3))
 (Ab (Aq (Bp (Ls K9 (Aa (vr 2) (Zr []))) [none,none,some 3] (Ai 1) (Zr true) (Ad Dd (Aa (Bp (Cq (vr 2)) [none,none,some 1] (Ai 1) (Ah (dop eqD (vr 1) (vr 2))) (vr 1)) (Zr [])))) (Ai 5))
 (Ab (Aq (dop Cp (Zr (.int 1)) (Ad (Ac (Gk k) fuel Dz) (Aa (vr 1) (Aa (Zr (.int 2)) (Zr []))))) (Ai 6))
 (Ab (Aq (Bs (Aa (Ad (Ac (Gk k) fuel Dz) (Aa (vr 1) (Aa (Zr (.int 3)) (Zr [])))) (Aa (Ad (Ac (Gk k) fuel Dz) (Aa (vr 1) (Aa (Zr (.int 3)) (Zr [])))) (Zr [])))) (Ai 7))
 (Ab (Aq (lstM (Zr [])) (Ai 8))
 (Ab (Hr (Ls K9 (Aa (vr 2) (Zr []))) (Ai 4)
 (Ab (Aq (Ad (Ac (Gk k) fuel Dz) (Aa (vr 1) (Aa (Zr (.int 6)) (Zr [])))) (Ai 9))
  (Ab (Aq (Bp (Ls K9 (Aa (vr 9) (Zr []))) [none,none,some 4,some 0] (Ai 1) (Zr true) (Ad (Ac (Gk k) fuel O8) (Aa (vr 3) (Aa (dop Cp (dop Cp (Zr (.int 3)) (dop Mp (Zr (.int 5)) (vr 2))) (vr 1)) (Zr []))))) (Ai 10))
  (Ab (Aq (dop Cp (Ad (Ac (Gk k) fuel O8) (Aa (vr 0) (Aa (Zr (.int 0)) (Zr [])))) (dop Mp (Zr (.int 7)) (vr 4))) (Ai 11))
  (Ab (Aq (Bp (Ls K9 (Aa (vr 9) (Zr []))) [none,none,some 10,some 5,some 9,some 11] (Ai 1) (Zr true) (Ad (Ac (Gk k) fuel uF) (Aa (dop ixD (vr 2) (vr 1)) (Aa (dop Cp (vr 5) (vr 1)) (Aa (vr 4) (Aa (vr 3) (Zr []))))))) (Ai 12))
  (Ab (Jg (Dq "list" Eg (vr 8) (Aa (Ad Dg (Aa (vr 12) (Zr []))) (Zr []))))
  Zn))))))
 (Ab (retS (Bs (Aa (vr 6) (Aa (vr 7) (Aa (Ad Dg (Aa (vr 8) (Zr []))) (Aa (vr 3) (Zr [])))))))
 Zn)))))))))
theorem Acf (k:Nat):Bq uG k=Ah7 k:=by kernel_rfl
noncomputable def Ah8 (k:Nat):SM :=
 (Ab (Aq (Ad (Ac (Gk k) fuel f57) (Aa (vr 1) (Aa (vr 3) (Zr [])))) (Ai 4))
 (Ab (Aq newD (Ai 5))
 (Ab (Hr (Cq (vr 2)) (T8 [6,7])
 (Ab (Aq (Ad (Ac (Gk k) fuel f57) (Aa (vr 7) (Aa (vr 3) (Zr [])))) (Ht (vr 5) (Ad (Ac (Gk k) fuel f63) (Aa (vr 6) (Aa (vr 3) (Zr []))))))
  Zn))
 (Ab (Aq (Ad (Ac (Gk k) fuel f89) (Aa (vr 0) (Aa (vr 4) (Zr [])))) (Ai 8))
 (Ab (ifS (O5 (Ah (dop neD (Ad Dd (Aa (vr 8) (Zr []))) (Ad Dd (Aa (vr 5) (Zr []))))) (Ah (dop neD (Ad Dd (Aa (vr 5) (Zr []))) (Ad Dd (Aa (vr 2) (Zr []))))))
 (Ab (retS (Zr (.bl false)))
  Zn)
 Zn)
 (Ab (retS (Ad kW (Aa (Bp (Cq (vr 8)) [none,none,some 5,some 0,some 4] (Ai 1) (Zr true) (Ec (dop (inD false) (vr 1) (vr 2)) (dop eqD (Ad (Ac (Gk k) fuel f92) (Aa (vr 3) (Aa (vr 4) (Aa (vr 1) (Zr []))))) (dop ixD (vr 2) (vr 1))))) (Zr []))))
 Zn))))))
theorem Acg (k:Nat):Bq uH k=Ah8 k:=by kernel_rfl
noncomputable def Ah9 (k:Nat):SM :=
 (Ab (Aq (Ad (Ac (Gk k) fuel uG) (Aa (vr 0) (Zr []))) (Ai 1))
 (Ab (Aq (Ad (Ac (Gk k) fuel f50) (Aa (vr 1) (Zr []))) (Ai 2))
 (Ab (Aq (lstM (Aa (dop Mq (Ad (Ac (Gk k) fuel O8) (Aa (vr 0) (Aa (Zr (.int 1)) (Zr [])))) (Zr (.int 2))) (Aa (dop Mr (Ad (Ac (Gk k) fuel O8) (Aa (vr 0) (Aa (Zr (.int 1)) (Zr [])))) (Zr (.int 2))) (Aa (Ad (Ac (Gk k) fuel O8) (Aa (vr 0) (Aa (Zr (.int 1)) (Zr [])))) (Zr []))))) (Ai 3))
 (Ab (Hr (Cq (Ad (Ac (Gk k) fuel f45) (Aa (vr 1) (Zr [])))) (Ai 4)
 (Ab (ifS (Ah (dop neD (Ad (Ac (Gk k) fuel f57) (Aa (vr 2) (Aa (vr 4) (Zr [])))) (vr 2)))
  (Ab (retS (Zr (.bl false)))
   Zn)
  Zn)
  Zn))
 (Ab (Aq (Ad (Ac (Gk k) fuel f45) (Aa (vr 1) (Zr []))) (Ai 5))
 (Ab (Hr (Ls K9 (Aa (Zr (.int 5)) (Zr []))) (Ai 6)
 (Ab (Aq (Bp (Cq (Ad (Ac (Gk k) fuel f89) (Aa (vr 1) (Aa (vr 2) (Zr []))))) [none,none,some 1,some 2] (Ai 1) (Zr true) (Bs (Aa (vr 1) (Aa (Ad (Ac (Gk k) fuel f92) (Aa (vr 2) (Aa (vr 3) (Aa (vr 1) (Zr []))))) (Zr []))))) (Ai 7))
  (Ab (Hr (Cq (Abi (vr 5) (dop Mp (dop Mr (vr 6) (Zr (.int 4))) (Ad intD (Aa (dop gtD (Ad Dd (Aa (vr 5) (Zr []))) (Zr (.int 6))) (Zr [])))) (Ad Dd (Aa (vr 5) (Zr []))) (dop Cp (Zr (.int 1)) (dop Mp (Zr (.int 3)) (Ad intD (Aa (dop gtD (Ad Dd (Aa (vr 5) (Zr []))) (Zr (.int 6))) (Zr []))))))) (Ai 4)
  (Ab (ifS (Hq (G6 (Ad (Ac (Gk k) fuel uH) (Aa (vr 1) (Aa (vr 2) (Aa (vr 7) (Aa (vr 4) (Zr []))))))))
   (Ab (retS (Zr (.bl false)))
    Zn)
   Zn)
   Zn))
  (Ab (ifS (Ah (dop eqD (vr 7) (lstM (Zr []))))
  (Ab (retS (Zr (.bl true)))
   Zn)
  Zn)
  (Ab (Aq (dop ixD (dop ixD (vr 7) (Ad (Ac (Gk k) fuel Dz) (Aa (vr 3) (Aa (Ad Dd (Aa (vr 7) (Zr []))) (Zr []))))) (Zr (.int 1))) (Ai 2))
  Zn)))))
 (Ab (retS (Zr (.bl true)))
 Zn)))))))
theorem Ach (k:Nat):Bq mQ k=Ah9 k:=by kernel_rfl
local macro_rules | `(tactic| walk_at "s") => `(tactic| with_reducible first | refine Am ?_ | refine Ci ?_ | refine Fp ?_ | refine Ab0 ?_ | refine Fi ?_ | refine Bh ?_ | refine Ag ?_ | refine Abz ?_ | refine Be (by with_unfolding_all rfl) ?_ | refine Aj ?_ | refine Bm ?_ | refine Ax ?_ | refine Ca ?_ | refine tE ?_ | refine Vy ?_ | refine tH ?_ | refine Agd ?_ | refine bV ?_ | refine mJ ?_ | refine Ak0 ?_ | refine tU ?_ | refine Ce ?_ | refine Rq ?_ | refine Abx ?_ | refine Vz ?_ | refine fJ ?_ | refine bW ?_ | refine fK ?_ | refine tK ?_ | refine Yn ?_ | refine Pu ?_ | refine Akz ?_ | refine tL ?_ | refine tM ?_ | refine Im ?_ | refine Aby ?_ | refine tO ?_ | refine Ar ?_ | refine Age ?_ | refine Ak1 ?_ | refine Agm ?_ | refine tV ?_ | refine Er ?_ | refine Px (by with_unfolding_all rfl) ?_ | refine V2 (by with_unfolding_all rfl) ?_ | refine Agn ?_ | refine Agg ?_ | refine tQ ?_ | refine Kd ?_ | refine Ju ?_ | refine cA ?_ | refine Ago (by with_unfolding_all rfl) (by with_unfolding_all rfl) ?_)
local macro_rules | `(tactic| walk_at "r") => `(tactic| repeat walk_at "s")
theorem Ir {ds:List D}{q:Prop}(h:ds.length<=1000000) (hq:q):ds.length<=1000000/\q:=⟨h,hq⟩
theorem Dr {h:MH}{j:Nat}{o:MO}(e:h[j]?=some o):j < h.length:=(cg.mp e).1
theorem gC (i:Int) {j:Int}(h:0 < j):0<=i.fmod j:=Int.fmod_nonneg_of_pos i h
theorem gD (i:Int) {j:Int}(h:0 < j):i.fmod j < j:=Int.fmod_lt_of_pos i h
theorem cG (i:Int) (n:Nat) (h:0 < n):∃ r:Nat,r < n/\i.fmod (n:Int)=(r:Int):=by
 have l1:=gC i (j:=(n:Int)) (by omega);have l2:=gD i (j:=(n:Int)) (by omega);exact ⟨(i.fmod n).toNat,by omega,by omega⟩
theorem Dh (h:MH) (ds:List D):En (.ref h.length) (h++[.lst ds])=some ds:=by
 show (match (h++[MO.lst ds])[h.length]? with | some (.lst o)=>some o | _=>none)=_;rw [Ak]
theorem Eh {h:MH}{j:Nat}{ds:List D}(e:h[j]?=some (.lst ds)):En (.ref j) h=some ds:=by
 show (match h[j]? with | some (.lst o)=>some o | _=>none)=_;rw [e]
theorem Iu (n:Nat):Cg 0 n=(dm n).map Ae:=zq λx _=>by show D.int (0+(x:Int))=D.int (x:Int);rw [Int.zero_add]
theorem Mz {n:Nat}{ds:List D}{j:Nat}{mh:MH}{P:D->MH->Prop}(e1:mh[n]?=some (.lst ds)) (hj:j < ds.length) (h:∀ d∈ds,P d mh):wV (ixD (.ref n) (.int j) mh) P:=Hh e1 (au hj) (h _ (ni hj))
noncomputable def IsI (h:MH) (j:Nat) (ns:List Int):Prop:=h[j]?=some (.lst (ns.map D.int))
theorem Aia {n:Nat}{ns:List Int}{j:Nat}{mh:MH}{P:D->MH->Prop}(g:IsI mh n ns) (hj:j < ns.length) (h:P (.int ns[j]) mh):wV (ixD (.ref n) (.int j) mh) P:=Hh g (by rw [cj,au hj];rfl) h
theorem Aib {r:Option (D×MH)}{h:MH}{x:D}(w:wV r λa h'=>a=x/\h'=h):r=some (x,h):=by
 obtain ⟨a,h',e,rfl,rfl⟩:=w;exact e
theorem Gn {α:Type}{mi:DM Src}{cs:List (Option Nat)}{g:GM}{tc:DM Bool}{e:DM D}{loc:DL.Loc}{mh:MH}{Q:D->MH->Prop}(xs:List α) (F:α->D) (pr:α->Bool) (f:α->D) (hz:xs.length<=1000000)
  (hm:wD mi loc mh λsrc h0=>Ext [] mh h0/\∀ h,Ext [] h0 h->src.ok h=true/\src.items h=xs.map F)
  (step:∀ x h {R:D->MH->Prop},x∈xs->Ext [] mh h->(∀ h',Ext [] h h'->R (f x) h')->wG (g (F x) (Nk cs loc) h) λl1 h1=>h1=h/\wD tc l1 h λc h2=>c=pr x/\h2=h/\(pr x=true->wD e l1 h R))
  (fin:∀ h,Ext [] mh h->Q (.ref h.length) (h++[.lst ((xs.filter pr).map f)])):wD (Bp mi cs g tc e) loc mh Q:=by
 refine Gu (Az hm ?_);rintro src h0 ⟨x0,keep⟩;refine ⟨xs.map F,λi acc h=>acc=((xs.take i).filter pr).map f/\i<=xs.length/\Ext [] h0 h,by rw [ak];exact hz,⟨rfl,jy _,Ext.refl⟩,λi acc h q=>keep h q.2.2,?_,?_,?_⟩
 ·rintro i acc h ⟨rfl,hi,_⟩;rw [ak];refine dz (jx _ _) ?_;rw [qd];omega
 ·rintro i d acc h ed ⟨rfl,hi,x⟩;rw [cj] at ed;cases ex:xs[i]? with
  | none=>rw [ex] at ed;cases ed
  | some y =>
   rw [ex] at ed;cases ed;have hl:=(cg.mp ex).1;have et:xs.take (i+1)=xs.take i++[y]:=by rw [ql,ex];rfl
   obtain ⟨l1,h1,e1,rfl,c,h2,e2,rfl,rfl,q⟩:=step y h (R:=λz h3=>((xs.take i).filter pr).map f++[z]=((xs.take (i+1)).filter pr).map f/\i+1<=xs.length/\Ext [] h0 h3\/pr y=false) (gn ex) (x0.trans x) λh' x'=>by
    cases hp:pr y with
    | false=>exact .inr rfl
    | true=>exact .inl ⟨by rw [et,FJ,ji];simp [hp],hl,x.trans x'⟩
   refine ⟨l1,_,e1,_,_,e2,λhp=>?_,λhp=>⟨?_,hl,x⟩⟩
   ·refine Az (q hp) ?_;rintro z h3 (w | w)
    ·exact w
    ·rw [hp] at w;cases w
   ·rw [et,FJ,ji];simp [hp]
 ·rintro acc h ⟨rfl,hi,x⟩;rw [ak,rz];exact fin h (x0.trans x)
theorem Cm {α:Type}{mi:DM Src}{cs:List (Option Nat)}{g:GM}{e:DM D}{loc:DL.Loc}{mh:MH}{Q:D->MH->Prop}(xs:List α) (F:α->D) (f:α->D) (hz:xs.length<=1000000)
  (hm:wD mi loc mh λsrc h0=>Ext [] mh h0/\∀ h,Ext [] h0 h->src.ok h=true/\src.items h=xs.map F)
  (step:∀ x h {R:D->MH->Prop},x∈xs->Ext [] mh h->(∀ h',Ext [] h h'->R (f x) h')->wG (g (F x) (Nk cs loc) h) λl1 h1=>h1=h/\wD e l1 h R)
  (fin:∀ h,Ext [] mh h->Q (.ref h.length) (h++[.lst (xs.map f)])):wD (Bp mi cs g (Zr true) e) loc mh Q:=by
 refine Gn xs F (λ_=>true) f hz hm (λx h R hx ex hR=>?_) λh ex=>?_
 ·obtain ⟨l1,h1,e1,rfl,q⟩:=step x h hx ex hR;exact ⟨l1,_,e1,rfl,Aj ⟨rfl,rfl,λ_=>q⟩⟩
 ·have:=fin h ex;rw [List.filter_eq_self.mpr (λ_ _=>rfl)];exact this
theorem Dn {ds:List D}{α:Type}{xs:List α}{F:α->D}{mh:MH}(e:ds=xs.map F):Ext [] mh mh/\∀ h,Ext [] mh h->(Src.seq ds).ok h=true/\(Src.seq ds).items h=xs.map F:=⟨Ext.refl,λ_ _=>⟨rfl,e⟩⟩
theorem gF {n:Nat}{α:Type}{xs:List α}{F:α->D}{mh:MH}(e:mh[n]?=some (.lst (xs.map F))):∀ h,Ext [] mh h->(Src.lref n).ok h=true/\(Src.lref n).items h=xs.map F:=λh x=>Dk (x.old _ _ (by simp) e)
theorem Hl {a:D}{r:List D}{mh:MH}{P:D->MH->Prop}(h:P a mh):wV (ixD (.tup (a::r)) (.int 0) mh) P:=Bo (j:=0) rfl h
theorem Gp {a b:D}{r:List D}{mh:MH}{P:D->MH->Prop}(h:P b mh):wV (ixD (.tup (a::b::r)) (.int 1) mh) P:=Bo (j:=1) rfl h
theorem Ds {a b c:D}{r:List D}{mh:MH}{P:D->MH->Prop}(h:P c mh):wV (ixD (.tup (a::b::c::r)) (.int 2) mh) P:=Bo (j:=2) rfl h
theorem Iv {a b c d:D}{r:List D}{mh:MH}{P:D->MH->Prop}(h:P d mh):wV (ixD (.tup (a::b::c::d::r)) (.int 3) mh) P:=Bo (j:=3) rfl h
theorem N6 {a b c d e:D}{r:List D}{mh:MH}{P:D->MH->Prop}(h:P e mh):wV (ixD (.tup (a::b::c::d::e::r)) (.int 4) mh) P:=Bo (j:=4) rfl h
structure Pg where
 room:Nat
 l0:Nat
 l1:Nat
 roles:List (List D)
 plays:List Nat
noncomputable def Pg.d (p:Pg):D:=.tup [.int p.room,.tup [.int p.l0,.int p.l1],.tup (p.roles.map D.tup),.tup (p.plays.map Ae)]
noncomputable def Pg.H (p:Pg):Nat:=p.plays.length
noncomputable def Pg.len (p:Pg) (r:Nat):Nat:=((p.roles[r]?).getD []).length
structure Pg.ok (p:Pg):Prop where
 h1:1<=p.plays.length
 h6:p.plays.length<=6
 pl:∀ r∈p.plays,r < p.roles.length
 rm:p.room<=10
local macro_rules | `(tactic| walk_at "x2") => `(tactic| repeat (first | walk_at "s" | with_reducible refine Ir (by simp) ?_ | with_reducible refine Hl ?_ | with_reducible refine Gp ?_ | with_reducible refine Ds ?_ | with_reducible refine Iv ?_ | with_reducible refine N6 ?_))
section
variable {mh:MH}{n:Nat}{d:D}{P:D->MH->Prop}
theorem Aci (k:Nat) (p:Pg) (r:Nat) (hr:r < p.roles.length) (h:P (.int (p.len r)) mh):wV (Ac (Gk (k+1)) fuel f40 [p.d,.int r] mh) P:=by
 refine Af (Agy k) uQ.1 uQ.2 rfl ?_;show wS (b40 k) [some p.d,some (.int r)] mh _;unfold b40 Pg.d
 walk_at "x2"
 refine Bo (j:=r) (d:=.tup p.roles[r]) (by rw [cj,au hr];rfl) ?_
 walk_at "x2"
 refine Bj (ds:=p.roles[r]) (by intro z z';cases z') rfl ?_;have e:p.len r=p.roles[r].length:=by unfold Pg.len;rw [au hr];rfl
 rw [e] at h;exact h
end
theorem Acj {ds:List D}{i:Nat}(hi:i < ds.length) {mh:MH}{P:D->MH->Prop}(h:P (.tup (ds.take i)) mh):wV (slD (.tup ds) none (some (i:Int)) mh) P:=by
 refine ⟨_,_,?_,h⟩;have e2:HT.sIx ds.length ds.length (some (i:Int))=i:=by rw [HT.sIx_nat];omega
 show (if HT.sIx ds.length 0 none=0/\HT.sIx ds.length ds.length (some (i:Int))=ds.length then some (D.tup ds,mh) else some (D.tup (DL.cutD ds none (some (i:Int))),mh))=_;rw [e2,if_neg (by omega)];unfold DL.cutD;rw [e2];simp [HT.sIx_none]
theorem Gx {ds:List D}{i:Nat}(hi:i<=ds.length) {mh:MH}{P:D->MH->Prop}(h:P (.tup (ds.drop i)) mh):wV (slD (.tup ds) (some (i:Int)) none mh) P:=by
 have e1:HT.sIx ds.length 0 (some (i:Int))=i:=by rw [HT.sIx_nat];omega
 have e2:HT.sIx ds.length ds.length none=ds.length:=rfl
 by_cases h0:i=0
 ·subst h0;refine ⟨.tup ds,mh,?_,by simpa using h⟩;show (if HT.sIx ds.length 0 (some ((0:Nat):Int))=0/\HT.sIx ds.length ds.length none=ds.length then some (D.tup ds,mh) else _)=_;rw [e1,e2,if_pos ⟨rfl,rfl⟩]
 ·refine ⟨_,_,?_,h⟩;show (if HT.sIx ds.length 0 (some (i:Int))=0/\HT.sIx ds.length ds.length none=ds.length then some (D.tup ds,mh) else some (D.tup (DL.cutD ds (some (i:Int)) none),mh))=_;rw [e1,e2,if_neg (by omega)];unfold DL.cutD;rw [e1,e2,QL (by rw [CJ];omega)]
theorem Ei (k:Nat) {ds:List D}{i:Nat}{x:D}(hi:i < ds.length) (hz:ds.length<=1000) {mh:MH}{P:D->MH->Prop}(h:P (.tup (ds.set i x)) mh):wV (Ac (Gk (k+1)) fuel f20 [.tup ds,.int i,x] mh) P:=by
 refine Af (Agt k) uL.1 uL.2 rfl ?_;show wS (b20 k) [some (.tup ds),some (.int i),some x] mh _;unfold b20
 walk_at "x2"
 refine Acj hi ?_
 walk_at "x2"
 refine Io (by rw [qd,qx];omega) ?_
 walk_at "x2"
 rw [show (i:Int)+1=((i+1:Nat):Int) by omega];refine Gx (by omega) ?_;refine Io (by rw [dg,qd,qx,CJ];omega) ?_;rw [List.set_eq_take_append_cons_drop,if_pos hi] at h
 walk_at "x2"
 rw [BV];exact h
structure Pt where
 pl:Int
 n0:Int
 n1:Int
 n2:Int
 m0:Int
 m1:Int
 m2:Int
 s0:Nat
 s1:Nat
 bell:Bool
noncomputable abbrev Lt:=Int×Int×Int
noncomputable def Pt.d (p:Pt):D:=.tup [.int p.pl,.tup [.int p.n0,.int p.n1,.int p.n2],.tup [.int p.m0,.int p.m1,.int p.m2],.tup [.int p.s0,.int p.s1],.bl p.bell]
noncomputable def ltD (l:Lt):D:=.tup [.int l.1,.int l.2.1,.int l.2.2]
noncomputable def lsD (l:List Lt):D:=.tup (l.map ltD)
noncomputable def Ks (w:List (List Lt)):D:=.tup (w.map lsD)
structure Wd where
 ps:List Pt
 rs:List (List (List Lt))
 x:Nat
 y:Nat
noncomputable def Wd.d (w:Wd):D:=.tup [.tup (w.ps.map Pt.d),.tup (w.rs.map Ks),.tup [.int w.x,.int w.y]]
structure Pt.ok (H L:Nat) (p:Pt):Prop where
 pl1:-1<=p.pl
 pl2:p.pl<=L
 a0:-1<=p.m0/\p.m0<=(H:Int) - 1
 a1:-1<=p.m1/\p.m1<=(H:Int) - 1
 a2:-1<=p.m2/\p.m2<=(H:Int) - 1
 b0:p.s0 < 2 ^ H
 b1:p.s1 < 2 ^ H
noncomputable def Amq (H:Nat) (l:Lt):Prop:=(1<=l.1/\l.1<=12)/\-1<=l.2.2/\l.2.2<=(H:Int) - 1
noncomputable def wQ (p:Pg) (l:List Lt):Prop:=l.length<=p.room/\∀ z∈l,Amq p.H z
noncomputable def Adm (p:Pg) (w:List (List Lt)):Prop:=w.length=p.H/\∀ l∈w,wQ p l
structure Wd.ok (p:Pg) (w:Wd):Prop where
 lp:w.ps.length=p.plays.length
 ps:∀ (i r:Nat) (q:Pt),p.plays[i]?=some r->w.ps[i]?=some q->q.ok p.H (p.len r)
 lr:w.rs.length=p.plays.length
 rs:∀ v∈w.rs,Adm p v
 xx:w.x<=p.l0
 yy:w.y<=p.l1
noncomputable def p0:Pt:=⟨0,0,0,0,0,0,0,0,0,false⟩
noncomputable def Wd.pt (w:Wd) (h:Nat):Pt:=(w.ps[h]?).getD p0
noncomputable def Wd.cell (w:Wd) (s t:Nat):List Lt:=(((w.rs[t]?).getD [])[s]?).getD []
theorem Wd.pt_at {w:Wd}{h:Nat}(hh:h < w.ps.length):w.ps[h]?=some (w.pt h):=by unfold Wd.pt;rw [au hh];rfl
section
variable {mh:MH}{P:D->MH->Prop}{p:Pg}{w:Wd}
theorem Fq (k h:Nat) (hh:h < w.ps.length) (q:P (w.pt h).d mh):wV (Ac (Gk (k+1)) fuel f52 [w.d,.int h] mh) P:=by
 refine Af (Ag4 k) uX.1 uX.2 rfl ?_;show wS (b52 k) [some w.d,some (.int h)] mh _;unfold b52 Wd.d
 walk_at "x2"
 refine Bo (j:=h) (d:=(w.pt h).d) (by rw [cj,Wd.pt_at hh];rfl) ?_;exact q
theorem Wa (wo:w.ok p) {s t:Nat}(hs:s < p.plays.length) (ht:t < p.plays.length):∃ v,w.rs[t]?=some v/\v[s]?=some (w.cell s t)/\Adm p v:=by
 have lt:t < w.rs.length:=by rw [wo.lr];exact ht
 have vo:=wo.rs _ (ni lt);have ls:s < (w.rs[t]).length:=by rw [vo.1];exact hs
 refine ⟨w.rs[t],au lt,?_,vo⟩;unfold Wd.cell;rw [au lt];show w.rs[t][s]?=some ((w.rs[t][s]?).getD []);rw [au ls];rfl
theorem Fz (k s t:Nat) (wo:w.ok p) (hs:s < p.plays.length) (ht:t < p.plays.length) (q:P (lsD (w.cell s t)) mh):wV (Ac (Gk (k+1)) fuel f53 [w.d,.int s,.int t] mh) P:=by
 obtain ⟨v,e1,e2,_⟩:=Wa wo hs ht;refine Af (Ag5 k) uY.1 uY.2 rfl ?_;show wS (b53 k) [some w.d,some (.int s),some (.int t)] mh _;unfold b53 Wd.d
 walk_at "x2"
 refine Bo (j:=t) (d:=Ks v) (by rw [cj,e1];rfl) ?_
 walk_at "x2"
 refine Bo (j:=s) (d:=lsD (w.cell s t)) (by rw [cj,e2];rfl) ?_;exact q
noncomputable def Wd.setP (w:Wd) (h:Nat) (q:Pt):Wd:={ w with ps:=w.ps.set h q }
noncomputable def Wd.setC (w:Wd) (s t:Nat) (l:List Lt):Wd:={ w with rs:=w.rs.set t (((w.rs[t]?).getD []).set s l) }
theorem Hx (k h:Nat) (po:p.ok) (wo:w.ok p) (hh:h < p.plays.length) (y:Pt) (q:P (w.setP h y).d mh):wV (Ac (Gk (k+2)) fuel f54 [w.d,.int h,y.d] mh) P:=by
 have h6:=po.h6;refine Af (Ag6 (k+1)) uZ.1 uZ.2 rfl ?_;show wS (b54 (k+1)) [some w.d,some (.int h),some y.d] mh _;unfold b54 Wd.d
 walk_at "x2"
 refine Ei k (by rw [ak,wo.lp];exact hh) (by rw [ak,wo.lp];omega) ?_
 walk_at "x2"
 refine Ei k (i:=0) (by simp) (by simp) ?_;have e:(w.ps.map Pt.d).set h y.d=(w.ps.set h y).map Pt.d:=by rw [PB]
 rw [e];exact q
theorem N7 (k s t:Nat) (po:p.ok) (wo:w.ok p) (hs:s < p.plays.length) (ht:t < p.plays.length) (l:List Lt) (q:P (w.setC s t l).d mh):wV (Ac (Gk (k+2)) fuel f55 [w.d,.int s,.int t,lsD l] mh) P:=by
 have h6:=po.h6;obtain ⟨v,e1,e2,vo⟩:=Wa wo hs ht;have lv:v.length=p.plays.length:=vo.1;refine Af (Ag7 (k+1)) vA.1 vA.2 rfl ?_;show wS (b55 (k+1)) [some w.d,some (.int s),some (.int t),some (lsD l)] mh _;unfold b55 Wd.d
 walk_at "x2"
 refine Bo (j:=t) (d:=Ks v) (by rw [cj,e1];rfl) ?_
 walk_at "x2"
 unfold Ks;refine Ei k (by rw [ak,lv];exact hs) (by rw [ak,lv];omega) ?_
 walk_at "x2"
 refine Ei k (by rw [ak,wo.lr];exact ht) (by rw [ak,wo.lr];omega) ?_
 walk_at "x2"
 refine Ei k (i:=1) (by simp) (by simp) ?_;have e:(w.rs.map λw=>D.tup (w.map lsD)).set t (.tup ((v.map lsD).set s (lsD l)))=(w.rs.set t (v.set s l)).map λw=>D.tup (w.map lsD):=by rw [PB,PB]
 rw [e];have e3:w.setC s t l={ w with rs:=w.rs.set t (v.set s l) }:=by unfold Wd.setC;rw [e1];rfl
 rw [e3] at q;exact q
theorem Pz {h:Nat}{y:Pt}(wo:w.ok p) (hy:∀ r,p.plays[h]?=some r->y.ok p.H (p.len r)):(w.setP h y).ok p:=by
 refine ⟨by show (w.ps.set h y).length=_;rw [jz];exact wo.lp,λi r q e1 e2=>?_,wo.lr,wo.rs,wo.xx,wo.yy⟩;have e2:(w.ps.set h y)[i]?=some q:=e2
 by_cases e:h=i
 ·subst e;rw [yq] at e2;simp only [if_true] at e2;split at e2
  ·cases e2;exact hy r e1
  ·cases e2
 ·rw [iy e] at e2;exact wo.ps i r q e1 e2
theorem Wb {s t:Nat}{l:List Lt}(wo:w.ok p) (hl:wQ p l):(w.setC s t l).ok p:=by
 refine ⟨wo.lp,wo.ps,by show (w.rs.set t _).length=_;rw [jz];exact wo.lr,λv hv=>?_,wo.xx,wo.yy⟩;have hv:v∈w.rs.set t (((w.rs[t]?).getD []).set s l):=hv;rcases DP hv with hv|rfl
 ·exact wo.rs v hv
 ·cases e:w.rs[t]? with
  | none =>
   rw [e] at hv;rw [List.set_eq_of_length_le (by exact nj.mp e)] at hv;exact wo.rs _ hv
  | some u =>
   have uo:=wo.rs u (gn e);refine ⟨by show (u.set s l).length=_;rw [jz];exact uo.1,λz hz=>?_⟩;rcases DP (show z∈u.set s l from hz) with hz|rfl
   ·exact uo.2 z hz
   ·exact hl
theorem Yu {h:Nat}(wo:w.ok p) (hh:h < p.plays.length):∃ r,p.plays[h]?=some r/\(w.pt h).ok p.H (p.len r):=by
 refine ⟨p.plays[h],au hh,wo.ps h _ _ (au hh) (Wd.pt_at (by rw [wo.lp];exact hh))⟩
end
noncomputable def mem (s:Nat):List Nat:=Jr s (qg (s:Int))
noncomputable def Bk (l:List Nat):D:=.tup (l.map Ae)
theorem Aic {s h:Nat}{mh:MH}{P:D->MH->Prop}(q:P (.int ((s:Int) / 2 ^ (h:Int).toNat)) mh):wV (Akv (.int s) (.int h) mh) P:=Js (decide_eq_true (by omega)) q
theorem Ack {i j:Int}{mh:MH}{P:D->MH->Prop}(q:P (.int (FQ i j)) mh):wV (Adf (.int i) (.int j) mh) P:=Js rfl q
theorem Ak7 (k s h:Nat) (mh:MH):Ac (Gk (k+1)) fuel f2 [.int s,.int h] mh=some (.bl (s.testBit h),mh):=by
 refine Aib ?_;refine Af (Ak4 k) Adi.1 Adi.2 rfl ?_;show wS (b2 k) [some (.int s),some (.int h)] mh _;unfold b2
 walk_at "x2"
 refine Aic ?_
 walk_at "x2"
 refine Ack ?_
 walk_at "x2"
 refine ⟨?_,rfl⟩;rw [Abv]
theorem Jv (k s:Nat) (hs:s < 2 ^ 20) (mh:MH) {P:D->MH->Prop}(h:∀ h',Ext [] mh h'->P (Bk (mem s)) h'):wV (Ac (Gk (k+2)) fuel f3 [.int s] mh) P:=by
 have hb:=bits_le (g:=s) (n:=20) hs;refine Af (Ak5 (k+1)) Adj.1 Adj.2 rfl ?_;show wS (b3 (k+1)) [some (.int s)] mh _;unfold b3
 walk_at "x2"
 refine Gn (dm (qg (s:Int))) Ae (λi=>s.testBit i) Ae (by rw [ig];omega) ?_ (λx h' R hx ex hR=>?_) λh' ex=>?_
 ·refine tO (Ax (Pu (Be (by with_unfolding_all rfl) ⟨rfl,?_⟩)))
  walk_at "x2"
  refine Ay (d:=.int (qg (s:Int):Nat)) (h:=mh) rfl ?_
  walk_at "x2"
  exact ⟨_,Fg (by omega),by rw [Iu];exact Dn rfl⟩
 ·refine Ar ⟨rfl,?_⟩
  walk_at "x2"
  refine Ay (Ak7 k s x h') ?_
  walk_at "x2"
  refine ⟨rfl,rfl,λ_=>?_⟩
  walk_at "x2"
  exact hR h' Ext.refl
 ·walk_at "x2"
  exact Ck (Dh _ _) (h _ (ex.trans Ext.more))
theorem cH {i j:Nat}{mh:MH}{P:D->MH->Prop}(q:P (Ae (i ||| j)) mh):wV (Aga (.int i) (.int j) mh) P:=Js rfl (by show P (.int (GJ i j)) mh;rw [mH];exact q)
theorem wR {H:Nat}{mh:MH}{P:D->MH->Prop}(hH:H<=20) (h:P (.int ((2 ^ H:Nat):Int)) mh):wV (Aku (.int 1) (.int H) mh) P:=Js (by
 rw [bf,bf,decide_eq_true_iff,decide_eq_true_iff,decide_eq_true_iff]
 exact ⟨by omega,by omega,by decide⟩) (by
  show P (.int (1 * 2 ^ (H:Int).toNat)) mh;rw [Int.one_mul,jh];have e:((2 ^ H:Nat):Int)=2 ^ H:=by push_cast;rfl
  rw [← e];exact h)
theorem Lf (k n:Nat) (l:List Nat) (mh:MH) (e:mh[n]?=some (.lst (l.map Ae))) (hl:∀ x∈l,x<=20) {P:D->MH->Prop}(h:P (Ae (setOf l)) mh):wV (Ac (Gk (k+1)) fuel f4 [.ref n] mh) P:=by
 refine Af (Adl k) fQ.1 fQ.2 rfl ?_;show wS (b4 k) [some (.ref n),none,none] mh _;unfold b4
 walk_at "x2"
 refine Gm (Im (Be rfl ⟨_,src_list e,l.map Ae,λi loc h'=>h'=mh/\∃ z,loc=[some (.ref n),some (Ae (setOf (l.take i))),z],⟨rfl,none,rfl⟩,?_,?_,?_⟩))
 ·rintro i loc h' ⟨rfl,_⟩;exact Dk e
 ·rintro i d loc h' ed ⟨rfl,z,rfl⟩;rw [cj] at ed;cases ex:l[i]? with
  | none=>rw [ex] at ed;cases ed
  | some y =>
   rw [ex] at ed;cases ed
   walk_at "x2"
   have hy:=hl y (gn ex);refine wR hy ?_
   walk_at "x2"
   refine cH ?_
   walk_at "x2"
   refine ⟨rfl,some (Ae y),?_⟩;have:setOf (l.take (i+1))=setOf (l.take i) ||| 2 ^ y:=by
    unfold setOf;rw [ql,ex,WN];rfl
   rw [this];rfl
 ·rintro loc h' ⟨rfl,z,rfl⟩;rw [ak,rz]
  walk_at "x2"
  exact h
theorem Yv (k:Nat) (l:List Nat) (mh:MH) (hl:∀ x∈l,x<=20) {P:D->MH->Prop}(h:P (Ae (setOf l)) mh):wV (Ac (Gk (k+1)) fuel f4 [Bk l] mh) P:=by
 refine Af (Adl k) fQ.1 fQ.2 rfl ?_;show wS (b4 k) [some (Bk l),none,none] mh _;unfold b4
 walk_at "x2"
 refine Gm (Im (Be (by with_unfolding_all rfl) ⟨.seq (l.map Ae),rfl,l.map Ae,λi loc h'=>h'=mh/\∃ z,loc=[some (Bk l),some (Ae (setOf (l.take i))),z],⟨rfl,none,rfl⟩,λ_ _ _ _=>⟨rfl,rfl⟩,?_,?_⟩))
 ·rintro i d loc h' ed ⟨rfl,z,rfl⟩;rw [cj] at ed;cases ex:l[i]? with
  | none=>rw [ex] at ed;cases ed
  | some y =>
   rw [ex] at ed;cases ed
   walk_at "x2"
   have hy:=hl y (gn ex);refine wR hy ?_
   walk_at "x2"
   refine cH ?_
   walk_at "x2"
   refine ⟨rfl,some (Ae y),?_⟩;have:setOf (l.take (i+1))=setOf (l.take i) ||| 2 ^ y:=by
    unfold setOf;rw [ql,ex,WN];rfl
   rw [this];rfl
 ·rintro loc h' ⟨rfl,z,rfl⟩;rw [ak,rz]
  walk_at "x2"
  exact h
theorem Yw {l:List Nat}{n:Nat}(h:∀ x∈l,x < n):setOf l < 2 ^ n:=by
 refine LC _ λi hi=>?_
 rw [Cy,decide_eq_false];exact λz=>by have:=h i z;omega
noncomputable def plA (p:Pg) (h:Nat):Nat:=(p.plays[h]?).getD 0
noncomputable def hands (p:Pg) (r:Nat):List Nat:=(dm p.plays.length).filter λi=>plA p i==r
theorem Rv {p:Pg}{r h:Nat}(m:h∈hands p r):h < p.plays.length:=by
 unfold hands at m;rw [lq,ir] at m;exact m.1
theorem cI (p:Pg):Jf 0 (p.plays.map Ae)=(dm p.plays.length).map λi=>D.tup [Ae i,Ae (plA p i)]:=by
 refine WM λi=>?_
 rw [J7,cj,cj,NZ]
 by_cases h:i < p.plays.length
 ·rw [au h,uy h];show some (D.tup [Ae i,Ae p.plays[i]])=some (D.tup [Ae i,Ae (plA p i)]);unfold plA;rw [au h];rfl
 ·rw [nj.mpr (by omega),nj.mpr (by rw [ig];omega)];rfl
theorem Uo (k r:Nat) (p:Pg) (po:p.ok) (mh:MH) {P:D->MH->Prop}(h:∀ h',Ext [] mh h'->P (Bk (hands p r)) h'):wV (Ac (Gk (k+1)) fuel f39 [p.d,.int r] mh) P:=by
 have h6:=po.h6;refine Af (wM k) V7.1 V7.2 rfl ?_;show wS (b39 k) [some p.d,some (.int r)] mh _;unfold b39;refine Am (Fp (Ca (Ax ?_)));refine Gn (dm p.plays.length) (λi=>.tup [Ae i,Ae (plA p i)]) (λi=>plA p i==r) Ae (by rw [ig];omega) ?_ (λx h' R hx ex hR=>?_) λh' ex=>?_
 ·unfold Pg.d
  walk_at "x2"
  refine ⟨_,rfl,Ext.refl,λ_ _=>⟨rfl,?_⟩⟩;exact cI p
 ·refine V0 rfl ⟨rfl,?_⟩;show wD _ [none,some (Ae x),some (Ae (plA p x)),some (.int r)] h' _
  walk_at "x2"
  have e:(((plA p x:Nat):Int)==(r:Int))=(plA p x==r):=by
   by_cases z:plA p x=r
   ·rw [z];simp
   ·rw [beq_eq_false_iff_ne.mpr z];exact beq_eq_false_iff_ne.mpr λq=>z (by omega)
  refine ⟨e,rfl,λ_=>?_⟩
  walk_at "x2"
  exact hR _ Ext.refl
 ·walk_at "x2"
  exact Ck (Dh _ _) (h _ (ex.trans Ext.more))
noncomputable def oth (p:Pg) (r h:Nat):List Nat:=(hands p r).filter λi=>!(i==h)
theorem N8 {p:Pg}{r h i:Nat}(m:i∈oth p r h):i < p.plays.length:=by
 unfold oth at m;rw [lq] at m;exact Rv m.1
theorem Oa {p:Pg}{r:Nat}:(hands p r).length<=p.plays.length:=by
 unfold hands;exact dz (jx _ _) (by rw [ig];exact bh _)
theorem gG (k r h:Nat) (p:Pg) (po:p.ok) (mh:MH) {P:D->MH->Prop}(q:∀ j h',Ext [] mh h'->h'[j]?=some (.lst ((oth p r h).map Ae))->P (.ref j) h'):wV (Ac (Gk (k+2)) fuel f69 [p.d,.int r,.int h] mh) P:=by
 have h6:=po.h6;have hl:=Oa (p:=p) (r:=r);refine Af (Ahi (k+1)) vN.1 vN.2 rfl ?_;show wS (b69 (k+1)) [some p.d,some (.int r),some (.int h)] mh _;unfold b69;refine Am (Fp ?_);refine Gn (hands p r) Ae (λi=>!(i==h)) Ae (by omega) ?_ (λx h' R hx ex hR=>?_) λh' ex=>?_
 ·walk_at "x2"
  refine Uo k r p po mh λh1 x1=>?_
  exact ⟨_,rfl,x1,λ_ _=>⟨rfl,rfl⟩⟩
 ·refine Ar ⟨rfl,?_⟩
  walk_at "x2"
  have e:(!(((x:Nat):Int)==(h:Int)))=(!(x==h)):=by
   by_cases z:x=h
   ·rw [z];simp
   ·rw [beq_eq_false_iff_ne.mpr z,beq_eq_false_iff_ne.mpr λq=>z (by omega)]
  refine ⟨e,rfl,λ_=>?_⟩
  walk_at "x2"
  exact hR _ Ext.refl
 ·walk_at "x2"
  exact q _ _ (ex.trans Ext.more) Ak
theorem Lg {c:Nat}{mh:MH}(hc:c<=1000000) {P:D->MH->Prop}(h:P (.ref mh.length) (mh++[.lst ((dm c).map Ae)])):wV (Ff (.int c) mh) P:=by
 refine ⟨_,_,?_,h⟩;have hb:-(2 ^ 62)<=(c:Int)/\(c:Int)<=1000000:=by omega
 have e:Cg 0 c=(dm c).map Ae:=by
  unfold Cg;apply zq;intro a _;simp [Ae]
 simp only [Ff,if_pos hb,jh,e]
structure Ln where
 kd:Nat
 a:Nat
 b:Nat
 c:Nat
 q:Nat
noncomputable def lnD (l:Ln):D:=.tup [Ae l.kd,Ae l.a,Ae l.b,Ae l.c,Ae l.q]
inductive Sp where
 | put (a:Nat) (n:Int) | copy (a b:Nat) | raise (a:Nat) (n:Int) | sum (a b:Nat) | choose (a c:Nat) | less (a:Nat) (n:Int) (q:Nat) | before (a b q:Nat) | go (q:Nat)
 | me (a:Nat) | only (a r:Nat) | pick (a r:Nat) | alike (a b q:Nat) | all (g r:Nat) | empty (g:Nat) | join (g a:Nat) | out (a g q:Nat) | many (g c q:Nat)
 | send (a kd b c:Nat) | take (bx:Int) (ls:List Ln) | bell
noncomputable def spD:Sp->D
 | .put a n=>.tup [.str "put",Ae a,.int n]
 | .copy a b=>.tup [.str "copy",Ae a,Ae b]
 | .raise a n=>.tup [.str "raise",Ae a,.int n]
 | .sum a b=>.tup [.str "sum",Ae a,Ae b]
 | .choose a c=>.tup [.str "choose",Ae a,Ae c]
 | .less a n q=>.tup [.str "less",Ae a,.int n,Ae q]
 | .before a b q=>.tup [.str "before",Ae a,Ae b,Ae q]
 | .go q=>.tup [.str "go",Ae q]
 | .me a=>.tup [.str "me",Ae a]
 | .only a r=>.tup [.str "only",Ae a,Ae r]
 | .pick a r=>.tup [.str "pick",Ae a,Ae r]
 | .alike a b q=>.tup [.str "alike",Ae a,Ae b,Ae q]
 | .all g r=>.tup [.str "all",Ae g,Ae r]
 | .empty g=>.tup [.str "empty",Ae g]
 | .join g a=>.tup [.str "join",Ae g,Ae a]
 | .out a g q=>.tup [.str "out",Ae a,Ae g,Ae q]
 | .many g c q=>.tup [.str "many",Ae g,Ae c,Ae q]
 | .send a kd b c=>.tup [.str "send",Ae a,Ae kd,Ae b,Ae c]
 | .take bx ls=>.tup [.str "take",.int bx,.tup (ls.map lnD)]
 | .bell=>.tup [.str "bell"]
structure Ln.ok (L:Nat) (l:Ln):Prop where
 a:l.a < 3
 b:l.b < 3
 c:l.c < 3
 q:l.q<=L
noncomputable def Sp.ok (p:Pg) (L:Nat):Sp->Prop
 | .put a _=>a < 3
 | .copy a b=>a < 3/\b < 3
 | .raise a _=>a < 3
 | .sum a b=>a < 3/\b < 3
 | .choose a c=>a < 3/\c<=1000
 | .less a _ q=>a < 3/\q<=L
 | .before a b q=>(a < 3/\b < 3)/\q<=L
 | .go q=>q<=L
 | .me a=>a < 3
 | .only a r=>a < 3/\hands p r≠[]
 | .pick a _=>a < 3
 | .alike a b q=>(a < 3/\b < 3)/\q<=L
 | .all g _=>g < 2
 | .empty g=>g < 2
 | .join g a=>g < 2/\a < 3
 | .out a g q=>(a < 3/\g < 2)/\q<=L
 | .many g _ q=>g < 2/\q<=L
 | .send a kd b c=>(a < 3/\b < 3/\c < 3)/\1<=kd/\kd<=12
 | .take bx ls=>(bx=-1\/∃ b:Nat,b < 3/\bx=(b:Int))/\ls.length<=1000/\∀ l∈ls,l.ok L
 | .bell=>True
structure Prg (p:Pg) (S:List (List Sp)):Prop where
 po:p.ok
 eq:p.roles=S.map λl=>l.map spD
 ok:∀ (r:Nat) (l:List Sp),S[r]?=some l->∀ s∈l,s.ok p l.length
 ln:∀ l∈S,l.length<=1000
noncomputable def stA (S:List (List Sp)) (r:Nat) (pl:Int):Option Sp:=if 0<=pl then ((S[r]?).getD [])[pl.toNat]? else none
noncomputable def Pt.nm (q:Pt) (a:Nat):Int:=if a=0 then q.m0 else if a=1 then q.m1 else q.m2
noncomputable def Pt.nu (q:Pt) (a:Nat):Int:=if a=0 then q.n0 else if a=1 then q.n1 else q.n2
noncomputable def Pt.se (q:Pt) (g:Nat):Nat:=if g=0 then q.s0 else q.s1
theorem Pt.nm_ok {H L a:Nat}{q:Pt}(h:q.ok H L):-1<=q.nm a/\q.nm a<=(H:Int) - 1:=by
 unfold Pt.nm;split
 ·exact h.a0
 ·split
  ·exact h.a1
  ·exact h.a2
theorem Pt.se_ok {H L g:Nat}{q:Pt}(h:q.ok H L):q.se g < 2 ^ H:=by
 unfold Pt.se;split
 ·exact h.b0
 ·exact h.b1
local macro_rules | `(tactic| walk_at "x3") => `(tactic| repeat (first | walk_at "s" | with_reducible refine Ir (by simp) ?_ | with_reducible refine Hl ?_ | with_reducible refine Gp ?_ | with_reducible refine Ds ?_ | with_reducible refine Iv ?_ | with_reducible refine N6 ?_ | with_reducible refine Agj (by kernel_rfl) (by kernel_rfl) (by decide +kernel) ?_ | with_reducible refine Agk (by kernel_rfl) (by kernel_rfl) (by decide +kernel) ?_))
section
variable {mh:MH}{P:D->MH->Prop}{p:Pg}{w:Wd}{S:List (List Sp)}
theorem Rw {q:Pt}{a:Nat}(ha:a < 3) (h:P (.int (q.nm a)) mh):wV (ixD (.tup [.int q.m0,.int q.m1,.int q.m2]) (Ae a) mh) P:=by
 match a,ha with
 | 0,_=>exact Bo (j:=0) rfl h
 | 1,_=>exact Bo (j:=1) rfl h
 | 2,_=>exact Bo (j:=2) rfl h
theorem Ox {q:Pt}{a:Nat}(ha:a < 3) (h:P (.int (q.nu a)) mh):wV (ixD (.tup [.int q.n0,.int q.n1,.int q.n2]) (Ae a) mh) P:=by
 match a,ha with
 | 0,_=>exact Bo (j:=0) rfl h
 | 1,_=>exact Bo (j:=1) rfl h
 | 2,_=>exact Bo (j:=2) rfl h
theorem gH {q:Pt}{g:Nat}(hg:g < 2) (h:P (.int (q.se g:Nat)) mh):wV (ixD (.tup [.int q.s0,.int q.s1]) (Ae g) mh) P:=by
 match g,hg with
 | 0,_=>exact Bo (j:=0) rfl h
 | 1,_=>exact Bo (j:=1) rfl h
theorem Uq (g:Prg p S):p.roles.length=S.length:=by rw [g.eq,ak]
theorem len_eq (g:Prg p S) (r:Nat):p.len r=((S[r]?).getD []).length:=by
 unfold Pg.len;rw [g.eq,cj];cases S[r]? with
 | none=>rfl
 | some l=>show (l.map spD).length=l.length;rw [ak]
noncomputable def gJ:Option Sp->D
 | none=>.non
 | some s=>.obj "Step" ["form"] [spD s]
theorem cJ (k r:Nat) (pl:Int) (g:Prg p S) (hr:r < p.roles.length) (q:P (gJ (stA S r pl)) mh):wV (Ac (Gk (k+2)) fuel f41 [p.d,.int r,.int pl] mh) P:=by
 have hr':r < S.length:=by rw [← Uq g];exact hr
 have eS:S[r]?=some S[r]:=au hr';have el:p.len r=S[r].length:=by rw [len_eq g,eS];rfl
 refine Af (Agz (k+1)) uR.1 uR.2 rfl ?_;show wS (b41 (k+1)) [some p.d,some (.int r),some (.int pl)] mh _;unfold b41;have no:stA S r pl=none->wS (Ab (retS (Zr .non)) Zn) [some p.d,some (.int r),some (.int pl)] mh (bZ P):=λe=>by
  rw [e] at q
  walk_at "x3"
  exact q
 refine Am (Fi (Ce (Yn ?_)));refine Aj (Be (by with_unfolding_all rfl) (Kd ⟨_,rfl,λe0=>?_,λe0=>⟨_,rfl,λe=>(by cases e),λ_=>?_⟩⟩))
 ·have e0:=of_decide_eq_true e0
  walk_at "x3"
  refine Aci k p r hr ?_;refine Kd ⟨_,rfl,λe1=>?_,λe1=>?_⟩
  ·have e1:=of_decide_eq_true e1;have hl:pl.toNat < S[r].length:=by omega
   have es:stA S r pl=some S[r][pl.toNat]:=by unfold stA;rw [if_pos e0,eS];exact au hl
   rw [es] at q;unfold Pg.d
   walk_at "x3"
   refine Bo (j:=r) (d:=.tup (S[r].map spD)) (by rw [cj,g.eq,cj,eS];rfl) ?_
   walk_at "x3"
   rw [show pl=((pl.toNat:Nat):Int) by omega];refine Bo (j:=pl.toNat) (d:=spD S[r][pl.toNat]) (by rw [cj,au hl];rfl) ?_
   walk_at "x3"
   exact q
  ·have e1:=of_decide_eq_false e1;refine Bh (Ag (no ?_));unfold stA;rw [if_pos e0,eS];exact nj.mpr (by show S[r].length<=pl.toNat;omega)
 ·have e0:=of_decide_eq_false e0;refine Bh (Ag (no ?_));unfold stA;rw [if_neg e0]
noncomputable def stW (p:Pg) (S:List (List Sp)) (w:Wd) (h:Nat):Option Sp:=stA S (plA p h) (w.pt h).pl
theorem Rx {h:Nat}(hh:h < p.plays.length):p.plays[h]?=some (plA p h):=by unfold plA;rw [au hh];rfl
theorem Adn (po:p.ok) {h:Nat}(hh:h < p.plays.length):plA p h < p.roles.length:=po.pl _ (gn (Rx hh))
theorem Jw (k h:Nat) (g:Prg p S) (wo:w.ok p) (hh:h < p.plays.length) (q:P (gJ (stW p S w h)) mh):wV (Ac (Gk (k+3)) fuel f68 [p.d,w.d,.int h] mh) P:=by
 refine Af (Ahh (k+2)) vM.1 vM.2 rfl ?_;show wS (b68 (k+2)) [some p.d,some w.d,some (.int h)] mh _;unfold b68;refine Am (Fp (Ca (Ax (Be (by with_unfolding_all rfl) (Ax ?_)))));refine Bm (Bm (Be (by with_unfolding_all rfl) (Aj ?_)));unfold Pg.d
 walk_at "x3"
 refine Bo (j:=h) (d:=Ae (plA p h)) (by rw [cj,Rx hh];rfl) ?_
 walk_at "x3"
 refine Fq (k+1) h (by rw [wo.lp];exact hh) ?_;unfold Pt.d
 walk_at "x3"
 exact cJ k _ _ g (Adn g.po hh) q
theorem Iw (k:Nat) (wo:w.ok p) (po:p.ok) (q:∀ j h',Ext [] mh h'->mh.length<=j->h'[j]?=some (.lst ((dm p.H).map Ae))->P (.ref j) h'):wV (Ac (Gk (k+1)) fuel f51 [w.d] mh) P:=by
 have h6:=po.h6;refine Af (wN k) V8.1 V8.2 rfl ?_;show wS (b51 k) [some w.d] mh _;unfold b51 Wd.d
 walk_at "x3"
 refine Bj (ds:=w.ps.map Pt.d) (by intro z z';cases z') rfl ?_;rw [ak,wo.lp];exact Lg (c:=p.plays.length) (by omega) (q _ _ Ext.more (bh _) Ak)
end
noncomputable def mR (q:Pt):Bool:=q.pl==-1
theorem Lh (k:Nat) (q:Pt) (mh:MH) {P:D->MH->Prop}(h:P (.bl (mR q)) mh):wV (Ac (Gk (k+1)) fuel f19 [q.d] mh) P:=by
 refine Af (Ags k) uK.1 uK.2 rfl ?_;show wS (b19 k) [some q.d] mh _;unfold b19 Pt.d
 walk_at "x3"
 exact h
noncomputable def Jx (w:Wd) (to:Int):Bool:=(to==-1) || mR (w.pt to.toNat)
noncomputable def Ji (p:Pg) (w:Wd) (h a:Nat):Bool:=Jx w ((w.pt h).nm a) || decide ((w.cell h ((w.pt h).nm a).toNat).length < p.room)
section
variable {mh:MH}{P:D->MH->Prop}{p:Pg}{w:Wd}{S:List (List Sp)}
theorem Ob {to:Int}{H:Nat}(h:-1<=to/\to<=(H:Int) - 1) (hn:¬ to=-1):to=((to.toNat:Nat):Int)/\to.toNat < H:=⟨by omega,by omega⟩
theorem Yx (k h a kd b c:Nat) (g:Prg p S) (wo:w.ok p) (hh:h < p.plays.length) (ha:a < 3) (q:P (.bl (Ji p w h a)) mh):wV (Ac (Gk (k+2)) fuel f72 [p.d,w.d,.int h,spD (.send a kd b c)] mh) P:=by
 obtain ⟨r,er,qo⟩:=Yu wo hh;have nk:=Pt.nm_ok (a:=a) qo;refine Af (Ahl (k+1)) vQ.1 vQ.2 rfl ?_;show wS (b72 (k+1)) [some p.d,some w.d,some (.int h),some (spD (.send a kd b c)),none] mh _;unfold b72;refine Am (Ci (Bm (Bm (Ca (Ax (Be (by with_unfolding_all rfl) (Ax (Be (by with_unfolding_all rfl) (Aj (Fq k h (by rw [wo.lp];exact hh) ?_)))))))))) ;unfold Pt.d;dsimp only [spD]
 walk_at "x3"
 refine Rw ha ?_;unfold Ji Jx at q;generalize (w.pt h).nm a=to at q nk;refine Ar (Ag (Am (Fi (bW (Ce (Bm (Be (by with_unfolding_all rfl) (Aj (Ju ⟨_,rfl,λe=>?_,λe=>?_⟩)))))))))
 ·rw [e,MN,MN] at q
  walk_at "x3"
  exact q
 ·rw [e,JQ] at q;have hn:¬ to=-1:=λz=>by rw [z] at e;cases e
  obtain ⟨e1,e2⟩:=Ob nk hn;refine Rq (Ca (Ax (Ca (Ax (Be (by with_unfolding_all rfl) (Ax (Be (d:=.int to) (by with_unfolding_all rfl) (Aj ?_)))))))) ;rw [e1];refine Fq k to.toNat (by rw [wo.lp];exact e2) ?_
  walk_at "x3"
  refine Lh k _ _ ⟨_,rfl,Bv (λe3=>?_) λe3=>?_⟩
  ·rw [e3,MN] at q
   walk_at "x3"
   exact q
  ·rw [e3,JQ] at q;refine Bh (Ag ?_)
   walk_at "x3"
   refine Fz k h to.toNat wo hh e2 ?_;unfold lsD
   walk_at "x3"
   refine Bj (ds:=(w.cell h to.toNat).map ltD) (by intro z z';cases z') rfl ?_;unfold Pg.d
   walk_at "x3"
   rw [ak];have e4:decide (((w.cell h to.toNat).length:Int) < (p.room:Int))=decide ((w.cell h to.toNat).length < p.room):=by
    by_cases z:(w.cell h to.toNat).length < p.room
    ·rw [decide_eq_true z,decide_eq_true (by omega)]
    ·rw [decide_eq_false z,decide_eq_false (by omega)]
   rw [e4];exact q
noncomputable def Jj (i:Nat):D:=.tup [Ae i]
noncomputable def Jk (s:Nat):List D:=if s=0 then [.int 0] else (mem s).map Jj
theorem Acl (k s:Nat) (hs:s < 2 ^ 20) (q:∀ j h',Ext [] mh h'->mh.length<=j->h'[j]?=some (.lst (Jk s))->P (.ref j) h'):wV (Ac (Gk (k+3)) fuel f71 [.int s] mh) P:=by
 refine Af (Ahk (k+2)) vP.1 vP.2 rfl ?_;show wS (b71 (k+2)) [some (.int s)] mh _;unfold b71 ;unfold Jk at q;refine Am (Fi (Ce (Bm (Be (by with_unfolding_all rfl) (Aj (Ju ⟨_,rfl,λe=>?_,λe=>?_⟩))))))
 ·have e:(s:Int)=0:=dj e;rw [if_pos (by omega)] at q
  walk_at "x3"
  exact q _ _ Ext.more (bh _) Ak
 ·have e:¬ (s:Int)=0:=beq_eq_false_iff_ne.mp e;rw [if_neg (by omega)] at q;refine Bh (Ag (Am (Fp ?_)));have lm:(mem s).length<=1000:=by
   have h1:=Ld s (qg (s:Int));have h2:=bits_le (g:=s) (n:=20) hs;show (Jr _ _).length<=1000;omega
  refine Cm (mem s) Ae Jj (by omega) ?_ (λx h' R hx ex hR=>?_) λh' ex=>?_
  ·walk_at "x3"
   refine Jv k s hs mh λh1 x1=>?_
   exact ⟨_,rfl,x1,λ_ _=>⟨rfl,rfl⟩⟩
  ·refine Ar ⟨rfl,?_⟩
   walk_at "x3"
   exact hR _ Ext.refl
  ·walk_at "x3"
   exact q _ _ (ex.trans Ext.more) ex.len Ak
noncomputable def Dt (p:Pg) (w:Wd) (h:Nat) (bx:Int):List Nat:=if bx=-1 then dm p.H else if (w.pt h).nm bx.toNat=-1 then [] else [((w.pt h).nm bx.toNat).toNat]
theorem M4 {h:Nat}{bx:Int}(wo:w.ok p) (hh:h < p.plays.length) {s:Nat}(hs:s∈Dt p w h bx):s < p.plays.length:=by
 unfold Dt at hs;split at hs
 ·exact ir.mp hs
 ·split at hs
  ·cases hs
  ·rename_i hn;obtain ⟨r,er,qo⟩:=Yu wo hh;rw [ao.mp hs];exact (Ob (Pt.nm_ok qo) hn).2
theorem Yy (k h:Nat) (bx:Int) (hb:bx=-1\/∃ b:Nat,b < 3/\bx=(b:Int)) (po:p.ok) (wo:w.ok p) (hh:h < p.plays.length) (q:∀ j h',Ext [] mh h'->mh.length<=j->h'[j]?=some (.lst ((Dt p w h bx).map Ae))->P (.ref j) h'):wV (Ac (Gk (k+2)) fuel f74 [w.d,.int h,.int bx] mh) P:=by
 have h6:=po.h6;obtain ⟨r,er,qo⟩:=Yu wo hh;refine Af (Ahn (k+1)) vU.1 vU.2 rfl ?_;show wS (b74 (k+1)) [some w.d,some (.int h),some (.int bx),none] mh _;unfold b74;unfold Dt at q;rcases hb with rfl|⟨b,hb,rfl⟩
 ·rw [if_pos rfl] at q
  walk_at "x3"
  refine Af (wN k) V8.1 V8.2 rfl ?_;show wS (b51 k) [some w.d] mh _;unfold b51 Wd.d
  walk_at "x3"
  refine Bj (ds:=w.ps.map Pt.d) (by intro z z';cases z') rfl ?_;rw [ak,wo.lp];exact Lg (c:=p.plays.length) (by omega) (q _ _ Ext.more (bh _) Ak)
 ·rw [if_neg (by omega),jh] at q;refine Am (Fi (Ce (Bm (Be (by with_unfolding_all rfl) (tH (Aj ⟨1,rfl,Ju ⟨_,rfl,λe=>?_,λ_=>Bh (Ag ?_)⟩⟩))))))
  ·have e:=dj e;omega
  ·refine Am (Ci (Bm (Bm (Ca (Ax (Be (by with_unfolding_all rfl) (Ax (Be (by with_unfolding_all rfl) (Aj (Fq k h (by rw [wo.lp];exact hh) ?_)))))))))) ;unfold Pt.d
   walk_at "x3"
   refine Rw hb ?_;have nk:=Pt.nm_ok (a:=b) qo;generalize (w.pt h).nm b=to at q nk;refine Ar (Ag (Am (Fp (tK (Ce (Bm (Be (by with_unfolding_all rfl) (Aj (Ju ⟨_,rfl,λe=>?_,λe=>?_⟩)))))))))
   ·have e:=dj e;rw [if_pos e] at q
    walk_at "x3"
    exact q _ _ Ext.more (bh _) Ak
   ·have e:=beq_eq_false_iff_ne.mp e;rw [if_neg e] at q;obtain ⟨e1,e2⟩:=Ob nk e;rw [e1]
    walk_at "x3"
    refine q _ _ Ext.more (bh _) ?_;rw [Ak];show _=some (MO.lst [Ae to.toNat]);rfl
noncomputable def Hy (w:Wd) (h:Nat) (ks:List Int) (s:Nat):List D:=match w.cell s h with
 | []=>[]
 | l::_=>if l.1∈ks then [.tup [Ae s,.int l.1]] else []
noncomputable def Jy (ls:List Ln):List Int:=ls.map λl=>(l.kd:Int)
noncomputable def Ej (w:Wd) (h:Nat) (ls:List Ln):List D:=if (decide ((0:Int)∈Jy ls)&&(w.pt h).bell)=true then [.tup [.int (-1),.int 0]] else []
noncomputable def K4 (p:Pg) (w:Wd) (h:Nat) (bx:Int) (ls:List Ln):List D:=Ej w h ls++(Dt p w h bx).flatMap (Hy w h (Jy ls))
theorem wU {h s:Nat}{ks:List Int}:(Hy w h ks s).length<=1:=by
 unfold Hy;split
 ·simp
 ·split <;> simp
theorem Yz {h s:Nat}{ks:List Int}(e:w.cell s h=[]):Hy w h ks s=[]:=by unfold Hy;rw [e]
theorem Wc {h s:Nat}{ks:List Int}{l:Lt}{r:List Lt}(e:w.cell s h=l::r) (hk:l.1∈ks):Hy w h ks s=[.tup [Ae s,.int l.1]]:=by unfold Hy;rw [e];exact if_pos hk
theorem gK {h s:Nat}{ks:List Int}{l:Lt}{r:List Lt}(e:w.cell s h=l::r) (hk:¬ l.1∈ks):Hy w h ks s=[]:=by unfold Hy;rw [e];exact if_neg hk
theorem Ry {h:Nat}{ks:List Int}:∀ l:List Nat,(l.flatMap (Hy w h ks)).length<=l.length
 | []=>by simp
 | s::r=>by
  rw [KJ,dg,jj];have:=Ry (h:=h) (ks:=ks) r;have:=wU (w:=w) (h:=h) (s:=s) (ks:=ks);omega
theorem mU {h i s:Nat}{ks:List Int}{l:List Nat}(e:l[i]?=some s):(l.take (i+1)).flatMap (Hy w h ks)=(l.take i).flatMap (Hy w h ks)++Hy w h ks s:=by
 rw [ql,e,HW];simp
theorem wW (k h:Nat) (bx:Int) (ls:List Ln) (hb:bx=-1\/∃ b:Nat,b < 3/\bx=(b:Int)) (hl:ls.length<=1000) (po:p.ok) (wo:w.ok p) (hh:h < p.plays.length) (q:∀ j h',Ext [] mh h'->mh.length<=j->h'[j]?=some (.lst (K4 p w h bx ls))->P (.ref j) h') :
    wV (Ac (Gk (k+3)) fuel f73 [w.d,.int h,spD (.take bx ls)] mh) P:=by
  have h6:=po.h6;have sl:(Dt p w h bx).length<=6:=by
    unfold Dt;split
    · rw [ig];exact h6
    · split <;> simp
  refine Af (Ahm (k+2)) vR.1 vR.2 rfl ?_;show wS (b73 (k+2)) [some w.d,some (.int h),some (spD (.take bx ls)),none,none,none,none] mh _;unfold b73;refine Am (Ci ?_);refine Cm ls lnD (λl=>Ae l.kd) (by omega) ?_ (λx h' R hx ex hR=>?_) λm1 x1=>?_
  · dsimp only [spD]
    walk_at "x3"
    exact ⟨_,rfl,Dn rfl⟩
  · refine Ar ⟨rfl,?_⟩;unfold lnD
    walk_at "x3"
    exact hR _ Ext.refl
  refine Ar (Ag (Am (Ci (Vy (Aj ⟨by simp,?_⟩)))));generalize hm2:m1++[MO.lst (ls.map λl=>Ae l.kd)]=m2;have gk:m2[m1.length]?=some (.lst ((Jy ls).map D.int)):=by
    rw [← hm2,Ak];unfold Jy;rw [kh];rfl
  have x2:Ext [] mh m2:=by rw [← hm2];exact x1.trans Ext.more
  have l12:m1.length < m2.length:=by rw [← hm2];simp
  refine Ar (Ag ?_);show wS _ [some w.d,some (.int h),some (spD (.take bx ls)),some (.ref m1.length),some (.ref m2.length),none,none] (m2++[MO.lst []]) _;have gk3:(m2++[MO.lst []])[m1.length]?=some (.lst ((Jy ls).map D.int)):=(Ext.more (W:=[])).old _ _ (by simp) gk
  -- behind the bell
  have loop:∀ m3:MH,Ext [] m2 m3->m3[m2.length]?=some (.lst (Ej w h ls))->wS (Ab (Hr (Cq (Ad (Ac (Gk (k+2)) fuel f74) (Aa (vr 0) (Aa (vr 1) (Aa (dop ixD (vr 2) (Zr (.int 1))) (Zr [])))))) (Ai 5)
     (Ab (Aq (Ad (Ac (Gk (k+2)) fuel f53) (Aa (vr 0) (Aa (vr 5) (Aa (vr 1) (Zr []))))) (Ai 6))
      (Ab (ifS (Je (Ah (dop gtD (Ad Dd (Aa (vr 6) (Zr []))) (Zr (.int 0)))) (Ah (dop (inD false) (dop ixD (dop ixD (vr 6) (Zr (.int 0))) (Zr (.int 0))) (vr 3))))
      (Ab (Jg (Dq "list" Eg (vr 4) (Aa (Bs (Aa (vr 5) (Aa (dop ixD (dop ixD (vr 6) (Zr (.int 0))) (Zr (.int 0))) (Zr [])))) (Zr []))))
       Zn)
      Zn)
      Zn)))
     (Ab (retS (vr 4))
     Zn)) [some w.d,some (.int h),some (spD (.take bx ls)),some (.ref m1.length),some (.ref m2.length),none,none] m3 (bZ P):=λm3 x3 gf=>by
    have bl1:(Ej w h ls).length<=1:=by unfold Ej;split <;> simp
    refine Am (Gm (Im (Ca (Ax (Be (by with_unfolding_all rfl) (Ax (Be (by with_unfolding_all rfl) (Ax ?_))))))));dsimp only [spD]
    walk_at "x3"
    refine Yy k h bx hb po wo hh λjs m4 x4 hj gs=>?_
    have jf:m2.length < m3.length:=(cg.mp gf).1;refine ⟨_,src_list gs,(Dt p w h bx).map Ae,λi l m=>Ext [m2.length] m4 m/\m[m2.length]?=some (.lst (Ej w h ls++((Dt p w h bx).take i).flatMap (Hy w h (Jy ls))))/\∃ x5 x6,l=[some w.d,some (.int h),some (spD (.take bx ls)),some (.ref m1.length),some (.ref m2.length),x5,x6],⟨Ext.refl,by rw [x4.old _ _ (by simp) gf];simp,none,none,rfl⟩,?_,?_,?_⟩
    · rintro i l m ⟨xm,_,_⟩;exact Dk (xm.old _ _ (by intro z;have:=ao.mp z;omega) gs)
    · rintro i d l m ed ⟨xm,gm,x5,x6,rfl⟩;rw [cj] at ed;cases es:(Dt p w h bx)[i]? with
      | none=>rw [es] at ed;cases ed
      | some s =>
        rw [es] at ed;cases ed;have hs:=M4 wo hh (gn es);have tf:=mU (w:=w) (h:=h) (ks:=Jy ls) es;have gk4:m[m1.length]?=some (.lst ((Jy ls).map D.int)):=xm.old _ _ (by intro z;have:=ao.mp z;omega) (x4.old _ _ (by simp) (x3.old _ _ (by simp) gk));refine Ar ?_;show wS _ [some w.d,some (.int h),some (spD (.take bx ls)),some (.ref m1.length),some (.ref m2.length),some (Ae s),x6] m _
        walk_at "x3"
        refine Fz (k+1) s h wo hs hh ?_
        walk_at "x3"
        cases ec:w.cell s h with
        | nil =>
          rw [Yz ec] at tf;refine Ay (d:=.int 0) (h:=m) rfl ?_
          walk_at "x3"
          exact ⟨xm,by rw [tf];simpa using gm,_,_,rfl⟩
        | cons l0 lr =>
          refine Bj (ds:=(l0::lr).map ltD) (by intro z z';cases z') rfl ?_
          walk_at "x3"
          refine Px (by rw [ak,jj];exact decide_eq_true (by omega)) ?_;unfold lsD;rw [iu];unfold ltD
          walk_at "x3"
          refine Ay (Ym gk4) ⟨_,rfl,Bv (λe=>?_) λe=>?_⟩
          · have e:=of_decide_eq_true e;rw [Wc ec e] at tf
            walk_at "x3"
            refine ⟨ty_list gm,?_⟩
            walk_at "x3"
            have fl:=Ry (w:=w) (h:=h) (ks:=Jy ls) ((Dt p w h bx).take i);have tl:((Dt p w h bx).take i).length<=6:=by rw [qd];omega
            refine Hw gm (by rw [dg];omega) ?_
            walk_at "x3"
            refine ⟨xm.trans Ext.set,?_,_,_,rfl⟩;rw [Ip gm,tf,BV]
          · have e:=of_decide_eq_false e;rw [gK ec e] at tf;refine Bh (Ag (Bh ⟨xm,by rw [tf];simpa using gm,_,_,rfl⟩))
    · rintro l m ⟨xm,gm,x5,x6,rfl⟩;rw [ak,rz] at gm
      walk_at "x3"
      refine q _ _ ?_ x2.len gm;have lm2:mh.length<=m2.length:=x2.len;refine ⟨dz x2.len (dz x3.len (dz x4.len xm.len)),λi o _ e=>?_⟩;have hi:i < mh.length:=(cg.mp e).1;exact xm.old i o (by intro z;have:=ao.mp z;omega) (x4.old i o (by simp) (x3.old i o (by simp) (x2.old i o (by simp) e)))
  refine Am (Fi (fJ (Ce (Bm (Aj (Be (by with_unfolding_all rfl) (Ay (Ym gk3) ⟨_,rfl,λe=>?_,λe=>?_⟩)))))))
  · walk_at "x3"
    refine Fq (k+1) h (by rw [wo.lp];exact hh) ?_;unfold Pt.d
    walk_at "x3"
    refine Bv (λe2=>?_) λe2=>?_
    · walk_at "x3"
      refine ⟨ty_list Ak,?_⟩
      walk_at "x3"
      refine Hw Ak (by simp) ?_;refine Bh (Ag (loop _ ?_ ?_))
      · exact ⟨by simp,λi o _ ei=>by
          have:i < m2.length:=(cg.mp ei).1
          rw [iy (by omega),ju this];exact ei⟩
      · rw [Ip Ak];unfold Ej;rw [e,e2];rfl
    · refine Bh (Ag (loop _ Ext.more ?_));rw [Ak];unfold Ej;rw [e,e2];rfl
  · refine Er (Bh (Ag (loop _ Ext.more ?_)));rw [Ak];unfold Ej;rw [e];rfl
end
noncomputable def Amr:D->Bool
 | .non=>true
 | _=>false
theorem wX {mh:MH}{d:D}{P:D->MH->Prop}(h:P (.bl (Amr d)) mh):wV (isD false d .non mh) P:=⟨_,_,rfl,by cases d <;> exact h⟩
noncomputable def chs (p:Pg) (w:Wd) (h:Nat):Sp->List D
 | .choose _ c=>(dm c).map Ae
 | .pick _ r=>(oth p r h).map Jj
 | .out _ g _=>Jk ((w.pt h).se g)
 | .take bx ls=>K4 p w h bx ls
 | .send a _ _ _=>if Ji p w h a=true then [.int 0] else []
 | _=>[.int 0]
noncomputable def chW (p:Pg) (S:List (List Sp)) (w:Wd) (h:Nat):List D:=match stW p S w h with
 | none=>[]
 | some s=>chs p w h s
theorem cL (k:Nat) (t:D) (mh:MH):Ac (Gk (k+1)) fuel fP [.obj "Step" ["form"] [t]] mh=some (t,mh):=by kernel_rfl
section
variable {mh:MH}{P:D->MH->Prop}{p:Pg}{w:Wd}{S:List (List Sp)}
theorem wY {h:Nat}{s:Sp}(g:Prg p S) (hh:h < p.plays.length) (e:stW p S w h=some s):s.ok p (p.len (plA p h))/\0<=(w.pt h).pl/\(w.pt h).pl < p.len (plA p h):=by
 unfold stW stA at e;split at e
 ·rename_i h0;have hr:plA p h < S.length:=by rw [← Uq g];exact Adn g.po hh
  have eS:S[plA p h]?=some S[plA p h]:=au hr;rw [eS] at e;have e:S[plA p h][(w.pt h).pl.toNat]?=some s:=e;have hl:=(cg.mp e).1;have el:p.len (plA p h)=S[plA p h].length:=by rw [len_eq g,eS];rfl
  refine ⟨?_,h0,by omega⟩;rw [el];exact g.ok _ _ eS s (gn e)
 ·cases e
theorem Oz (k h:Nat) (g:Prg p S) (wo:w.ok p) (hh:h < p.plays.length) (q:∀ j h',Ext [] mh h'->mh.length<=j->h'[j]?=some (.lst (chW p S w h))->P (.ref j) h'):wV (Ac (Gk (k+4)) fuel f70 [p.d,w.d,.int h] mh) P:=by
 have po:=g.po;have h6:=po.h6;obtain ⟨r0,er0,qo⟩:=Yu wo hh;have hH:p.H<=6:=h6;refine Af (Ahj (k+3)) vO.1 vO.2 rfl ?_;show wS (b70 (k+3)) [some p.d,some w.d,some (.int h),none,none] mh _;unfold b70
 walk_at "x3"
 refine Jw k h g wo hh ?_;unfold chW at q;cases es:stW p S w h with
 | none =>
  rw [es] at q;unfold gJ
  walk_at "x3"
  refine wX ?_
  walk_at "x3"
  exact q _ _ Ext.more (bh _) Ak
 | some s =>
  rw [es] at q;obtain ⟨so,p1,p2⟩:=wY g hh es;have q:∀ j h',Ext [] mh h'->mh.length<=j->h'[j]?=some (.lst (chs p w h s))->P (.ref j) h':=q;refine Ar (Ag (Am (Fi (Ce (Bm (Be (by with_unfolding_all rfl) (Aj (wX ⟨_,rfl,λe=>(by cases e),λ_=>Bh (Ag ?_)⟩))))))))
  refine Am (Ci (tU (Be (d:=.obj "Step" ["form"] [spD s]) (by with_unfolding_all rfl) ⟨_,_,_,_,_,rfl,rfl,by decide +kernel,Aj (Ay (cL (k+2) (spD s) mh) ?_)⟩)));refine Ar (Ag ?_);show wS _ [some p.d,some w.d,some (.int h),some (gJ (some s)),some (spD s)] mh _
  by_cases hn:(∃ (wd:Str) (rest:List D),spD s=.tup (.str wd::rest)/\jq wd=true/\(wd==("choose":Str))=false/\(wd==("pick":Str))=false/\(wd==("out":Str))=false/\(wd==("take":Str))=false/\(wd==("send":Str))=false)/\chs p w h s=[.int 0]
  ·obtain ⟨⟨wd,rest,e,h0,h1,h2,h3,h4,h5⟩,ec⟩:=hn;rw [ec] at q;have ix:∀ {Q:D->MH->Prop} {m:MH},Q (.str wd) m->wV (ixD (spD s) (.int 0) m) Q:=λq=>by
    rw [e];exact Hl q
   walk_at "x3"
   refine ix ?_;refine Aj (Gv (k:=false) (Fw h0 (by decide +kernel) h1 mh) ⟨_,rfl,Er (Bh (Ag ?_))⟩)
   walk_at "x3"
   refine ix ?_;refine Aj (Gv (k:=false) (Fw h0 (by decide +kernel) h2 mh) ⟨_,rfl,Er (Bh (Ag ?_))⟩)
   walk_at "x3"
   refine ix ?_;refine Aj (Gv (k:=false) (Fw h0 (by decide +kernel) h3 mh) ⟨_,rfl,Er (Bh (Ag ?_))⟩)
   walk_at "x3"
   refine ix ?_;refine Aj (Gv (k:=false) (Fw h0 (by decide +kernel) h4 mh) ⟨_,rfl,Er (Bh (Ag ?_))⟩)
   walk_at "x3"
   refine ix ?_;refine Aj (Gv (k:=false) (Fw h0 (by decide +kernel) h5 mh) ⟨_,rfl,Er (Er (Bh (Ag ?_)))⟩)
   walk_at "x3"
   exact q _ _ Ext.more (bh _) Ak
  cases s with
  | choose a c =>
   dsimp only [spD]
   walk_at "x3"
   exact Lg (c:=c) (by have:=so.2;omega) (q _ _ Ext.more (bh _) Ak)
  | pick a r =>
   dsimp only [spD]
   walk_at "x3"
   have lo:(oth p r h).length<=6:=dz (jx _ _) (dz Oa h6);refine Cm (oth p r h) Ae Jj (by omega) ?_ (λx h' R hx ex hR=>?_) λh' ex=>?_
   ·walk_at "x3"
    refine gG (k+1) r h p po mh λj h1 x1 gj=>?_
    exact ⟨_,src_list gj,x1,gF gj⟩
   ·refine Ar ⟨rfl,?_⟩
    walk_at "x3"
    exact hR _ Ext.refl
   ·walk_at "x3"
    exact q _ _ (ex.trans Ext.more) ex.len Ak
  | out a gg qq =>
   dsimp only [spD]
   walk_at "x3"
   refine Fq (k+2) h (by rw [wo.lp];exact hh) ?_;unfold Pt.d
   walk_at "x3"
   refine gH so.1.2 ?_
   walk_at "x3"
   refine Acl k _ (fu (Pt.se_ok qo) (za (by decide) (by omega))) λj h1 x1 lj gj=>?_
   exact q _ _ x1 lj gj
  | take bx ls =>
   refine Am (Fi (Ce (Bm (Bm (Be (by with_unfolding_all rfl) (Aj ?_))))));dsimp only [spD]
   walk_at "x3"
   exact wW k h bx ls so.1 so.2.1 po wo hh λj h1 x1 lj gj=>q _ _ x1 lj gj
  | send a kd b c =>
   refine Am (Fi (Ce (Bm (Bm (Be (by with_unfolding_all rfl) (Aj ?_))))));dsimp only [spD]
   walk_at "x3"
   refine Yx (k+1) h a kd b c g wo hh so.1.1 ⟨_,rfl,?_⟩;have q:∀ j h',Ext [] mh h'->mh.length<=j->h'[j]?=some (.lst (if Ji p w h a=true then [.int 0] else []))->P (.ref j) h':=q;cases em:Ji p w h a with
   | true =>
    rw [em] at q
    walk_at "x3"
    exact q _ _ Ext.more (bh _) Ak
   | false =>
    rw [em] at q
    walk_at "x3"
    exact q _ _ Ext.more (bh _) Ak
  | _=>exact absurd ⟨⟨_,_,rfl,by decide +kernel,by decide +kernel,by decide +kernel,by decide +kernel,by decide +kernel,by decide +kernel⟩,rfl⟩ hn
end
theorem Ke {P:D->MH->Prop}{d:D}{l:DL.Loc}{h:MH}(q:P d h):bZ P (.rt d) l h:=q
noncomputable def Pt.setN (q:Pt) (a:Nat) (n:Int):Pt:=match a with
 | 0=>{ q with n0:=n }
 | 1=>{ q with n1:=n }
 | _=>{ q with n2:=n }
noncomputable def Pt.setM (q:Pt) (a:Nat) (n:Int):Pt:=match a with
 | 0=>{ q with m0:=n }
 | 1=>{ q with m1:=n }
 | _=>{ q with m2:=n }
noncomputable def Pt.setS (q:Pt) (a:Nat) (n:Nat):Pt:=match a with
 | 0=>{ q with s0:=n }
 | _=>{ q with s1:=n }
noncomputable def Pt.to (q:Pt) (pl:Int):Pt:={ q with pl:=pl }
noncomputable def Pt.ring (q:Pt) (b:Bool):Pt:={ q with bell:=b }
theorem Kf (k:Nat) (q:Pt) {a:Nat}(ha:a < 3) (n:Int) (mh:MH):Ac (Gk (k+2)) fuel f21 [q.d,Ae a,.int n] mh=some ((q.setN a n).d,mh):=by
 match a,ha with
 | 0,_=>kernel_rfl
 | 1,_=>kernel_rfl
 | 2,_=>kernel_rfl
theorem Kg (k:Nat) (q:Pt) {a:Nat}(ha:a < 3) (n:Int) (mh:MH):Ac (Gk (k+2)) fuel f22 [q.d,Ae a,.int n] mh=some ((q.setM a n).d,mh):=by
 match a,ha with
 | 0,_=>kernel_rfl
 | 1,_=>kernel_rfl
 | 2,_=>kernel_rfl
theorem M5 (k:Nat) (q:Pt) {a:Nat}(ha:a < 2) (n:Nat) (mh:MH):Ac (Gk (k+2)) fuel f23 [q.d,Ae a,.int n] mh=some ((q.setS a n).d,mh):=by
 match a,ha with
 | 0,_=>kernel_rfl
 | 1,_=>kernel_rfl
theorem gM (k:Nat) (q:Pt) (b:Bool) (mh:MH):Ac (Gk (k+2)) fuel f24 [q.d,.bl b] mh=some ((q.ring b).d,mh):=by kernel_rfl
theorem Rz (k:Nat) (q:Pt) (pl:Int) (mh:MH):Ac (Gk (k+2)) fuel f25 [q.d,.int pl] mh=some ((q.to pl).d,mh):=by kernel_rfl
theorem Cj (k:Nat) (q:Pt) (mh:MH):Ac (Gk (k+3)) fuel f26 [q.d] mh=some ((q.to (q.pl+1)).d,mh):=by kernel_rfl
section
variable {H L:Nat}{q:Pt}
theorem Kh (h:q.ok H L) (a:Nat) (n:Int):(q.setN a n).ok H L:=by
 unfold Pt.setN;split <;> exact ⟨h.pl1,h.pl2,h.a0,h.a1,h.a2,h.b0,h.b1⟩
theorem Kl (h:q.ok H L) (a:Nat) {n:Int}(hn:-1<=n/\n<=(H:Int) - 1):(q.setM a n).ok H L:=by
 unfold Pt.setM;split
 ·exact ⟨h.pl1,h.pl2,hn,h.a1,h.a2,h.b0,h.b1⟩
 ·exact ⟨h.pl1,h.pl2,h.a0,hn,h.a2,h.b0,h.b1⟩
 ·exact ⟨h.pl1,h.pl2,h.a0,h.a1,hn,h.b0,h.b1⟩
theorem M6 (h:q.ok H L) (a:Nat) {n:Nat}(hn:n < 2 ^ H):(q.setS a n).ok H L:=by
 unfold Pt.setS;split
 ·exact ⟨h.pl1,h.pl2,h.a0,h.a1,h.a2,hn,h.b1⟩
 ·exact ⟨h.pl1,h.pl2,h.a0,h.a1,h.a2,h.b0,hn⟩
theorem M7 (h:q.ok H L) {pl:Int}(h1:-1<=pl) (h2:pl<=L):(q.to pl).ok H L:=⟨h1,h2,h.a0,h.a1,h.a2,h.b0,h.b1⟩
theorem gO (h:q.ok H L) (b:Bool):(q.ring b).ok H L:=⟨h.pl1,h.pl2,h.a0,h.a1,h.a2,h.b0,h.b1⟩
theorem Ek (a:Nat) (n:Int):(q.setN a n).pl=q.pl:=by unfold Pt.setN;split <;> rfl
theorem Ey (a:Nat) (n:Int):(q.setM a n).pl=q.pl:=by unfold Pt.setM;split <;> rfl
theorem Ez (a:Nat) (n:Nat):(q.setS a n).pl=q.pl:=by unfold Pt.setS;split <;> rfl
end
theorem Y0 {f:D->D->MH->Option (D×MH)}{x y d:D}{mh:MH}{P:D->MH->Prop}(e:∀ mh,f x y mh=some (d,mh)) (h:P d mh):wV (f x y mh) P:=⟨_,_,e mh,h⟩
theorem R3 {f:D->D->MH->Option (D×MH)}{x y:D}{b:Bool}{mh:MH}{P:D->MH->Prop}(e:∀ mh,f x y mh=some (.bl b,mh)) (h:P (.bl b) mh):wV (f x y mh) P:=⟨_,_,e mh,h⟩
theorem Zi {x y:D}{mh:MH}{P:D->MH->Prop}(e:∀ mh,inD false x y mh=some (.bl false,mh)) (h:P (.bl false) mh):wV (inD false x y mh) P:=⟨_,_,e mh,h⟩
local macro_rules | `(tactic| walk_at "x0") => `(tactic| repeat (first | walk_at "s" | with_reducible refine Ke ?_ | with_reducible refine Ir (by simp) ?_ | with_reducible refine Hl ?_ | with_reducible refine Gp ?_ | with_reducible refine Ds ?_ | with_reducible refine Iv ?_ | with_reducible refine N6 ?_ | with_reducible refine Agj (by kernel_rfl) (by kernel_rfl) (by decide +kernel) ?_ | with_reducible refine Agk (by kernel_rfl) (by kernel_rfl) (by decide +kernel) ?_))
section
variable {mh:MH}{P:D->MH->Prop}{p:Pg}{w:Wd}{S:List (List Sp)}{L:Nat}{q:Pt}
theorem wZ (k s:Nat) (hs:s < 2 ^ 20) (h:∀ h',Ext [] mh h'->P (.int ((mem s).length:Nat)) h'):wV (Ac (Gk (k+3)) fuel f5 [.int s] mh) P:=by
 refine Af (Ak6 (k+2)) Adk.1 Adk.2 rfl ?_;show wS (b5 (k+2)) [some (.int s)] mh _;unfold b5
 walk_at "x0"
 refine Jv k s hs mh λh1 x1=>?_
 walk_at "x0"
 exact Bj (ds:=(mem s).map Ae) (by intro z z';cases z') rfl (by rw [ak];exact h _ x1)
theorem Acm {s m:Nat}(hm:s.testBit m=true):((s:Nat):Int) - ((setOf [m]:Nat):Int)=((s - 2 ^ m:Nat):Int):=by
 have e:setOf [m]=2 ^ m:=by show (0 ||| 2 ^ m)=2 ^ m;exact Nat.zero_or _
 have:=zb hm;rw [e];omega
theorem Ak8 {s H:Nat}(h6:H<=6) (h:s < 2 ^ H):s < 2 ^ 20:=fu h (za (by decide) (by omega))
noncomputable def Pt.on (q:Pt):Pt:=q.to (q.pl+1)
noncomputable def cInt:D->Int
 | .int i=>i
 | .tup [.int i]=>i
 | _=>0
noncomputable def Pt.jp (q:Pt) (b:Bool) (t:Nat):Pt:=if b=true then q.to (t:Nat) else q.on
noncomputable def quF (p:Pg) (h:Nat) (q:Pt) (c:D):Sp->Pt
 | .put a n=>(q.setN a n).on
 | .copy a b=>(q.setN a (q.nu b)).on
 | .raise a n=>(q.setN a (q.nu a+n)).on
 | .sum a b=>(q.setN a (q.nu a+q.nu b)).on
 | .choose a _=>(q.setN a (cInt c)).on
 | .me a=>(q.setM a (h:Nat)).on
 | .only a r=>(q.setM a (((hands p r).headD 0:Nat))).on
 | .pick a _=>(q.setM a (cInt c)).on
 | .all g r=>(q.setS g (setOf (oth p r h))).on
 | .empty g=>(q.setS g 0).on
 | .join g a=>(q.setS g (if q.nm a=-1 then q.se g else q.se g ||| setOf [(q.nm a).toNat])).on
 | .out a g t=>if q.se g=0 then q.to (t:Nat) else ((q.setS g (q.se g - 2 ^ (cInt c).toNat)).setM a (cInt c)).on
 | .bell=>(q.ring true).on
 | .less a n t=>q.jp (decide (q.nu a < n)) t
 | .before a b t=>q.jp (decide (q.nu a < q.nu b)) t
 | .go t=>q.to (t:Nat)
 | .alike a b t=>q.jp (q.nm a==q.nm b) t
 | .many g n t=>q.jp (decide ((n:Int)<=((mem (q.se g)).length:Nat))) t
 | _=>q
theorem mV (k h:Nat) (g:Prg p S) (wo:w.ok p) (hh:h < p.plays.length) (s:Sp) (so:s.ok p L) (qo:(w.pt h).ok p.H L) (p1:0<=(w.pt h).pl) (p2:(w.pt h).pl < L) (c:D) (hc:c∈chs p w h s) (ht:∀ bx ls,s≠.take bx ls) (hs:∀ a kd b c,s≠.send a kd b c)
  (f:∀ (q':Pt) h',q'.ok p.H L->0<=q'.pl->q'=quF p h (w.pt h) c s->Ext [] mh h'->P q'.d h'):wV (Ac (Gk (k+5)) fuel f80 [p.d,.int h,(w.pt h).d,spD s,c] mh) P:=by
 have po:=g.po;have hH:p.H<=6:=po.h6;refine Af (Ahp (k+4)) vW.1 vW.2 rfl ?_;show wS (b80 (k+4)) [some p.d,some (.int h),some (w.pt h).d,some (spD s),some c,none] mh _;unfold b80;generalize hq:w.pt h=q at qo p1 p2 f;have mv:∀ (y:Pt),y.ok p.H L->y.pl=q.pl->(y.to (y.pl+1)).ok p.H L:=λy yo ye=>M7 yo (by omega) (by omega)
 have mp:∀ (y:Pt),y.pl=q.pl->0<=(y.to (y.pl+1)).pl:=λy e=>by show 0<=y.pl+1;omega
 have ix3:∀ {P:D->MH->Prop} {m:MH},P (.tup [.int q.n0,.int q.n1,.int q.n2]) m->wV (ixD q.d (.int 1) m) P:=λh=>Gp h
 have ixM:∀ {P:D->MH->Prop} {m:MH},P (.tup [.int q.m0,.int q.m1,.int q.m2]) m->wV (ixD q.d (.int 2) m) P:=λh=>Ds h
 have ixS:∀ {P:D->MH->Prop} {m:MH},P (.tup [.int q.s0,.int q.s1]) m->wV (ixD q.d (.int 3) m) P:=λh=>Iv h
 cases s with
 | put a n =>
  dsimp only [spD]
  walk_at "x0"
  refine R3 (f:=inD false) (b:=true) (λ_=>by kernel_rfl) ?_
  walk_at "x0"
  refine ix3 ?_
  walk_at "x0"
  refine Af (Rt (k+3)) Hi.1 Hi.2 rfl ?_;show wS (b81 (k+3)) [some (.tup [.int q.n0,.int q.n1,.int q.n2]),some _,some _,none] mh _;unfold b81
  walk_at "x0"
  walk_at "x0"
  refine Ay (Kf (k+2) q so _ mh) ?_
  walk_at "x0"
  refine Ay (Cj (k+1) _ _) ?_;exact f _ _ (mv _ (Kh qo _ _) (Ek _ _)) (mp _ (Ek _ _)) rfl Ext.refl
 | copy a b =>
  dsimp only [spD]
  walk_at "x0"
  refine R3 (f:=inD false) (b:=true) (λ_=>by kernel_rfl) ?_
  walk_at "x0"
  refine ix3 ?_
  walk_at "x0"
  refine Af (Rt (k+3)) Hi.1 Hi.2 rfl ?_;show wS (b81 (k+3)) [some (.tup [.int q.n0,.int q.n1,.int q.n2]),some _,some _,none] mh _;unfold b81
  walk_at "x0"
  refine Ox so.2 ?_
  walk_at "x0"
  refine Ay (Kf (k+2) q so.1 _ mh) ?_
  walk_at "x0"
  refine Ay (Cj (k+1) _ _) ?_;exact f _ _ (mv _ (Kh qo _ _) (Ek _ _)) (mp _ (Ek _ _)) rfl Ext.refl
 | raise a n =>
  dsimp only [spD]
  walk_at "x0"
  refine R3 (f:=inD false) (b:=true) (λ_=>by kernel_rfl) ?_
  walk_at "x0"
  refine ix3 ?_
  walk_at "x0"
  refine Af (Rt (k+3)) Hi.1 Hi.2 rfl ?_;show wS (b81 (k+3)) [some (.tup [.int q.n0,.int q.n1,.int q.n2]),some _,some _,none] mh _;unfold b81
  walk_at "x0"
  refine Ox so ?_
  walk_at "x0"
  refine Ay (Kf (k+2) q so _ mh) ?_
  walk_at "x0"
  refine Ay (Cj (k+1) _ _) ?_;exact f _ _ (mv _ (Kh qo _ _) (Ek _ _)) (mp _ (Ek _ _)) rfl Ext.refl
 | sum a b =>
  dsimp only [spD]
  walk_at "x0"
  refine R3 (f:=inD false) (b:=true) (λ_=>by kernel_rfl) ?_
  walk_at "x0"
  refine ix3 ?_
  walk_at "x0"
  refine Af (Rt (k+3)) Hi.1 Hi.2 rfl ?_;show wS (b81 (k+3)) [some (.tup [.int q.n0,.int q.n1,.int q.n2]),some _,some _,none] mh _;unfold b81
  walk_at "x0"
  refine Ox so.1 ?_
  walk_at "x0"
  refine Ox so.2 ?_
  walk_at "x0"
  refine Ay (Kf (k+2) q so.1 _ mh) ?_
  walk_at "x0"
  refine Ay (Cj (k+1) _ _) ?_;exact f _ _ (mv _ (Kh qo _ _) (Ek _ _)) (mp _ (Ek _ _)) rfl Ext.refl
 | choose a n =>
  obtain ⟨i,_,rfl⟩:=di.mp (show c∈(dm n).map Ae from hc);dsimp only [spD]
  walk_at "x0"
  refine R3 (f:=inD false) (b:=true) (λ_=>by kernel_rfl) ?_
  walk_at "x0"
  refine ix3 ?_
  walk_at "x0"
  refine Af (Rt (k+3)) Hi.1 Hi.2 rfl ?_;show wS (b81 (k+3)) [some (.tup [.int q.n0,.int q.n1,.int q.n2]),some _,some _,none] mh _;unfold b81
  walk_at "x0"
  walk_at "x0"
  refine Ay (Kf (k+2) q so.1 _ mh) ?_
  walk_at "x0"
  refine Ay (Cj (k+1) _ _) ?_;exact f _ _ (mv _ (Kh qo _ _) (Ek _ _)) (mp _ (Ek _ _)) rfl Ext.refl
 | me a =>
  dsimp only [spD]
  walk_at "x0"
  refine Zi (λ_=>by kernel_rfl) ?_
  walk_at "x0"
  refine R3 (f:=inD false) (b:=true) (λ_=>by kernel_rfl) ?_
  walk_at "x0"
  refine Af (cD (k+3)) Nz.1 Nz.2 rfl ?_;show wS (b82 (k+3)) [some p.d,some (.int h),some _,some _,none] mh _;unfold b82
  walk_at "x0"
  refine Ay (Kg (k+2) q so (h:Int) mh) ?_
  walk_at "x0"
  refine Ay (Cj (k+1) _ _) ?_;have hh:h < p.H:=hh;exact f _ _ (mv _ (Kl qo _ ⟨by omega,by omega⟩) (Ey _ _)) (mp _ (Ey _ _)) rfl Ext.refl
 | only a r =>
  dsimp only [spD]
  walk_at "x0"
  refine Zi (λ_=>by kernel_rfl) ?_
  walk_at "x0"
  refine R3 (f:=inD false) (b:=true) (λ_=>by kernel_rfl) ?_
  walk_at "x0"
  refine Af (cD (k+3)) Nz.1 Nz.2 rfl ?_;show wS (b82 (k+3)) [some p.d,some (.int h),some _,some _,none] mh _;unfold b82
  walk_at "x0"
  refine Uo (k+2) r p po mh λm1 x1=>?_
  cases eh:hands p r with
  | nil=>exact absurd eh so.2
  | cons y ys =>
   have hy:y < p.H:=Rv (r:=r) (by rw [eh];exact jb);unfold Bk;rw [iu]
   walk_at "x0"
   refine Ay (Kg (k+2) q so.1 (y:Int) m1) ?_
   walk_at "x0"
   refine Ay (Cj (k+1) _ _) ?_;exact f _ _ (mv _ (Kl qo _ ⟨by omega,by omega⟩) (Ey _ _)) (mp _ (Ey _ _)) (by dsimp only [quF];rw [eh];rfl) x1
 | pick a r =>
  obtain ⟨y,hy,rfl⟩:=di.mp (show c∈(oth p r h).map Jj from hc);have hy:y < p.H:=N8 hy;dsimp only [spD]
  walk_at "x0"
  refine Zi (λ_=>by kernel_rfl) ?_
  walk_at "x0"
  refine R3 (f:=inD false) (b:=true) (λ_=>by kernel_rfl) ?_
  walk_at "x0"
  refine Af (cD (k+3)) Nz.1 Nz.2 rfl ?_;show wS (b82 (k+3)) [some p.d,some (.int h),some _,some _,none] mh _;unfold b82
  walk_at "x0"
  unfold Jj
  walk_at "x0"
  refine Ay (Kg (k+2) q so (y:Int) mh) ?_
  walk_at "x0"
  refine Ay (Cj (k+1) _ _) ?_;exact f _ _ (mv _ (Kl qo _ ⟨by omega,by omega⟩) (Ey _ _)) (mp _ (Ey _ _)) rfl Ext.refl
 | all gg r =>
  dsimp only [spD]
  walk_at "x0"
  refine Zi (λ_=>by kernel_rfl) ?_
  walk_at "x0"
  refine Zi (λ_=>by kernel_rfl) ?_
  walk_at "x0"
  refine R3 (f:=inD false) (b:=true) (λ_=>by kernel_rfl) ?_
  walk_at "x0"
  refine Af (cF (k+3)) N5.1 N5.2 rfl ?_;show wS (b83 (k+3)) [some p.d,some (.int h),some q.d,some _,none,none,none] mh _;unfold b83
  walk_at "x0"
  refine gG (k+1) r h p po mh λj m1 x1 gj=>?_
  walk_at "x0"
  refine Lf (k+2) j (oth p r h) m1 gj (λx hx=>by have:x < p.H:=N8 hx;omega) ?_
  walk_at "x0"
  refine Ay (M5 (k+2) q so _ m1) ?_
  walk_at "x0"
  refine Ay (Cj (k+1) _ _) ?_;exact f _ _ (mv _ (M6 qo _ (Yw λx hx=>N8 hx)) (Ez _ _)) (mp _ (Ez _ _)) rfl x1
 | empty gg =>
  dsimp only [spD]
  walk_at "x0"
  refine Zi (λ_=>by kernel_rfl) ?_
  walk_at "x0"
  refine Zi (λ_=>by kernel_rfl) ?_
  walk_at "x0"
  refine R3 (f:=inD false) (b:=true) (λ_=>by kernel_rfl) ?_
  walk_at "x0"
  refine Af (cF (k+3)) N5.1 N5.2 rfl ?_;show wS (b83 (k+3)) [some p.d,some (.int h),some q.d,some _,none,none,none] mh _;unfold b83
  walk_at "x0"
  refine Ay (M5 (k+2) q so 0 mh) ?_
  walk_at "x0"
  refine Ay (Cj (k+1) _ _) ?_;exact f _ _ (mv _ (M6 qo _ (HN _)) (Ez _ _)) (mp _ (Ez _ _)) rfl Ext.refl
 | join gg a =>
  dsimp only [spD]
  walk_at "x0"
  refine Zi (λ_=>by kernel_rfl) ?_
  walk_at "x0"
  refine Zi (λ_=>by kernel_rfl) ?_
  walk_at "x0"
  refine R3 (f:=inD false) (b:=true) (λ_=>by kernel_rfl) ?_
  walk_at "x0"
  refine Af (cF (k+3)) N5.1 N5.2 rfl ?_;show wS (b83 (k+3)) [some p.d,some (.int h),some q.d,some _,none,none,none] mh _;unfold b83
  walk_at "x0"
  unfold Pt.d
  walk_at "x0"
  refine gH so.1 ?_
  walk_at "x0"
  refine Rw so.2 ?_;have nk:=Pt.nm_ok (a:=a) qo;have sk:=Pt.se_ok (g:=gg) qo;generalize hto:q.nm a=to at nk;refine Ar (Ag (Am (Fp (tK (Ce (Bm (Be (by with_unfolding_all rfl) (Aj (Ju ⟨_,rfl,λe=>?_,λe=>?_⟩)))))))))
  ·walk_at "x0"
   refine Ay (M5 (k+2) q so.1 (q.se gg) mh) ?_
   walk_at "x0"
   refine Ay (Cj (k+1) _ _) ?_;exact f _ _ (mv _ (M6 qo _ sk) (Ez _ _)) (mp _ (Ez _ _)) (by dsimp only [quF];rw [hto,if_pos (dj e)];rfl) Ext.refl
  ·have e:=beq_eq_false_iff_ne.mp e;obtain ⟨e1,e2⟩:=Ob nk e;rw [e1]
   walk_at "x0"
   refine Lf (k+2) mh.length [to.toNat] _ (by rw [Ak];rfl) (λx hx=>by rw [ao.mp hx];omega) ?_;refine cH ?_
   walk_at "x0"
   refine Ay (M5 (k+2) q so.1 _ _) ?_
   walk_at "x0"
   refine Ay (Cj (k+1) _ _) ?_;exact f _ _ (mv _ (M6 qo _ (Nat.or_lt_two_pow sk (Yw λx hx=>by rw [ao.mp hx];exact e2))) (Ez _ _)) (mp _ (Ez _ _)) (by dsimp only [quF];rw [hto,if_neg e];rfl) Ext.more
 | out a gg qq =>
  dsimp only [spD]
  walk_at "x0"
  refine Zi (λ_=>by kernel_rfl) ?_
  walk_at "x0"
  refine Zi (λ_=>by kernel_rfl) ?_
  walk_at "x0"
  refine Zi (λ_=>by kernel_rfl) ?_
  walk_at "x0"
  refine Af (Ahq (k+3)) vX.1 vX.2 rfl ?_
  show wS (b85 (k+3)) [some q.d,some (.tup [.str "out",Ae a,Ae gg,Ae qq]),some c,none,none] mh _;unfold b85;have hc:c∈Jk (q.se gg):=by rw [← hq];exact hc
  have sk:=Pt.se_ok (g:=gg) qo;obtain ⟨⟨ha,hg⟩,hqq⟩:=so;refine Am (Ci (Bm (Bm (Be (by with_unfolding_all rfl) (Aj (Iv ?_))))))
  walk_at "x0"
  refine gH hg ?_;unfold Jk at hc;refine Ar (Ag (Am (Fi (Ce (Bm (Be (by with_unfolding_all rfl) (Aj (Ju ⟨_,rfl,λe=>?_,λe=>?_⟩))))))))
  ·walk_at "x0"
   refine Ay (Rz (k+1) q _ _) ?_
   walk_at "x0"
   exact f _ _ (M7 qo (by omega) (by omega)) (by show (0:Int)<=(qq:Nat);omega) (by dsimp only [quF];rw [if_pos (by have e:((q.se gg:Nat):Int)=0:=dj e;omega)]) Ext.refl
  ·have e:¬ ((q.se gg:Nat):Int)=0:=beq_eq_false_iff_ne.mp e;rw [if_neg (by omega)] at hc;obtain ⟨m,hm,rfl⟩:=di.mp hc;have hb:(q.se gg).testBit m=true:=(Rp.mp hm).2;have hmH:m < p.H:=by
    rcases MP m p.H with z|z
    ·exact z
    ·have:=zb hb;have:=za (n:=2) (by decide) z;omega
   refine Bh (Ag (Am (Ci (Ca (Ax (Be (by with_unfolding_all rfl) (Ax ?_))))))) 
   walk_at "x0"
   refine Yv (k+2) [m] _ (λx hx=>by rw [ao.mp hx];omega) ?_;refine tQ ?_;rw [Acm hb]
   walk_at "x0"
   refine Ay (M5 (k+1) q hg _ _) ?_
   walk_at "x0"
   unfold Jj
   walk_at "x0"
   refine Ay (Kg (k+1) _ ha (m:Int) _) ?_
   walk_at "x0"
   refine Ay (Cj k _ _) ?_
   walk_at "x0"
   refine f _ _ (mv _ (Kl (M6 qo _ (JK (Nat.sub_le _ _) sk)) _ ⟨by omega,by omega⟩) (by rw [Ey,Ez])) (mp _ (by rw [Ey,Ez])) (by dsimp only [quF];rw [if_neg (by omega)];rfl) Ext.refl
 | bell =>
  dsimp only [spD]
  walk_at "x0"
  refine Zi (λ_=>by kernel_rfl) ?_
  walk_at "x0"
  refine Zi (λ_=>by kernel_rfl) ?_
  walk_at "x0"
  refine Zi (λ_=>by kernel_rfl) ?_
  walk_at "x0"
  refine Ay (gM (k+2) q true mh) ?_
  walk_at "x0"
  refine Ay (Cj (k+1) _ _) ?_;exact f _ _ (mv _ (gO qo _) rfl) (mp _ rfl) rfl Ext.refl
 | less a n qq =>
  dsimp only [spD]
  walk_at "x0"
  refine Zi (λ_=>by kernel_rfl) ?_
  walk_at "x0"
  refine Zi (λ_=>by kernel_rfl) ?_
  walk_at "x0"
  refine Zi (λ_=>by kernel_rfl) ?_
  walk_at "x0"
  refine Af (Ru (k+3)) Hj.1 Hj.2 rfl ?_;show wS (b84 (k+3)) [some q.d,some _,none] mh _;unfold b84
  walk_at "x0"
  refine ix3 ?_
  walk_at "x0"
  refine Ox so.1 ?_
  walk_at "x0"
  have sq:=so.2;refine Bv (λe=>?_) λe=>?_
  ·walk_at "x0"
   refine Y0 (f:=ixD) (d:=Ae qq) (λ_=>by kernel_rfl) ?_
   walk_at "x0"
   refine Ay (Rz (k+2) q _ _) ?_;exact f _ _ (M7 qo (by omega) (by omega)) (by show (0:Int)<=(qq:Nat);omega) (by show _=Pt.jp _ _ _;unfold Pt.jp;exact (if_pos e).symm) Ext.refl
  ·walk_at "x0"
   refine Ay (Cj (k+1) _ _) ?_;exact f _ _ (mv _ qo rfl) (mp _ rfl) (by show _=Pt.jp _ _ _;unfold Pt.jp;exact (if_neg (by rw [e];decide)).symm) Ext.refl
 | before a b qq =>
  dsimp only [spD]
  walk_at "x0"
  refine Zi (λ_=>by kernel_rfl) ?_
  walk_at "x0"
  refine Zi (λ_=>by kernel_rfl) ?_
  walk_at "x0"
  refine Zi (λ_=>by kernel_rfl) ?_
  walk_at "x0"
  refine Af (Ru (k+3)) Hj.1 Hj.2 rfl ?_;show wS (b84 (k+3)) [some q.d,some _,none] mh _;unfold b84
  walk_at "x0"
  refine ix3 ?_
  walk_at "x0"
  refine Ox so.1.1 ?_
  walk_at "x0"
  refine ix3 ?_
  walk_at "x0"
  refine Ox so.1.2 ?_
  walk_at "x0"
  have sq:=so.2;refine Bv (λe=>?_) λe=>?_
  ·walk_at "x0"
   refine Y0 (f:=ixD) (d:=Ae qq) (λ_=>by kernel_rfl) ?_
   walk_at "x0"
   refine Ay (Rz (k+2) q _ _) ?_;exact f _ _ (M7 qo (by omega) (by omega)) (by show (0:Int)<=(qq:Nat);omega) (by show _=Pt.jp _ _ _;unfold Pt.jp;exact (if_pos e).symm) Ext.refl
  ·walk_at "x0"
   refine Ay (Cj (k+1) _ _) ?_;exact f _ _ (mv _ qo rfl) (mp _ rfl) (by show _=Pt.jp _ _ _;unfold Pt.jp;exact (if_neg (by rw [e];decide)).symm) Ext.refl
 | go qq =>
  have so:qq<=L:=so;dsimp only [spD]
  walk_at "x0"
  refine Zi (λ_=>by kernel_rfl) ?_
  walk_at "x0"
  refine Zi (λ_=>by kernel_rfl) ?_
  walk_at "x0"
  refine Zi (λ_=>by kernel_rfl) ?_
  walk_at "x0"
  refine Af (Ru (k+3)) Hj.1 Hj.2 rfl ?_;show wS (b84 (k+3)) [some q.d,some _,none] mh _;unfold b84
  walk_at "x0"
  refine Y0 (f:=ixD) (d:=Ae qq) (λ_=>by kernel_rfl) ?_
  walk_at "x0"
  refine Ay (Rz (k+2) q _ _) ?_;exact f _ _ (M7 qo (by omega) (by omega)) (by show (0:Int)<=(qq:Nat);omega) rfl Ext.refl
 | alike a b qq =>
  dsimp only [spD]
  walk_at "x0"
  refine Zi (λ_=>by kernel_rfl) ?_
  walk_at "x0"
  refine Zi (λ_=>by kernel_rfl) ?_
  walk_at "x0"
  refine Zi (λ_=>by kernel_rfl) ?_
  walk_at "x0"
  refine Af (Ru (k+3)) Hj.1 Hj.2 rfl ?_;show wS (b84 (k+3)) [some q.d,some _,none] mh _;unfold b84
  walk_at "x0"
  refine ixM ?_
  walk_at "x0"
  refine Rw so.1.1 ?_
  walk_at "x0"
  refine ixM ?_
  walk_at "x0"
  refine Rw so.1.2 ?_
  walk_at "x0"
  have sq:=so.2;refine Bv (λe=>?_) λe=>?_
  ·walk_at "x0"
   refine Y0 (f:=ixD) (d:=Ae qq) (λ_=>by kernel_rfl) ?_
   walk_at "x0"
   refine Ay (Rz (k+2) q _ _) ?_;exact f _ _ (M7 qo (by omega) (by omega)) (by show (0:Int)<=(qq:Nat);omega) (by show _=Pt.jp _ _ _;unfold Pt.jp;exact (if_pos e).symm) Ext.refl
  ·walk_at "x0"
   refine Ay (Cj (k+1) _ _) ?_;exact f _ _ (mv _ qo rfl) (mp _ rfl) (by show _=Pt.jp _ _ _;unfold Pt.jp;exact (if_neg (by rw [e];decide)).symm) Ext.refl
 | many gg n qq =>
  dsimp only [spD]
  walk_at "x0"
  refine Zi (λ_=>by kernel_rfl) ?_
  walk_at "x0"
  refine Zi (λ_=>by kernel_rfl) ?_
  walk_at "x0"
  refine Zi (λ_=>by kernel_rfl) ?_
  walk_at "x0"
  refine Af (Ru (k+3)) Hj.1 Hj.2 rfl ?_;show wS (b84 (k+3)) [some q.d,some _,none] mh _;unfold b84
  walk_at "x0"
  refine ixS ?_
  walk_at "x0"
  refine gH so.1 ?_
  walk_at "x0"
  refine wZ k _ (Ak8 hH (Pt.se_ok qo)) λm1 x1=>?_
  walk_at "x0"
  have sq:=so.2;refine Bv (λe=>?_) λe=>?_
  ·walk_at "x0"
   refine Y0 (f:=ixD) (d:=Ae qq) (λ_=>by kernel_rfl) ?_
   walk_at "x0"
   refine Ay (Rz (k+2) q _ _) ?_;exact f _ _ (M7 qo (by omega) (by omega)) (by show (0:Int)<=(qq:Nat);omega) (by show _=Pt.jp _ _ _;unfold Pt.jp;exact (if_pos e).symm) x1
  ·walk_at "x0"
   refine Ay (Cj (k+1) _ _) ?_;exact f _ _ (mv _ qo rfl) (mp _ rfl) (by show _=Pt.jp _ _ _;unfold Pt.jp;exact (if_neg (by rw [e];decide)).symm) x1
 | take bx ls=>exact absurd rfl (ht bx ls)
 | send a kd b c'=>exact absurd rfl (hs a kd b c')
end
inductive Ed where
 | no | app (t:Nat) (m:Lt) | pop (s:Nat)
noncomputable def Wd.ed (w:Wd) (h:Nat):Ed->Wd
 | .no=>w
 | .app t m=>w.setC h t (w.cell h t++[m])
 | .pop s=>w.setC s h (w.cell s h).tail
noncomputable def Wd.ap (w:Wd) (h:Nat) (e:Pt×Ed):Wd:=(w.setP h e.1).ed h e.2
noncomputable def xG (b:Bool) (to:Int) (m:Lt):Ed:=if b=true then .no else .app to.toNat m
noncomputable def Jz (q:Pt) (f:Nat->List Lt) (ls:List Ln):D->Pt×Ed
 | .tup [.int x,.int kd]=>match ls.filter (λl=>((l.kd:Nat):Int)==kd) with
  | ln::_=>if ([x,kd]==[-1,0])=true then ((q.to ((ln.q:Nat):Int)).ring false,.no) else match f x.toNat with
   | l::_=>(((((q.to ((ln.q:Nat):Int)).setN ln.a l.2.1).setM ln.b l.2.2).setM ln.c x),.pop x.toNat)
   | []=>(q,.no)
  | []=>(q,.no)
 | _=>(q,.no)
noncomputable def eff (p:Pg) (w:Wd) (h:Nat) (c:D):Sp->Pt×Ed
 | .send a kd b c'=>((w.pt h).on,xG (Jx w ((w.pt h).nm a)) ((w.pt h).nm a) ((kd:Int),(w.pt h).nu b,(w.pt h).nm c'))
 | .take _ ls=>Jz (w.pt h) (λs=>w.cell s h) ls c
 | s=>(quF p h (w.pt h) c s,.no)
theorem R4 (mh:MH) (xs ys:List Int):eqB mh (.tup (xs.map D.int)) (.tup (ys.map D.int))=some (xs==ys):=by
 have e:∀ zs:List Int,py mh 60 (.tup (zs.map D.int))=some (.tuple (zs.map xq)):=λzs=>by
  show (match Bx (py mh 59) (zs.map D.int) with | some xs=>some (PyData.tuple xs) | none=>none)=_;rw [Hv]
 unfold eqB;rw [e,e];simp only [lz,Ow]
section
variable {mh:MH}{P:D->MH->Prop}{p:Pg}{w:Wd}{S:List (List Sp)}
theorem M8 (wo:w.ok p) {s t:Nat}(hs:s < p.plays.length) (ht:t < p.plays.length):wQ p (w.cell s t):=by
 obtain ⟨v,e1,e2,vo⟩:=Wa wo hs ht;exact vo.2 _ (gn e2)
theorem Fb (wo:w.ok p) {h:Nat}(hh:h < p.plays.length):(w.pt h).ok p.H (p.len (plA p h)):=by
 obtain ⟨r,er,qo⟩:=Yu wo hh;rw [Rx hh] at er;cases er;exact qo
theorem xH (k h a kd b c:Nat) (g:Prg p S) (wo:w.ok p) (hh:h < p.plays.length) (so:Sp.ok p (p.len (plA p h)) (.send a kd b c)) (p1:0<=(w.pt h).pl) (p2:(w.pt h).pl < p.len (plA p h)) (hm:Ji p w h a=true)
  (f:∀ w':Wd,w'.ok p->0<=(w.pt h).on.pl->w'=w.ap h ((w.pt h).on,xG (Jx w ((w.pt h).nm a)) ((w.pt h).nm a) ((kd:Int),(w.pt h).nu b,(w.pt h).nm c))->P w'.d mh):wV (Ac (Gk (k+4)) fuel f86 [w.d,.int h,spD (.send a kd b c)] mh) P:=by
 obtain ⟨⟨ha,hb,hc⟩,hk1,hk2⟩:=so;have po:=g.po;have rm:=po.rm;have qo:=Fb wo hh;have nk:=Pt.nm_ok (a:=a) qo;have nc:=Pt.nm_ok (a:=c) qo;refine Af (Ahr (k+3)) vY.1 vY.2 rfl ?_;show wS (b86 (k+3)) [some w.d,some (.int h),some (spD (.send a kd b c)),none,none,none,none] mh _;unfold b86
 walk_at "x0"
 refine Fq (k+2) h (by rw [wo.lp];exact hh) ?_
 walk_at "x0"
 refine Ay (Cj k _ _) ?_
 walk_at "x0"
 refine Hx (k+1) h po wo hh _ ?_;have qo1:=M7 qo (pl:=(w.pt h).pl+1) (by omega) (by omega);have w1o:(w.setP h ((w.pt h).to ((w.pt h).pl+1))).ok p:=Pz wo λr er=>by
  rw [Rx hh] at er;cases er;exact qo1
 have pl1:0<=(w.pt h).on.pl:=by show 0<=(w.pt h).pl+1;omega
 unfold Ji Jx at hm;unfold Jx at f;refine Ar (Ag (Am (Ci ?_)));refine Bm (Bm (Be (d:=(w.pt h).d) (by with_unfolding_all rfl) (Aj (Ds ?_))));refine Bm (Be (by with_unfolding_all rfl) (Aj (Gp ?_)));refine Rw ha ?_;generalize (w.pt h).nm a=to at nk hm f;refine Ar (Ag (Am (Fi (bW (Ce (Bm (Be (by with_unfolding_all rfl) (Aj (Ju ⟨_,rfl,λe=>?_,λe=>?_⟩)))))))))
 ·walk_at "x0"
  exact f _ w1o pl1 (by rw [e];rfl)
 ·have hn:¬ to=-1:=beq_eq_false_iff_ne.mp e;obtain ⟨e1,e2⟩:=Ob nk hn;rw [e] at hm;refine Rq (Ca (Ax (Ca (Ax (Be (by with_unfolding_all rfl) (Ax (Be (d:=.int to) (by with_unfolding_all rfl) (Aj ?_)))))))) ;rw [e1];refine Fq (k+2) to.toNat (by rw [wo.lp];exact e2) ?_
  walk_at "x0"
  refine Lh (k+2) _ _ ⟨_,rfl,Bv (λe3=>?_) λe3=>?_⟩
  ·walk_at "x0"
   exact f _ w1o pl1 (by rw [e3,Bool.or_true];rfl)
  ·rw [e3] at hm;have hm:(w.cell h to.toNat).length < p.room:=by simpa using hm
   refine Bh (Ag (Am (Ci (tE (Ax ?_)))));dsimp only [spD]
   walk_at "x0"
   refine Gp (b:=.tup [.int (w.pt h).n0,.int (w.pt h).n1,.int (w.pt h).n2]) ?_
   walk_at "x0"
   refine Ox hb ?_
   walk_at "x0"
   refine Ds (c:=.tup [.int (w.pt h).m0,.int (w.pt h).m1,.int (w.pt h).m2]) ?_
   walk_at "x0"
   refine Rw hc ?_
   walk_at "x0"
   refine Fz (k+2) h to.toNat wo hh e2 ?_
   walk_at "x0"
   have lo:=M8 wo hh e2;have ll:=lo.1;unfold lsD;refine Io (by rw [ak,qx];omega) ?_;have el:(w.cell h to.toNat).map ltD++[D.tup [Ae kd,.int ((w.pt h).nu b),.int ((w.pt h).nm c)]]=(w.cell h to.toNat++[((kd:Int),(w.pt h).nu b,(w.pt h).nm c)]).map ltD:=by rw [ji];rfl
   rw [el]
   walk_at "x0"
   refine N7 (k+1) h to.toNat po w1o hh e2 _ ?_
   walk_at "x0"
   refine f _ (Wb w1o ⟨by rw [dg,qx];omega,λz hz=>?_⟩) pl1 (by rw [e,e3];rfl);rcases jm.mp hz with hz|hz
   ·exact lo.2 z hz
   ·rw [ao.mp hz];exact ⟨⟨by show (1:Int)<=(kd:Int);omega,by show (kd:Int)<=12;omega⟩,nc⟩
noncomputable def xJ (w:Wd) (s t:Nat):Wd:={ w.setC s t (w.cell s t).tail with x:=w.x - 1 }
noncomputable def Y4 (p:Pg) (w:Wd) (h:Nat):Wd:=⟨w.ps.set h ⟨-1,0,0,0,-1,-1,-1,0,0,false⟩,w.rs.set h (fj p.plays.length []),w.x,w.y - 1⟩
theorem Y5 (k s t:Nat) (po:p.ok) (wo:w.ok p) (hs:s < p.plays.length) (ht:t < p.plays.length) (hx:¬ w.x=0) (f:(xJ w s t).ok p->P (xJ w s t).d mh):wV (Ac (Gk (k+3)) fuel f97 [w.d,.int s,.int t] mh) P:=by
 have lo:=M8 wo hs ht;refine Af (Ah0 (k+2)) wK.1 wK.2 rfl ?_;show wS (b97 (k+2)) [some w.d,some (.int s),some (.int t),none,none] mh _;unfold b97;refine Am (Ci (Bm (Be (by with_unfolding_all rfl) (Aj (Ds (c:=.tup [.int w.x,.int w.y]) ?_)))))
 walk_at "x0"
 refine Fz (k+1) s t wo hs ht ?_
 walk_at "x0"
 have sl:∀ {P:D->MH->Prop},P (lsD (w.cell s t).tail) mh->wV (slD (lsD (w.cell s t)) (some 1) none mh) P:=λ{P} h=>by
  cases e:w.cell s t with
  | nil =>
   rw [e] at h;exact ⟨_,_,rfl,h⟩
  | cons l r =>
   rw [e] at h;refine Gx (i:=1) (ds:=(l::r).map ltD) (by simp) ?_;exact h
 refine sl ?_
 walk_at "x0"
 refine N7 k s t po wo hs ht _ ?_;have w1o:(w.setC s t (w.cell s t).tail).ok p:=Wb wo ⟨by rw [List.length_tail];have:=lo.1;omega,λz hz=>lo.2 z (List.mem_of_mem_tail hz)⟩
 walk_at "x0"
 refine Ei (k+1) (i:=2) (by simp) (by simp) ?_;have e:((w.x:Nat):Int) - 1=((w.x - 1:Nat):Int):=by omega
 rw [e];exact f ⟨w1o.lp,w1o.ps,w1o.lr,w1o.rs,by have:=wo.xx;show w.x - 1<=_;omega,w1o.yy⟩
theorem gP (k:Nat) (pl:Int) (mh:MH):Ac (Gk (k+1)) fuel f18 [.int pl] mh=some ((⟨pl,0,0,0,-1,-1,-1,0,0,false⟩:Pt).d,mh):=by kernel_rfl
theorem P0 {k:Nat}{x:D}{mh:MH}{P:D->MH->Prop}(h1:1<=k) (h2:k<=1000) (h:P (.tup (fj k x)) mh):wV (Mp (.tup [x]) (.int k) mh) P:=by
 refine ⟨_,_,?_,h⟩;show (if (k:Int)=1 then some (D.tup [x],mh) else if (List.isEmpty [x]=false/\[x].length<=1000)/\(1 < (k:Int)/\(k:Int)<=1000) then some (D.tup (fj (k:Int).toNat [x]).flatten,mh) else none)=_
 by_cases e:k=1
 ·subst e;rfl
 ·rw [if_neg (by omega),if_pos ⟨⟨rfl,by simp⟩,by omega,by omega⟩,jh];have e:(fj k [x]).flatten=fj k x:=by
   clear h h1 h2 e
   induction k with
   | zero=>rfl
   | succ k ih=>rw [qu,wj,ih,qu];rfl
  rw [e]
theorem Y6 {H L:Nat}(h1:1<=H) {pl:Int}(h2:-1<=pl) (h3:pl<=L):(⟨pl,0,0,0,-1,-1,-1,0,0,false⟩:Pt).ok H L:=⟨h2,h3,⟨show (-1:Int)<=-1 by decide,show (-1:Int)<=(H:Int) - 1 by omega⟩,⟨show (-1:Int)<=-1 by decide,show (-1:Int)<=(H:Int) - 1 by omega⟩,⟨show (-1:Int)<=-1 by decide,show (-1:Int)<=(H:Int) - 1 by omega⟩,HN _,HN _⟩
theorem Y7 (k h:Nat) (po:p.ok) (wo:w.ok p) (hh:h < p.plays.length) (hy:¬ w.y=0) (f:(Y4 p w h).ok p->P (Y4 p w h).d mh):wV (Ac (Gk (k+3)) fuel f98 [w.d,.int h] mh) P:=by
 have h1:=po.h1;have h6:=po.h6;refine Af (Ah1 (k+2)) wL.1 wL.2 rfl ?_;show wS (b98 (k+2)) [some w.d,some (.int h),none,none] mh _;unfold b98;refine Am (Ci (Bm (Be (by with_unfolding_all rfl) (Aj (Ds (c:=.tup [.int w.x,.int w.y]) ?_)))));unfold Wd.d
 walk_at "x0"
 refine Bj (ds:=w.ps.map Pt.d) (by intro z z';cases z') rfl ?_;rw [ak,wo.lp];refine P0 h1 (by omega) ?_
 walk_at "x0"
 refine Ei (k+1) (by rw [ak,wo.lr];exact hh) (by rw [ak,wo.lr];omega) ?_
 walk_at "x0"
 refine Ei (k+1) (i:=1) (by simp) (by simp) ?_;have e0:(w.rs.map Ks).set h (.tup (fj p.plays.length (.tup [])))=(w.rs.set h (fj p.plays.length [])).map Ks:=by
  rw [PB];unfold Ks;rw [FN];rfl
 rw [e0]
 walk_at "x0"
 refine Ay (gP (k+1) (-1) mh) ?_
 walk_at "x0"
 have w1o:(⟨w.ps,w.rs.set h (fj p.plays.length []),w.x,w.y⟩:Wd).ok p:=by
  refine ⟨wo.lp,wo.ps,by rw [jz];exact wo.lr,λv hv=>?_,wo.xx,wo.yy⟩;rcases DP hv with hv|rfl
  ·exact wo.rs v hv
  ·exact ⟨yd,λl hl=>by rw [(FP.mp hl).2];exact ⟨jy _,λz hz=>absurd hz (by simp)⟩⟩
 refine Hx (w:=⟨w.ps,w.rs.set h (fj p.plays.length []),w.x,w.y⟩) k h po w1o hh _ ?_
 walk_at "x0"
 refine Ei (k+1) (i:=2) (by simp) (by simp) ?_;have e:((w.y:Nat):Int) - 1=((w.y - 1:Nat):Int):=by omega
 rw [e];have w2o:=Pz (h:=h) (y:=⟨-1,0,0,0,-1,-1,-1,0,0,false⟩) w1o λr _=>Y6 h1 (by decide) (by omega)
 exact f ⟨w2o.lp,w2o.ps,w2o.lr,w2o.rs,w2o.xx,by have:=wo.yy;show w.y - 1<=_;omega⟩
end
section
variable {mh:MH}{P:D->MH->Prop}{p:Pg}{w:Wd}{S:List (List Sp)}
theorem Hz {h:Nat}{bx:Int}{ls:List Ln}{c:D}(wo:w.ok p) (hh:h < p.plays.length) (hc:c∈K4 p w h bx ls) :
  (c=.tup [.int (-1),.int 0]/\(0:Int)∈Jy ls)\/∃ s l r,s < p.plays.length/\w.cell s h=l::r/\l.1∈Jy ls/\c=.tup [.int (s:Nat),.int l.1]:=by
 unfold K4 at hc;rcases jm.mp hc with hc|hc
 ·unfold Ej at hc;split at hc
  ·rename_i e;rw [bf] at e;exact Or.inl ⟨ao.mp hc,of_decide_eq_true e.1⟩
  ·cases hc
 ·obtain ⟨s,hs,hc⟩:=jg.mp hc;have hs:=M4 wo hh hs;unfold Hy at hc;split at hc
  ·cases hc
  ·rename_i l r ec;split at hc
   ·rename_i hk;exact Or.inr ⟨s,l,r,hs,ec,hk,ao.mp hc⟩
   ·cases hc
theorem mW (k h:Nat) (bx:Int) (ls:List Ln) (g:Prg p S) (wo:w.ok p) (hh:h < p.plays.length) (so:Sp.ok p (p.len (plA p h)) (.take bx ls)) {c:D}(hc:c∈K4 p w h bx ls)
  (f:∀ (w':Wd) h',w'.ok p->0<=(Jz (w.pt h) (λs=>w.cell s h) ls c).1.pl->w'=w.ap h (Jz (w.pt h) (λs=>w.cell s h) ls c)->Ext [] mh h'->P w'.d h'):wV (Ac (Gk (k+4)) fuel f87 [w.d,.int h,spD (.take bx ls),c] mh) P:=by
 obtain ⟨sb,sl,sk⟩:=so;have po:=g.po;have qo:=Fb wo hh;obtain ⟨x,kd,rfl,hk⟩:∃ x kd:Int,c=.tup [.int x,.int kd]/\kd∈Jy ls:=by
  rcases Hz wo hh hc with ⟨rfl,h0⟩|⟨s,l,r,_,_,h0,rfl⟩
  ·exact ⟨_,_,rfl,h0⟩
  ·exact ⟨_,_,rfl,h0⟩
 refine Af (Ahs (k+3)) vZ.1 vZ.2 rfl ?_;show wS (b87 (k+3)) [some w.d,some (.int h),some (spD (.take bx ls)),some (.tup [.int x,.int kd]),none,none,none,none] mh _;unfold b87;refine Am (Ci (Bm ?_));refine Gn ls lnD (λl=>((l.kd:Nat):Int)==kd) lnD (by omega) ?_ (λx h' R hx ex hR=>?_) λm1 x1=>?_
 ·dsimp only [spD]
  walk_at "x0"
  exact ⟨_,rfl,Dn rfl⟩
 ·refine Ar ⟨rfl,?_⟩;refine Ce (Bm (Bm (Be (d:=lnD x) (by with_unfolding_all rfl) (Aj (Hl ?_)))))
  walk_at "x0"
  refine ⟨rfl,rfl,λ_=>?_⟩;refine Be (d:=lnD x) (by with_unfolding_all rfl) ?_;exact hR _ Ext.refl
 cases el:ls.filter λl=>((l.kd:Nat):Int)==kd with
 | nil =>
  obtain ⟨l,hl,e⟩:=di.mp hk;have:=List.filter_eq_nil_iff.mp el l hl;rw [e] at this;exact absurd (beq_self_eq_true _) this
 | cons ln lr =>
  have hln:ln∈ls:=(lq.mp (by rw [el];exact jb)).1;have lo:=sk ln hln;rw [iu];refine Aj (Hh (j:=0) Ak rfl ?_);generalize hm2:m1++[MO.lst (lnD ln::lr.map lnD)]=m2;have x2:Ext [] mh m2:=by rw [← hm2];exact x1.trans Ext.more
  refine Ar (Ag (Am (Ci (Ca (Ax (Ca (Ax (Be (by with_unfolding_all rfl) (Ax (Be (by with_unfolding_all rfl) (Aj (Fq (k+2) h (by rw [wo.lp];exact hh) ?_)))))))))))) ;refine Ax (Bm (Be (d:=lnD ln) (by with_unfolding_all rfl) (Aj (N6 ?_))))
  walk_at "x0"
  refine Ay (Rz (k+1) _ _ _) ?_;have q1:=M7 qo (pl:=((ln.q:Nat):Int)) (by omega) (by have:=lo.q;omega);generalize hq1:(w.pt h).to ((ln.q:Nat):Int)=u1;have q1:u1.ok p.H (p.len (plA p h)):=by rw [← hq1];exact q1
  have fin:∀ {u:Pt},u.ok p.H (p.len (plA p h))->∀ {w1:Wd},w1.ok p->(w1.setP h u).ok p:=λ{u} uo {w1} o1=>Pz o1 λr er=>by
   rw [Rx hh] at er;cases er;exact uo
  refine Ar (Ag (Am (Fi (Ce (Bm (Be (by with_unfolding_all rfl) (Aj ?_)))))));have ee:=R4 m2 [x,kd] [-1,0];refine Gv ee ⟨_,rfl,λe=>?_,λe=>?_⟩
  ·walk_at "x0"
   refine Ay (gM (k+1) u1 false m2) ?_
   walk_at "x0"
   refine Hx (k+1) h po wo hh _ ?_
   walk_at "x0"
   have et:Jz (w.pt h) (λs=>w.cell s h) ls (.tup [.int x,.int kd])=(u1.ring false,.no):=by
    dsimp only [Jz];rw [el];dsimp only;rw [if_pos e,hq1]
   exact f _ _ (fin (gO q1 _) wo) (by rw [et];show 0<=u1.pl;rw [← hq1];show (0:Int)<=(ln.q:Nat);omega) (by rw [et];rfl) x2
  ·rcases Hz wo hh hc with ⟨e1,_⟩|⟨s,l,r,hs,ec,h0,e1⟩
   ·cases e1;cases e
   ·cases e1;have co:=M8 wo hs hh;refine Bh (Ag ?_)
    walk_at "x0"
    refine Fz (k+2) s h wo hs hh ?_;rw [ec] at co ⊢;refine Ar (Ag ?_);show wS _ [some w.d,some (.int h),some (spD (.take bx ls)),some (.tup [.int (s:Nat),.int l.1]),some (lnD ln),some u1.d,some (.int (s:Nat)),some (.tup (ltD l::r.map ltD))] m2 _
    walk_at "x0"
    refine Y0 (f:=ixD) (d:=Ae ln.a) (λ_=>by kernel_rfl) ?_
    walk_at "x0"
    refine Gp (a:=.int l.1) (b:=.int l.2.1) ?_
    walk_at "x0"
    refine Ay (Kf (k+1) u1 lo.a l.2.1 m2) ?_
    walk_at "x0"
    refine Y0 (f:=ixD) (d:=Ae ln.b) (λ_=>by kernel_rfl) ?_
    walk_at "x0"
    refine Ds (a:=.int l.1) (b:=.int l.2.1) (c:=.int l.2.2) ?_
    walk_at "x0"
    refine Ay (Kg (k+1) _ lo.b l.2.2 m2) ?_
    walk_at "x0"
    refine Y0 (f:=ixD) (d:=Ae ln.c) (λ_=>by kernel_rfl) ?_
    walk_at "x0"
    refine Ay (Kg (k+1) _ lo.c (s:Int) m2) ?_
    walk_at "x0"
    refine Gx (i:=1) (ds:=(l::r).map ltD) (by simp) ?_
    walk_at "x0"
    refine N7 (k+1) s h po wo hs hh r ?_;have w1o:=Wb (s:=s) (t:=h) (l:=r) wo ⟨by have:=co.1;rw [jj] at this;omega,λz hz=>co.2 z (iw _ hz)⟩
    walk_at "x0"
    refine Hx (k+1) h po w1o hh _ ?_;have hl:=(co.2 l jb).2;have hs:s < p.H:=hs;have et:Jz (w.pt h) (λs=>w.cell s h) ls (.tup [.int (s:Nat),.int l.1])=(((u1.setN ln.a l.2.1).setM ln.b l.2.2).setM ln.c (s:Nat),.pop s):=by
     dsimp only [Jz];rw [el];dsimp only;rw [if_neg (by rw [e];decide),jh,ec,hq1]
    exact f _ _ (fin (Kl (Kl (Kh q1 _ _) _ hl) _ ⟨by omega,by omega⟩) w1o) (by rw [et];show 0<=Pt.pl _;rw [Ey,Ey,Ek,← hq1];show (0:Int)<=(ln.q:Nat);omega) (by rw [et];show _=(w.setP h _).setC s h (w.cell s h).tail;rw [ec];rfl) x2
theorem Y8 (k h:Nat) (g:Prg p S) (wo:w.ok p) (hh:h < p.plays.length) {s:Sp}(es:stW p S w h=some s) {c:D}(hc:c∈chs p w h s)
  (f:∀ (w':Wd) h',w'.ok p->0<=(eff p w h c s).1.pl->w'=w.ap h (eff p w h c s)->Ext [] mh h'->P w'.d h'):wV (Ac (Gk (k+6)) fuel f79 [p.d,w.d,.int h,spD s,c] mh) P:=by
 obtain ⟨so,p1,p2⟩:=wY g hh es;have qo:=Fb wo hh;refine Af (Aho (k+5)) vV.1 vV.2 rfl ?_;show wS (b79 (k+5)) [some p.d,some w.d,some (.int h),some (spD s),some c] mh _;have quiet:(∀ bx ls,s≠.take bx ls)->(∀ a kd b c,s≠.send a kd b c)->wS (b79 (k+5)) [some p.d,some w.d,some (.int h),some (spD s),some c] mh (bZ P):=λht hs=>by
  obtain ⟨wd,rest,e,h0,h1,h2⟩:∃ (wd:Str) (rest:List D),spD s=.tup (.str wd::rest)/\jq wd=true/\(wd==("send":Str))=false/\(wd==("take":Str))=false:=by
   cases s with
   | take bx ls=>exact absurd rfl (ht bx ls)
   | send a kd b c=>exact absurd rfl (hs a kd b c)
   | _=>exact ⟨_,_,rfl,by decide +kernel,by decide +kernel,by decide +kernel⟩
  have ix:∀ {Q:D->MH->Prop} {m:MH},Q (.str wd) m->wV (ixD (spD s) (.int 0) m) Q:=λq=>by
   rw [e];exact Hl q
  unfold b79
  walk_at "x0"
  refine ix ?_;refine Aj (Gv (k:=false) (Fw h0 (by decide +kernel) h1 mh) ⟨_,rfl,Er (Bh (Ag ?_))⟩)
  walk_at "x0"
  refine ix ?_;refine Aj (Gv (k:=false) (Fw h0 (by decide +kernel) h2 mh) ⟨_,rfl,Er (Bh (Ag ?_))⟩)
  walk_at "x0"
  refine Fq (k+4) h (by rw [wo.lp];exact hh) ?_
  walk_at "x0"
  refine mV k h g wo hh s so qo p1 p2 c hc ht hs λq' h' qo' pl' eq' x1=>?_
  walk_at "x0"
  refine Hx (k+3) h g.po wo hh _ ?_;have ee:eff p w h c s=(q',.no):=by
   rw [eq'];cases s with
   | take bx ls=>exact absurd rfl (ht bx ls)
   | send a kd b c=>exact absurd rfl (hs a kd b c)
   | _=>rfl
  exact f _ _ (Pz wo λr er=>by rw [Rx hh] at er;cases er;exact qo') (by rw [ee];exact pl') (by rw [ee];rfl) x1
 cases s with
 | send a kd b c' =>
  have hm:Ji p w h a=true:=by
   have hc:c∈(if Ji p w h a=true then [D.int 0] else []):=hc;cases e:Ji p w h a with
   | true=>rfl
   | false=>rw [e] at hc;cases hc
  unfold b79;dsimp only [spD]
  walk_at "x0"
  refine xH (k+1) h a kd b c' g wo hh so p1 p2 hm λw' o' pl' e'=>?_
  exact f _ _ o' pl' e' Ext.refl
 | take bx ls =>
  unfold b79;dsimp only [spD]
  walk_at "x0"
  exact mW (k+1) h bx ls g wo hh so hc f
 | _=>exact quiet (λ_ _ z=>by cases z) λ_ _ _ _ z=>by cases z
end
theorem Qa {ms:DM Src}{g:GM}{body:SM}{l0:DL.Loc}{mh:MH}{K:Fl->DL.Loc->MH->Prop}{α:Type}(xs:List α) (G:α->D) (F:α->List D) (acc:List D) (j:Nat) (I:DL.Loc->Prop)
  (hj:mh[j]?=some (.lst acc)) (i0:I l0) (hb:(acc++xs.flatMap F).length<=1000000)
  (hm:wD ms l0 mh λsrc h0=>Ext [] mh h0/\∀ h,Ext [j] h0 h->src.ok h=true/\src.items h=xs.map G)
  (step:∀ x l h a,x∈xs->I l->Ext [j] mh h->h[j]?=some (.lst a)->(a++F x).length<=1000000->∀ {J:DL.Loc->MH->Prop},(∀ l2 h2,I l2->Ext [j] h h2->h2[j]?=some (.lst (a++F x))->J l2 h2)->wG (g (G x) l h) λl1 h1=>wS body l1 h1 (Agf J K))
  (fin:∀ l h,I l->Ext [j] mh h->h[j]?=some (.lst (acc++xs.flatMap F))->K .nx l h):wS (Hr ms g body) l0 mh K:=by
 refine Gm (Az hm ?_);rintro src h0 ⟨x0,keep⟩;refine ⟨xs.map G,λi l h=>I l/\Ext [j] h0 h/\h[j]?=some (.lst (acc++(xs.take i).flatMap F)),⟨i0,Ext.refl,by rw [x0.old _ _ (by simp) hj];simp⟩,λi l h q=>keep h q.2.1,?_,?_⟩
 ·rintro i d l h ed ⟨il,xh,gh⟩;rw [cj] at ed;cases ex:xs[i]? with
  | none=>rw [ex] at ed;cases ed
  | some x =>
   rw [ex] at ed;cases ed;have et:(xs.take (i+1)).flatMap F=(xs.take i).flatMap F++F x:=by
    rw [ql,ex,HW];simp
   refine step x l h _ (gn ex) il (x0.weak.trans xh) gh ?_ λl2 h2 i2 x2 g2=>⟨i2,xh.trans x2,by rw [g2,et,BV]⟩
   rw [BV,← et];refine dz ?_ hb;rw [dg,dg];have:((xs.take (i+1)).flatMap F).length+((xs.drop (i+1)).flatMap F).length=(xs.flatMap F).length:=by
    rw [← dg,← HW,List.take_append_drop]
   omega
 ·rintro l h ⟨il,xh,gh⟩;rw [ak,rz] at gh;exact fin l h il (x0.weak.trans xh) gh
theorem Qc {n j:Nat}{α:Type}{xs:List α}{F:α->D}{mh h0:MH}(x:Ext [] mh h0) (e:h0[n]?=some (.lst (xs.map F))) (hn:n≠j):Ext [] mh h0/\∀ h,Ext [j] h0 h->(Src.lref n).ok h=true/\(Src.lref n).items h=xs.map F :=
 ⟨x,λh y=>Dk (y.old _ _ (by intro z;exact hn (ao.mp z)) e)⟩
noncomputable def doD (h:Nat) (c:D):D:=.tup [.str "do",Ae h,c]
noncomputable def loD (s t:Nat):D:=.tup [.str "lose",Ae s,Ae t]
noncomputable def faD (h:Nat):D:=.tup [.str "fall",Ae h]
noncomputable def doL (p:Pg) (S:List (List Sp)) (w:Wd):List D:=(dm p.H).flatMap λh=>(chW p S w h).flatMap λc=>[doD h c]
noncomputable def O9 (w:Wd) (s t:Nat):List D:=if 0 < (w.cell s t).length then [loD s t] else []
noncomputable def Acn (p:Pg) (w:Wd):List D:=(dm p.H).flatMap λs=>(dm p.H).flatMap λt=>O9 w s t
noncomputable def Ku (p:Pg) (w:Wd):List D:=if w.x=0 then [] else Acn p w
noncomputable def Kv (p:Pg) (w:Wd):List D:=if w.y=0 then [] else ((dm p.H).filter λh=>!mR (w.pt h)).map faD
theorem Iz {α β:Type}{f:α->List β}{b:Nat}:∀ (l:List α),(∀ x∈l,(f x).length<=b)->(l.flatMap f).length<=l.length * b
 | [],_=>by simp
 | x::r,h=>by
  rw [KJ,dg,jj,Nat.succ_mul];have:=Iz r λy hy=>h y (iw _ hy)
  have:=h x jb;omega
section
variable {mh:MH}{P:D->MH->Prop}{p:Pg}{w:Wd}{S:List (List Sp)}
theorem Wf (po:p.ok):(Acn p w).length<=36:=by
 have h6:p.H<=6:=po.h6;have h1:∀ s∈dm p.H,((dm p.H).flatMap λt=>O9 w s t).length<=6:=λs _=>by
  refine dz (Iz (b:=1) _ λt _=>?_) (by rw [ig];omega);unfold O9;split <;> simp
 refine dz (Iz (b:=6) _ h1) ?_;rw [ig];omega
theorem R5 (k:Nat) (po:p.ok) (wo:w.ok p) (q:∀ j h',Ext [] mh h'->h'[j]?=some (.lst (Ku p w))->P (.ref j) h'):wV (Ac (Gk (k+2)) fuel f90 [w.d] mh) P:=by
 have h6:p.H<=6:=po.h6;refine Af (Ahu (k+1)) wB.1 wB.2 rfl ?_;show wS (b90 (k+1)) [some w.d,none,none,none] mh _;unfold b90;refine Am (Ci (Vy (Aj ⟨by simp,Ar (Ag ?_)⟩)));refine Am (Fi (Ce (Bm (Bm (Bm (Be (by with_unfolding_all rfl) (Aj (Ds (c:=.tup [.int w.x,.int w.y]) ?_))))))))
 walk_at "x0"
 unfold Ku at q
 by_cases e0:w.x=0
 ·refine Px (by rw [e0];rfl) ?_;rw [if_pos e0] at q
  walk_at "x0"
  exact q _ _ Ext.more Ak
 ·refine V2 (beq_eq_false_iff_ne.mpr (by omega)) (Bh (Ag (Am ?_)));rw [if_neg e0] at q;have hl:=Wf (w:=w) po;refine Qa (dm p.H) Ae (λs=>(dm p.H).flatMap λt=>O9 w s t) [] mh.length (λl=>∃ x y,l=[some w.d,some (.ref mh.length),x,y]) Ak ⟨_,_,rfl⟩ (by show (Acn p w).length<=_;omega) ?_ (λs l h a hs il xh gh hz J hJ=>?_) λl h il xh gh=>?_
  ·walk_at "x0"
   refine Iw k wo po λj h1 x1 lj gj=>⟨_,src_list gj,Qc x1 gj ?_⟩
   rw [dg,qx] at lj;omega
  ·obtain ⟨x,y,rfl⟩:=il;have hs:=ir.mp hs;refine Ar ?_;show wS _ [some w.d,some (.ref mh.length),some (Ae s),y] h _;refine Am ?_;refine Qa (dm p.H) Ae (λt=>O9 w s t) a mh.length (λl=>∃ y,l=[some w.d,some (.ref mh.length),some (Ae s),y]) gh ⟨_,rfl⟩ hz ?_ (λt l h3 a3 ht il x3 g3 hz3 J3 hJ3=>?_) λl h3 il x3 g3=>?_
   ·walk_at "x0"
    refine Iw k wo po λj h1 x1 lj gj=>⟨_,src_list gj,Qc x1 gj ?_⟩
    have:=(cg.mp gh).1;omega
   ·obtain ⟨y,rfl⟩:=il;have ht:=ir.mp ht;refine Ar ?_;show wS _ [some w.d,some (.ref mh.length),some (Ae s),some (Ae t)] h3 _
    walk_at "x0"
    refine Fz k s t wo hs ht ?_
    walk_at "x0"
    refine Bj (ds:=(w.cell s t).map ltD) (by intro z z';cases z') rfl ?_;rw [ak];unfold O9 at hJ3 hz3;refine Aj (Kd ⟨_,rfl,λe=>?_,λe=>?_⟩)
    ·have e:=of_decide_eq_true e;rw [if_pos (by omega)] at hJ3 hz3
     walk_at "x0"
     refine ⟨ty_list g3,?_⟩
     walk_at "x0"
     refine Hw g3 (by rw [dg] at hz3;omega) ?_
     walk_at "x0"
     exact hJ3 _ _ ⟨_,rfl⟩ Ext.set (Ip g3)
    ·have e:=of_decide_eq_false e;rw [if_neg (by omega),yc] at hJ3;refine Bh (Ag (Bh ?_));exact hJ3 _ _ ⟨_,rfl⟩ Ext.refl g3
   ·obtain ⟨y,rfl⟩:=il;refine Ag (Bh ?_);exact hJ _ _ ⟨_,_,rfl⟩ x3 g3
  ·obtain ⟨x,y,rfl⟩:=il;rw [DN] at gh
   walk_at "x0"
   refine q _ _ ⟨dz (by simp) xh.len,λi o _ e=>?_⟩ gh;have hi:=(cg.mp e).1;exact xh.old i o (by intro z;have:=ao.mp z;omega) ((Ext.more (W:=[])).old _ _ (by simp) e)
theorem Ur (k:Nat) (po:p.ok) (wo:w.ok p) (q:∀ j h',Ext [] mh h'->h'[j]?=some (.lst (Kv p w))->P (.ref j) h'):wV (Ac (Gk (k+2)) fuel f91 [w.d] mh) P:=by
 have h6:p.H<=6:=po.h6;refine Af (Ahv (k+1)) wC.1 wC.2 rfl ?_;show wS (b91 (k+1)) [some w.d] mh _;unfold b91;refine Am (Fi (Ce (Bm (Bm (Bm (Be (by with_unfolding_all rfl) (Aj (Ds (c:=.tup [.int w.x,.int w.y]) ?_))))))))
 walk_at "x0"
 unfold Kv at q
 by_cases e0:w.y=0
 ·refine Px (by rw [e0];rfl) ?_;rw [if_pos e0] at q
  walk_at "x0"
  exact q _ _ Ext.more Ak
 ·refine V2 (beq_eq_false_iff_ne.mpr (by omega)) (Bh (Ag (Am (Fp ?_))));rw [if_neg e0] at q;refine Gn (dm p.H) Ae (λh=>!mR (w.pt h)) faD (by rw [ig];omega) ?_ (λx h' R hx ex hR=>?_) λm1 x1=>?_
  ·walk_at "x0"
   exact Iw k wo po λj h1 x1 lj gj=>⟨_,src_list gj,x1,gF gj⟩
  ·refine Ar ⟨rfl,?_⟩
   walk_at "x0"
   refine Fq k x (by rw [wo.lp];exact ir.mp hx) ?_
   walk_at "x0"
   refine Lh k _ _ ⟨_,rfl,rfl,rfl,λ_=>?_⟩
   walk_at "x0"
   exact hR _ Ext.refl
  ·walk_at "x0"
   exact q _ _ (x1.trans Ext.more) Ak
theorem xK {h:Nat}(g:Prg p S) (wo:w.ok p) (hh:h < p.plays.length):(chW p S w h).length<=1000:=by
 have po:=g.po;have h6:p.H<=6:=po.h6;unfold chW;cases es:stW p S w h with
 | none=>simp
 | some s =>
  obtain ⟨so,p1,p2⟩:=wY g hh es;have qo:=Fb wo hh;show (chs p w h s).length<=1000;cases s with
  | choose a c=>show ((dm c).map Ae).length<=1000;rw [ak,ig];exact so.2
  | pick a r =>
   show ((oth p r h).map Jj).length<=1000;rw [ak];have:(oth p r h).length<=p.H:=dz (jx _ _) Oa;omega
  | out a gg qq =>
   show (Jk ((w.pt h).se gg)).length<=1000;unfold Jk;split
   ·simp
   ·rw [ak];have h1:=Ld ((w.pt h).se gg) (qg (((w.pt h).se gg:Nat):Int));have h2:=bits_le (g:=(w.pt h).se gg) (n:=20) (Ak8 h6 (Pt.se_ok qo));show (Jr _ _).length<=1000;omega
  | take bx ls =>
   show (K4 p w h bx ls).length<=1000;unfold K4;rw [dg];have h1:(Ej w h ls).length<=1:=by unfold Ej;split <;> simp
   have h2:=Ry (w:=w) (h:=h) (ks:=Jy ls) (Dt p w h bx);have h3:(Dt p w h bx).length<=6:=by
    unfold Dt;split
    ·rw [ig];exact h6
    ·split <;> simp
   omega
  | send a kd b c =>
   show (if Ji p w h a=true then [D.int 0] else []).length<=1000;split <;> simp
  | _=>exact (by decide:1<=1000)
theorem Aid (g:Prg p S) (wo:w.ok p):(doL p S w).length<=6000:=by
 have h6:p.H<=6:=g.po.h6;refine dz (Iz (b:=1000) _ λh hh=>?_) (by rw [ig];omega);refine dz (Iz (b:=1) _ λc _=>by simp) ?_;have:=xK g wo (ir.mp hh);omega
theorem Us (k:Nat) (g:Prg p S) (wo:w.ok p) (q:∀ j h',Ext [] mh h'->h'[j]?=some (.lst (doL p S w++Ku p w++Kv p w))->P (.ref j) h'):wV (Ac (Gk (k+5)) fuel f89 [p.d,w.d] mh) P:=by
 have po:=g.po;have h6:p.H<=6:=po.h6;have dl:=Aid g wo;refine Af (Aht (k+4)) wA.1 wA.2 rfl ?_;show wS (b89 (k+4)) [some p.d,some w.d,none,none,none] mh _;unfold b89;refine Am (Ci (Vy (Aj ⟨by simp,Ar (Ag (Am ?_))⟩)));refine Qa (dm p.H) Ae (λh=>(chW p S w h).flatMap λc=>[doD h c]) [] mh.length (λl=>∃ x y,l=[some p.d,some w.d,some (.ref mh.length),x,y]) Ak ⟨_,_,rfl⟩ (by show (doL p S w).length<=_;omega) ?_ (λhd l h a hs il xh gh hz J hJ=>?_) λl h il xh gh=>?_
 ·walk_at "x0"
  refine Iw (k+3) wo po λj h1 x1 lj gj=>⟨_,src_list gj,Qc x1 gj ?_⟩
  rw [dg,qx] at lj;omega
 ·obtain ⟨x,y,rfl⟩:=il;have hs:=ir.mp hs;refine Ar ?_;show wS _ [some p.d,some w.d,some (.ref mh.length),some (Ae hd),y] h _;refine Am ?_;refine Qa (chW p S w hd) id (λc=>[doD hd c]) a mh.length (λl=>∃ y,l=[some p.d,some w.d,some (.ref mh.length),some (Ae hd),y]) gh ⟨_,rfl⟩ hz ?_ (λc l h3 a3 ht il x3 g3 hz3 J3 hJ3=>?_) λl h3 il x3 g3=>?_
  ·walk_at "x0"
   refine Oz k hd g wo hs λj h1 x1 lj gj=>⟨_,src_list gj,Qc x1 (by rw [WR];exact gj) ?_⟩
   have:=(cg.mp gh).1;omega
  ·obtain ⟨y,rfl⟩:=il;refine Ar ?_;show wS _ [some p.d,some w.d,some (.ref mh.length),some (Ae hd),some c] h3 _
   walk_at "x0"
   refine ⟨ty_list g3,?_⟩
   walk_at "x0"
   refine Hw g3 (by rw [dg] at hz3;omega) ?_
   walk_at "x0"
   exact hJ3 _ _ ⟨_,rfl⟩ Ext.set (Ip g3)
  ·obtain ⟨y,rfl⟩:=il;refine Ag (Bh ?_);exact hJ _ _ ⟨_,_,rfl⟩ x3 g3
 ·obtain ⟨x,y,rfl⟩:=il;rw [DN] at gh
  have x0:Ext [] mh h:=⟨dz (by simp) xh.len,λi o _ e=>by
   have hi:=(cg.mp e).1
   exact xh.old i o (by intro z;have:=ao.mp z;omega) ((Ext.more (W:=[])).old _ _ (by simp) e)⟩
  have ll:(Ku p w).length<=36:=by
   unfold Ku;split
   ·simp
   ·exact Wf po
  have fl:(Kv p w).length<=6:=by
   unfold Kv;split
   ·simp
   ·rw [ak];exact dz (jx _ _) (by rw [ig];exact h6)
  refine Ag (Am (Fp (Bm (Bm (Be (by with_unfolding_all rfl) (Ca (Ax (Be (by with_unfolding_all rfl) (Aj ?_)))))))));refine R5 (k+2) po wo λj1 h1 x1 g1=>?_
  refine Mu (x1.old _ _ (by simp) gh) g1 (by show (doL p S w).length+_<=_;omega) ?_;refine Ca (Ax (Be (by with_unfolding_all rfl) (Aj ?_)));refine Ur (k+2) po wo λj2 h2 x2 g2=>?_
  refine Mu (x2.old _ _ (by simp) Ak) g2 (by rw [dg];show (doL p S w).length+_+_<=_;omega) ?_;exact q _ _ (x0.trans (x1.trans (Ext.more.trans (x2.trans Ext.more)))) Ak
end
theorem Y9 {f:D->Option PyData}{x:D}:∀ {l:List D}{as:List PyData},Bx f l=some as->x∈l->∃ a,a∈as/\f x=some a
 | d::r,as,e,hx=>by
  simp only [Bx] at e;cases e1:f d with
  | none=>rw [e1] at e;cases e
  | some b =>
   rw [e1] at e;cases e2:Bx f r with
   | none=>rw [e2] at e;cases e
   | some bs =>
    rw [e2] at e;cases e;rcases gb.mp hx with rfl|hx
    ·exact ⟨b,jb,e1⟩
    ·obtain ⟨a,ha,ea⟩:=Y9 e2 hx;exact ⟨a,iw _ ha,ea⟩
theorem xM (mh:MH):∀ (n:Nat) (d:D) (a:PyData),py mh n d=some a->dat n d=true->py mh (n+1) d=some a
 | 0,.non,_,h,_=>h
 | _+1,.non,_,h,_=>h
 | 0,.bl _,_,h,_=>h
 | _+1,.bl _,_,h,_=>h
 | 0,.int _,_,h,_=>h
 | _+1,.int _,_,h,_=>h
 | 0,.str _,_,h,_=>h
 | _+1,.str _,_,h,_=>h
 | 0,.tup _,_,_,z=>by simp [dat] at z
 | 0,.ref _,_,_,z=>by simp [dat] at z
 | 0,.rol _,_,_,z=>by simp [dat] at z
 | 0,.obj ..,_,_,z=>by simp [dat] at z
 | 0,.fn _,_,_,z=>by simp [dat] at z
 | _+1,.ref _,_,_,z=>by simp [dat] at z
 | _+1,.rol _,_,_,z=>by simp [dat] at z
 | _+1,.obj ..,_,_,z=>by simp [dat] at z
 | _+1,.fn _,_,_,z=>by simp [dat] at z
 | n+1,.tup ds,a,h,z=>by
  have z:Mx n ds=true:=z;have up:∀ {l:List D} {as:List PyData},Mx n l=true->Bx (py mh n) l=some as->Bx (py mh (n+1)) l=some as:=λ{l}=>by
   induction l with
   | nil=>intro as _ e;exact e
   | cons d r ih =>
    intro as z e;have z:(dat n d&&Mx n r)=true:=by simpa [Mx] using z
    rw [bf] at z;simp only [Bx] at e ⊢;cases e1:py mh n d with
    | none=>rw [e1] at e;cases e
    | some b =>
     rw [e1] at e;rw [xM mh n d b e1 z.1];cases e2:Bx (py mh n) r with
     | none=>rw [e2] at e;cases e
     | some bs=>rw [e2] at e;rw [ih z.2 e2];exact e
  have h:(match Bx (py mh n) ds with | some xs=>some (PyData.tuple xs) | none=>none)=some a:=h;show (match Bx (py mh (n+1)) ds with | some xs=>some (PyData.tuple xs) | none=>none)=some a;cases e:Bx (py mh n) ds with
  | none=>rw [e] at h;cases h
  | some xs=>rw [e] at h;rw [up z e];exact h
theorem M9 {n:Nat}:∀ {l:List D},(∀ x∈l,dat n x=true)->Mx n l=true
 | [],_=>rfl
 | x::r,h=>by
  show Mx n (x::r)=true;simp only [Mx,h x jb,M9 λy hy=>h y (iw _ hy),JS]
theorem Wg {mh:MH}{P:D->MH->Prop}{j:Nat}{ds:List D}{x:D}(gj:mh[j]?=some (.lst ds)) (hd:∀ y∈ds,dat 59 y=true) (hx:x∈ds) (q:P (.bl true) mh):wV (inD false x (.ref j) mh) P:=by
 obtain ⟨as,e,_⟩:=V6 mh 59 ds (M9 hd);obtain ⟨a,ha,ea⟩:=Y9 e hx;obtain ⟨a',ea',la⟩:=V5 mh 59 x (hd x hx);rw [ea] at ea';cases ea';refine Adg (k:=true) ?_ q;unfold inB;have p1:py mh 60 (.ref j)=some (.list as):=by
  show (match mh[j]? with | some (.lst o)=>(match Bx (py mh 59) o with | some xs=>some (PyData.list xs) | none=>none) | _=>none)=_;rw [gj];dsimp only;rw [e]
 rw [p1,xM mh 59 x a ea (hd x hx)];dsimp only;exact congrArg some (List.any_eq_true.mpr ⟨a,ha,SeqAt.eqv_refl a la⟩)
theorem gQ (n:Nat) (i:Int):dat n (.int i)=true:=by cases n <;> rfl
theorem xN (n:Nat) (xs:List Int):Mx n (xs.map D.int)=true:=M9 λx hx=>by
 obtain ⟨i,_,rfl⟩:=di.mp hx;exact gQ n i
noncomputable def Chc (c:D):Prop:=(∃ i:Int,c=.int i)\/∃ xs:List Int,xs.length<=2/\c=.tup (xs.map D.int)
theorem gR {c:D}{n:Nat}(h:Chc c):dat (n+1) c=true:=by
 rcases h with ⟨i,rfl⟩|⟨xs,_,rfl⟩
 ·rfl
 ·exact xN n xs
section
variable {mh:MH}{P:D->MH->Prop}{p:Pg}{w:Wd}{S:List (List Sp)}
theorem Ja {h:Nat}{c:D}(wo:w.ok p) (hh:h < p.plays.length) (hc:c∈chW p S w h):∃ s,stW p S w h=some s/\c∈chs p w h s/\Chc c:=by
 unfold chW at hc;cases es:stW p S w h with
 | none=>rw [es] at hc;cases hc
 | some s =>
  rw [es] at hc;have hc:c∈chs p w h s:=hc;refine ⟨s,rfl,hc,?_⟩;have zero:c∈[D.int 0]->Chc c:=λz=>Or.inl ⟨0,ao.mp z⟩
  cases s with
  | choose a n =>
   obtain ⟨i,_,rfl⟩:=di.mp (show c∈(dm n).map Ae from hc);exact Or.inl ⟨_,rfl⟩
  | pick a r =>
   obtain ⟨y,_,rfl⟩:=di.mp (show c∈(oth p r h).map Jj from hc);exact Or.inr ⟨[(y:Int)],by simp,rfl⟩
  | out a gg qq =>
   have hc:c∈Jk ((w.pt h).se gg):=hc;unfold Jk at hc;split at hc
   ·exact zero hc
   ·obtain ⟨y,_,rfl⟩:=di.mp hc;exact Or.inr ⟨[(y:Int)],by simp,rfl⟩
  | take bx ls =>
   rcases Hz wo hh hc with ⟨rfl,_⟩|⟨s,l,r,_,_,_,rfl⟩
   ·exact Or.inr ⟨[-1,0],by simp,rfl⟩
   ·exact Or.inr ⟨[(s:Int),l.1],by simp,rfl⟩
  | send a kd b c' =>
   have hc:c∈(if Ji p w h a=true then [D.int 0] else []):=hc;split at hc
   ·exact zero hc
   ·cases hc
  | _=>exact zero hc
theorem H9 (k:Nat) (i:Int) (mh:MH):Ac (Gk (k+1)) fuel f28 [.int i] mh=some (.bl true,mh):=by kernel_rfl
theorem Ut {j:Nat}{mh:MH}{bs:List Bool}{P:D->MH->Prop}(e:mh[j]?=some (.lst (bs.map D.bl))) (h:P (.bl (bs.all id)) mh):wV (kW [.ref j] mh) P:=Yp (f:=λbs=>bs.all id) (Eh e) h
theorem cM (k:Nat) {c:D}(hc:Chc c) (f:∀ h',Ext [] mh h'->P (.bl true) h'):wV (Ac (Gk (k+2)) fuel f96 [c] mh) P:=by
 refine Af (Ahz (k+1)) wJ.1 wJ.2 rfl ?_;show wS (b96 (k+1)) [some c] mh _;unfold b96;rcases hc with ⟨i,rfl⟩|⟨xs,hx,rfl⟩
 ·walk_at "x0"
  exact Ay (H9 k _ _) (f _ Ext.refl)
 ·walk_at "x0"
  refine Cm xs D.int (λ_=>.bl true) (by omega) (Im (Be (by with_unfolding_all rfl) ⟨_,rfl,Dn rfl⟩)) (λx h1 R hx x1 hR=>?_) λh1 x1=>?_
  ·refine Ar ⟨rfl,?_⟩
   walk_at "x0"
   exact Ay (H9 k _ _) (hR _ Ext.refl)
  ·walk_at "x0"
   refine Ut (bs:=xs.map λ_=>true) (by rw [Ak,kh];rfl) ?_;have e:(xs.map λ_=>true).all id=true:=by rw [PJ];exact zm.mpr λ_ _=>rfl
   rw [e]
   walk_at "x0"
   exact f _ (x1.trans Ext.more)
noncomputable def Mv (p:Pg) (S:List (List Sp)) (w:Wd) (m:D):Prop:=(∃ h c,h < p.plays.length/\c∈chW p S w h/\m=doD h c)\/(∃ s t,s < p.plays.length/\t < p.plays.length/\¬ w.x=0/\loD s t∈Ku p w/\m=loD s t)\/∃ h,h < p.plays.length/\¬ w.y=0/\faD h∈Kv p w/\m=faD h
theorem Qd {m:D}(h:m∈Ku p w):∃ s t,s < p.plays.length/\t < p.plays.length/\¬ w.x=0/\m=loD s t:=by
 unfold Ku at h;split at h
 ·cases h
 ·rename_i e0;obtain ⟨s,hs,h⟩:=jg.mp h;obtain ⟨t,ht,h⟩:=jg.mp h;unfold O9 at h;split at h
  ·exact ⟨s,t,ir.mp hs,ir.mp ht,e0,ao.mp h⟩
  ·cases h
theorem Wh {m:D}(h:m∈Kv p w):∃ s,s < p.plays.length/\¬ w.y=0/\m=faD s:=by
 unfold Kv at h;split at h
 ·cases h
 ·rename_i e0;obtain ⟨s,hs,rfl⟩:=di.mp h;exact ⟨s,ir.mp (lq.mp hs).1,e0,rfl⟩
theorem O1 {m:D}(h:m∈doL p S w++Ku p w++Kv p w):Mv p S w m:=by
 rcases jm.mp h with h|h
 ·rcases jm.mp h with h|h
  ·obtain ⟨s,hs,h⟩:=jg.mp h;obtain ⟨c,hc,h⟩:=jg.mp h;exact Or.inl ⟨s,c,ir.mp hs,hc,ao.mp h⟩
  ·obtain ⟨s,t,h1,h2,h3,e⟩:=Qd h;exact Or.inr (Or.inl ⟨s,t,h1,h2,h3,by rw [← e];exact h,e⟩)
 ·obtain ⟨s,h1,h2,e⟩:=Wh h;exact Or.inr (Or.inr ⟨s,h1,h2,by rw [← e];exact h,e⟩)
theorem cN (k:Nat) (wo:w.ok p) {m:D}(hm:Mv p S w m) (f:∀ h',Ext [] mh h'->P (.bl true) h'):wV (Ac (Gk (k+3)) fuel f95 [m] mh) P:=by
 refine Af (Ahy (k+2)) wI.1 wI.2 rfl ?_;show wS (b95 (k+2)) [some m] mh _;unfold b95;rcases hm with ⟨h,c,hh,hc,rfl⟩|⟨s,t,hs,ht,hx,hi,rfl⟩|⟨h,hh,hy,hi,rfl⟩
 ·obtain ⟨s,es,hcs,cf⟩:=Ja wo hh hc;unfold doD
  walk_at "x0"
  refine Bj (ds:=_) (by intro z z';cases z') rfl ?_
  walk_at "x0"
  refine Bj (ds:=_) (by intro z z';cases z') rfl ?_
  walk_at "x0"
  refine Ay (H9 (k+1) _ _) ⟨_,rfl,λ_=>?_,λe=>by cases e⟩
  walk_at "x0"
  exact cM k cf f
 ·unfold loD
  walk_at "x0"
  refine Bj (ds:=_) (by intro z z';cases z') rfl ?_
  walk_at "x0"
  refine Bj (ds:=_) (by intro z z';cases z') rfl ?_
  walk_at "x0"
  refine Ay (H9 (k+1) _ _) ⟨_,rfl,λ_=>?_,λe=>by cases e⟩
  walk_at "x0"
  exact Ay (H9 (k+1) _ _) (f _ Ext.refl)
 ·unfold faD
  walk_at "x0"
  refine Bj (ds:=_) (by intro z z';cases z') rfl ?_
  walk_at "x0"
  refine Bj (ds:=_) (by intro z z';cases z') rfl ?_
  walk_at "x0"
  exact Ay (H9 (k+1) _ _) (f _ Ext.refl)
theorem Aco (k:Nat) (g:Prg p S) (wo:w.ok p) {m:D}(hm:Mv p S w m) (f:∀ h',Ext [] mh h'->P (.bl true) h'):wV (Ac (Gk (k+5)) fuel f94 [p.d,w.d,m] mh) P:=by
 refine Af (Ahx (k+4)) wH.1 wH.2 rfl ?_;show wS (b94 (k+4)) [some p.d,some w.d,some m] mh _;unfold b94;refine Am (Fi (Vz (Rq (Ca (Ax (Be (by with_unfolding_all rfl) (Aj ?_)))))));refine cN (k+1) wo hm λh1 x1=>?_
 rcases hm with ⟨h,c,hh,hc,rfl⟩|⟨s,t,hs,ht,hx,hi,rfl⟩|⟨h,hh,hy,hi,rfl⟩
 ·unfold doD
  walk_at "x0"
  refine Hl (a:=.tup (w.ps.map Pt.d)) ?_
  walk_at "x0"
  refine Bj (ds:=w.ps.map Pt.d) (by intro z z';cases z') rfl ?_;rw [ak,wo.lp];refine Kd ⟨_,rfl,λ_=>?_,λe=>absurd (of_decide_eq_false e) (by omega)⟩
  walk_at "x0"
  refine Oz k h g wo hh λj h2 x2 lj gj=>?_
  refine Wg gj (λy hy=>?_) hc ?_
  ·obtain ⟨_,_,_,cf⟩:=Ja wo hh hy;exact gR (n:=58) cf
  ·walk_at "x0"
   exact f _ (x1.trans x2)
 ·unfold loD
  walk_at "x0"
  refine R5 (k+2) g.po wo λj h2 x2 gj=>?_
  refine Wg gj (λy hy=>?_) hi ?_
  ·obtain ⟨_,_,_,_,_,rfl⟩:=Qd hy
   kernel_rfl
  ·walk_at "x0"
   exact f _ (x1.trans x2)
 ·unfold faD
  walk_at "x0"
  refine Ur (k+2) g.po wo λj h2 x2 gj=>?_
  refine Wg gj (λy hy=>?_) hi ?_
  ·obtain ⟨_,_,_,rfl⟩:=Wh hy
   kernel_rfl
  ·walk_at "x0"
   exact f _ (x1.trans x2)
theorem cO (k h:Nat) (g:Prg p S) (wo:w.ok p) (hh:h < p.plays.length) {s:Sp}(es:stW p S w h=some s) {c:D}(hc:c∈chs p w h s) (f:∀ (w':Wd) h',w'.ok p->0<=(eff p w h c s).1.pl->w'=w.ap h (eff p w h c s)->Ext [] mh h'->P w'.d h'):wV (Ac (Gk (k+7)) fuel f93 [p.d,w.d,doD h c] mh) P:=by
 refine Af (wO (k+6)) V9.1 V9.2 rfl ?_;show wS (b93 (k+6)) [some p.d,some w.d,some (doD h c),none] mh _;unfold b93;unfold doD
 walk_at "x0"
 refine Jw (k+3) h g wo hh ?_;rw [es];refine ⟨_,_,_,_,_,rfl,rfl,by decide +kernel,Aj (Ay (cL (k+5) (spD s) mh) ?_)⟩
 walk_at "x0"
 exact Y8 k h g wo hh es hc f
theorem Aie {h:Nat}{s:Sp}(es:stW p S w h=some s) {c:D}(hc:c∈chs p w h s):c∈chW p S w h:=by unfold chW;rw [es];exact hc
noncomputable def Nx (p:Pg) (S:List (List Sp)) (w:Wd) (m:D) (w':Wd):Prop:=(∃ h c s,h < p.plays.length/\stW p S w h=some s/\c∈chs p w h s/\m=doD h c/\w'=w.ap h (eff p w h c s))\/(∃ s t,s < p.plays.length/\t < p.plays.length/\¬ w.x=0/\loD s t∈Ku p w/\m=loD s t/\w'=xJ w s t)\/∃ h,h < p.plays.length/\¬ w.y=0/\faD h∈Kv p w/\m=faD h/\w'=Y4 p w h
theorem Nx.mv {m:D}{w':Wd}(h:Nx p S w m w'):Mv p S w m:=by
 rcases h with ⟨h,c,s,hh,es,hc,rfl,_⟩|⟨s,t,hs,ht,hx,hi,rfl,_⟩|⟨h,hh,hy,hi,rfl,_⟩
 ·exact Or.inl ⟨h,c,hh,Aie es hc,rfl⟩
 ·exact Or.inr (Or.inl ⟨s,t,hs,ht,hx,hi,rfl⟩)
 ·exact Or.inr (Or.inr ⟨h,hh,hy,hi,rfl⟩)
theorem Wi {h h':Nat}{c c':D}(e:doD h c=doD h' c'):h=h'/\c=c':=by
 unfold doD Ae at e;injection e with e
 injection e with _ e
 injection e with e1 e
 injection e with e2 _
 injection e1 with e1
 exact ⟨by omega,e2⟩
theorem Qe {s t s' t':Nat}(e:loD s t=loD s' t'):s=s'/\t=t':=by
 unfold loD Ae at e;injection e with e
 injection e with _ e
 injection e with e1 e
 injection e with e2 _
 injection e1 with e1
 injection e2 with e2
 exact ⟨by omega,by omega⟩
theorem Wj {h h':Nat}(e:faD h=faD h'):h=h':=by
 unfold faD Ae at e;injection e with e
 injection e with _ e
 injection e with e1 e
 injection e1 with e1
 omega
theorem xO {h s t:Nat}{c:D}:doD h c≠loD s t:=λe=>by
 unfold doD loD at e;injection e with e
 injection e with e _
 injection e with e
 exact absurd e (by decide +kernel)
theorem xP {h s:Nat}{c:D}:doD h c≠faD s:=λe=>by
 unfold doD faD at e;injection e with e
 injection e with _ e
 injection e with _ e
 cases e
theorem xQ {s t h:Nat}:loD s t≠faD h:=λe=>by
 unfold loD faD at e;injection e with e
 injection e with _ e
 injection e with _ e
 cases e
theorem Nx.det {m:D}{a b:Wd}(h1:Nx p S w m a) (h2:Nx p S w m b):a=b:=by
 rcases h1 with ⟨h,c,s,hh,es,hc,e,ea⟩|⟨s,t,hs,ht,hx,hi,e,ea⟩|⟨h,hh,hy,hi,e,ea⟩
 ·rcases h2 with ⟨h',c',s',hh',es',hc',e',eb⟩|⟨s',t',_,_,_,_,e',eb⟩|⟨h',_,_,_,e',eb⟩
  ·obtain ⟨rfl,rfl⟩:=Wi (e.symm.trans e');rw [es] at es';cases es';rw [ea,eb]
  ·exact absurd (e.symm.trans e') xO
  ·exact absurd (e.symm.trans e') xP
 ·rcases h2 with ⟨h',c',s',hh',es',hc',e',eb⟩|⟨s',t',_,_,_,_,e',eb⟩|⟨h',_,_,_,e',eb⟩
  ·exact absurd (e'.symm.trans e) xO
  ·obtain ⟨rfl,rfl⟩:=Qe (e.symm.trans e');rw [ea,eb]
  ·exact absurd (e.symm.trans e') xQ
 ·rcases h2 with ⟨h',c',s',hh',es',hc',e',eb⟩|⟨s',t',_,_,_,_,e',eb⟩|⟨h',_,_,_,e',eb⟩
  ·exact absurd (e'.symm.trans e) xP
  ·exact absurd (e'.symm.trans e) xQ
  ·obtain rfl:=Wj (e.symm.trans e');rw [ea,eb]
theorem R6 (k:Nat) (g:Prg p S) (wo:w.ok p) {m:D}(hm:Mv p S w m) (f:∀ (w':Wd) h',w'.ok p->Nx p S w m w'->Ext [] mh h'->P w'.d h'):wV (Ac (Gk (k+7)) fuel f93 [p.d,w.d,m] mh) P:=by
 refine Af (wO (k+6)) V9.1 V9.2 rfl ?_;show wS (b93 (k+6)) [some p.d,some w.d,some m,none] mh _;unfold b93;rcases hm with ⟨h,c,hh,hc,rfl⟩|⟨s,t,hs,ht,hx,hi,rfl⟩|⟨h,hh,hy,hi,rfl⟩
 ·obtain ⟨s,es,hcs,cf⟩:=Ja wo hh hc;unfold doD
  walk_at "x0"
  refine Jw (k+3) h g wo hh ?_;rw [es];refine ⟨_,_,_,_,_,rfl,rfl,by decide +kernel,Aj (Ay (cL (k+5) (spD s) mh) ?_)⟩
  walk_at "x0"
  exact Y8 k h g wo hh es hcs λw' h' o _ e x=>f w' h' o (Or.inl ⟨h,c,s,hh,es,hcs,rfl,e⟩) x
 ·unfold loD
  walk_at "x0"
  exact Y5 (k+3) s t g.po wo hs ht hx λo=>f _ _ o (Or.inr (Or.inl ⟨s,t,hs,ht,hx,hi,rfl,rfl⟩)) Ext.refl
 ·unfold faD
  walk_at "x0"
  exact Y7 (k+3) h g.po wo hh hy λo=>f _ _ o (Or.inr (Or.inr ⟨h,hh,hy,hi,rfl,rfl⟩)) Ext.refl
end
section
variable {p:Pg}{w:Wd}{S:List (List Sp)}{h h':Nat}{e e':Pt×Ed}
theorem Ado {u:Wd}{x:Nat}{d:Ed}:(u.ed h d).pt x=u.pt x:=by cases d <;> rfl
theorem gU {u:Wd}{d:Ed}:(u.ed h d).x=u.x/\(u.ed h d).y=u.y:=by cases d <;> exact ⟨rfl,rfl⟩
theorem Za (hne:h≠h'):(w.ap h e).pt h'=w.pt h':=by
 unfold Wd.ap;rw [Ado];unfold Wd.pt Wd.setP;dsimp only;rw [iy hne]
theorem Adp (hh:h < w.ps.length):(w.ap h e).pt h=e.1:=by
 unfold Wd.ap;rw [Ado];unfold Wd.pt Wd.setP;dsimp only;rw [nq hh];rfl
theorem Km (wo:w.ok p) {s t:Nat}(hs:s < p.plays.length) (ht:t < p.plays.length) (l:List Lt) (s' t':Nat):(w.setC s t l).cell s' t'=if s=s'/\t=t' then l else w.cell s' t':=by
 have hl:t < w.rs.length:=by rw [wo.lr];exact ht
 unfold Wd.cell Wd.setC;dsimp only
 by_cases et:t=t'
 ·subst et;rw [nq hl];have hv:=(wo.rs (w.rs[t]) (ni hl)).1;rw [au hl];simp only [NT]
  by_cases es:s=s'
  ·subst es;rw [nq (by rw [hv];exact hs),if_pos ⟨rfl,trivial⟩];rfl
  ·rw [iy es,if_neg λz=>es z.1]
 ·rw [iy et,if_neg λz=>et z.2]
noncomputable def Ev (p:Pg) (w:Wd) (h:Nat):Ed->Prop
 | .no=>True
 | .app t _=>t < p.plays.length
 | .pop s=>s < p.plays.length/\w.cell s h≠[]
noncomputable def edF (h:Nat):Ed->Nat->Nat->List Lt->List Lt
 | .no,_,_,l=>l
 | .app t0 m,s,t,l=>if h=s/\t0=t then l++[m] else l
 | .pop s0,s,t,l=>if s0=s/\h=t then l.tail else l
theorem gW (wo:w.ok p) (hh:h < p.plays.length) {ev:∀ t m,e.2=.app t m->t < p.plays.length}{ep:∀ s,e.2=.pop s->s < p.plays.length}(s t:Nat):(w.ap h e).cell s t=edF h e.2 s t (w.cell s t):=by
 obtain ⟨X,d⟩:=e;have key:((w.setC 0 0 []).ok p->True):=λ_=>trivial
 cases d with
 | no=>rfl
 | app t0 m =>
  have a:=Km wo hh (ev t0 m rfl) (w.cell h t0++[m]) s t;refine Eq.trans (show _=(w.setC h t0 (w.cell h t0++[m])).cell s t from rfl) (a.trans ?_);show _=if h=s/\t0=t then w.cell s t++[m] else w.cell s t
  by_cases z:h=s/\t0=t
  ·rw [if_pos z,if_pos z,z.1,z.2]
  ·rw [if_neg z,if_neg z]
 | pop s0 =>
  have a:=Km wo (ep s0 rfl) hh (w.cell s0 h).tail s t;refine Eq.trans (show _=(w.setC s0 h (w.cell s0 h).tail).cell s t from rfl) (a.trans ?_);show _=if s0=s/\h=t then (w.cell s t).tail else w.cell s t
  by_cases z:s0=s/\h=t
  ·rw [if_pos z,if_pos z,z.1,z.2]
  ·rw [if_neg z,if_neg z]
theorem Ev.app (v:Ev p w h e.2):∀ t m,e.2=.app t m->t < p.plays.length:=λt m z=>by rw [z] at v;exact v
theorem Ev.pop (v:Ev p w h e.2):∀ s,e.2=.pop s->s < p.plays.length:=λs z=>by rw [z] at v;exact v.1
theorem Aif {u:Wd}(wo:w.ok p) (uo:u.ok p) (e1:w.ps=u.ps) (e2:w.x=u.x) (e3:w.y=u.y) (ec:∀ s t,s < p.plays.length->t < p.plays.length->w.cell s t=u.cell s t):w=u:=by
 obtain ⟨a,b,c,d⟩:=w;obtain ⟨a',b',c',d'⟩:=u;have er:b=b':=by
  refine GR (by rw [show b.length=_ from wo.lr,show b'.length=_ from uo.lr]) λt h1 h2=>?_
  have l1:=(wo.rs b[t] (ni h1)).1;have l2:=(uo.rs b'[t] (ni h2)).1;have ht:t < p.plays.length:=by rw [← wo.lr];exact h1
  refine GR (by rw [l1,l2]) λs h3 h4=>?_
  have hs:s < p.plays.length:=by rw [l1] at h3;exact h3
  have:=ec s t hs ht;unfold Wd.cell at this;dsimp only at this;rw [au h1,au h2] at this;simp only [NT] at this;rw [au h3,au h4] at this;exact this
 simp only at e1 e2 e3;rw [e1,e2,e3,er]
theorem Aig (g:Prg p S) (wo:w.ok p) (hh:h < p.plays.length) {s:Sp}(es:stW p S w h=some s) {c:D}(hc:c∈chs p w h s):Ev p w h (eff p w h c s).2:=by
 have qo:=Fb wo hh;cases s with
 | send a kd b c' =>
  show Ev p w h (xG _ _ _);unfold xG;split
  ·exact trivial
  ·rename_i z;unfold Jx at z;have nk:=Pt.nm_ok (a:=a) qo;have hn:¬ (w.pt h).nm a=-1:=λe=>z (by rw [e];rfl)
   exact (Ob nk hn).2
 | take bx ls =>
  show Ev p w h (Jz _ _ _ _).2;rcases Hz wo hh hc with ⟨rfl,h0⟩|⟨s,l,r,hs,ec,h0,rfl⟩
  ·dsimp only [Jz];split
   ·rw [if_pos (by decide)];exact trivial
   ·exact trivial
  ·dsimp only [Jz];split
   ·split
    ·exact trivial
    ·rw [jh,ec];exact ⟨hs,by rw [ec];intro z;cases z⟩
   ·exact trivial
 | _=>exact trivial
end
noncomputable def Aih:D->Bool
 | .int _=>true
 | _=>false
noncomputable def okB (lo hi:Int):D->Bool
 | .int i=>decide (lo<=i)&&decide (i<=hi)
 | _=>false
theorem mX (k:Nat) (x:D) (mh:MH) (hx:simple x=true) {P:D->MH->Prop}(h:P (.bl (Aih x)) mh):wV (Ac (Gk (k+1)) fuel f28 [x] mh) P:=by
 refine Af (Agu k) uM.1 uM.2 rfl ?_;show wS (b28 k) [some x] mh _;unfold b28;cases x with
 | int i =>
  walk_at "r"
  exact h
 | bl i =>
  walk_at "r"
  exact h
 | non =>
  walk_at "r"
  exact h
 | _=>cases hx
theorem Zc (k:Nat) (x:D) (lo hi:Int) (mh:MH) (hx:simple x=true) {P:D->MH->Prop}(h:P (.bl (okB lo hi x)) mh):wV (Ac (Gk (k+2)) fuel f29 [x,.int lo,.int hi] mh) P:=by
 refine Af (Agv (k+1)) uN.1 uN.2 rfl ?_;show wS (b29 (k+1)) [some x,some (.int lo),some (.int hi)] mh _;unfold b29;walk_at "r"
 refine mX k x mh hx ?_;cases x with
 | int i =>
  walk_at "r"
  refine Bv (λq=>?_) λq=>?_
  ·walk_at "r"
   have h:P (.bl (decide (lo<=i)&&decide (i<=hi))) mh:=h;rw [q,yj] at h;exact h
  ·have h:P (.bl (decide (lo<=i)&&decide (i<=hi))) mh:=h;rw [q,HX] at h;exact h
 | bl i =>
  walk_at "r"
  exact h
 | non =>
  walk_at "r"
  exact h
 | _=>cases hx
theorem Zd (k:Nat) (ds:List D) (c:Int) (mh:MH) {P:D->MH->Prop}(h:P (.bl (decide ((ds.length:Int)=c))) mh):wV (Ac (Gk (k+1)) fuel f30 [.tup ds,.int c] mh) P:=by
 refine Af (Agw k) uO.1 uO.2 rfl ?_;show wS (b30 k) [some (.tup ds),some (.int c)] mh _;unfold b30;walk_at "r"
 refine Bj (by intro z z';cases z') rfl ?_;walk_at "r"
 have e:((ds.length:Int)==c)=decide ((ds.length:Int)=c):=by rw [qb,beq_iff_eq,decide_eq_true_iff]
 show P (.bl ((ds.length:Int)==c)) mh;rw [e];exact h
theorem comp_map {mi:DM Src}{cs:List (Option Nat)}{i:Nat}{e:DM D}{loc:DL.Loc}{mh:MH}{Q:D->MH->Prop}{ds:List D}(f:D->D) (hz:ds.length<=1000000) (hm:wD mi loc mh λsrc h0=>src=.seq ds/\h0=mh)
  (step:∀ d h {R:D->MH->Prop},d∈ds->Ext [] mh h->(∀ h',Ext [] mh h'->R (f d) h')->wD e ((Nk cs loc).set i (some d)) h R) (fin:∀ h,Ext [] mh h->Q (.ref h.length) (h++[.lst (ds.map f)])) :
  wD (Bp mi cs (Ai i) (Zr true) e) loc mh Q:=by
 refine Gu (Az hm ?_);rintro src h0 ⟨e1,e2⟩;subst e1;subst e2;refine ⟨ds,λj acc h=>acc=(ds.take j).map f/\j<=ds.length/\Ext [] h0 h,hz,⟨rfl,jy _,Ext.refl⟩,λ_ _ _ _=>⟨rfl,rfl⟩,λj acc h q=>by rw [q.1,ak,qd];omega,λj d acc h ed q=>?_,λacc h q=>?_⟩
 ·refine Ar (Aj (tV ?_));refine step d h (gn ed) q.2.2 λh' ex=>⟨?_,?_,ex⟩
  ·rw [q.1,ql,ed,ji];rfl
  ·have:=(cg.mp ed).1;omega
 ·rw [q.1,rz];exact fin h q.2.2
theorem Acp (k:Nat) (ds:List D) (c lo hi:Int) (mh:MH) (hd:∀ d∈ds,simple d=true) (hz:ds.length<=1000000) {P:D->MH->Prop}(h:∀ mh',Ext [] mh mh'->P (.bl (decide ((ds.length:Int)=c)&&ds.all (okB lo hi))) mh') :
  wV (Ac (Gk (k+3)) fuel f31 [.tup ds,.int c,.int lo,.int hi] mh) P:=by
 refine Af (Agx (k+2)) uP.1 uP.2 rfl ?_;show wS (b31 (k+2)) [some (.tup ds),some (.int c),some (.int lo),some (.int hi)] mh _;unfold b31;walk_at "r"
 refine Zd (k+1) ds c mh ?_;walk_at "r"
 refine Bv (λq=>?_) λq=>?_
 ·walk_at "r"
  refine comp_map (ds:=ds) (λd=>.bl (okB lo hi d)) hz ?_ (λd h' R hd' ex hR=>?_) λh' ex=>?_
  ·walk_at "r"
   exact ⟨_,rfl,rfl,rfl⟩
  ·walk_at "r"
   exact Zc k d lo hi h' (hd d hd') (hR h' ex)
  ·walk_at "r"
   refine Yp (f:=λbs=>bs.all id) (bs:=ds.map (okB lo hi)) (by rw [Eh Ak,kh];rfl) ?_;have:=h (h'++[.lst (ds.map λd=>.bl (okB lo hi d))]) (ex.trans Ext.more);rw [q,yj] at this;rw [PJ];exact this
 ·have:=h mh Ext.refl;rw [q,HX] at this;exact this
noncomputable def R7 (c:Int) (ds:List D):Bool:=(decide ((ds.length:Int)=c)&&ds.all (okB 0 (c - 1)))&&(match intsOf ds with | some ns=>decide (((Dw ns).length:Int)=c) | none=>false)
theorem gY:∀ {ds:List D}{lo hi:Int},ds.all (okB lo hi)=true->∃ ns,intsOf ds=some ns/\ds=ns.map D.int
 | [],_,_,_=>⟨[],rfl,rfl⟩
 | d::r,lo,hi,h=>by
  rw [GK,bf] at h;cases d with
  | int i =>
   obtain ⟨ns,e,e2⟩:=gY h.2;exact ⟨i::ns,by show (match intsOf r with | some l=>some (i::l) | none=>none)=_;rw [e],by rw [e2];rfl⟩
  | _=>cases h.1
theorem Uu (k:Nat) (ds:List D) (c:Int) (mh:MH) (hd:∀ d∈ds,simple d=true) (hz:ds.length < 4000) {P:D->MH->Prop}(h:∀ mh',Ext [] mh mh'->P (.bl (R7 c ds)) mh') :
  wV (Ac (Gk (k+4)) fuel f44 [.tup ds,.int c] mh) P:=by
 refine Af (Ag1 (k+3)) uU.1 uU.2 rfl ?_;show wS (b44 (k+3)) [some (.tup ds),some (.int c)] mh _;unfold b44;walk_at "r"
 refine Acp k ds c 0 (c - 1) mh hd (by omega) λh' ex=>?_
 walk_at "r"
 refine Bv (λq=>?_) λq=>?_
 ·walk_at "r"
  rw [bf] at q;obtain ⟨ns,en,ed⟩:=gY q.2;have hl:ns.length < 4000:=by rw [ed,ak] at hz;exact hz
  refine Ay (d:=.int (Dw ns).length) (h:=h') (by simp only [Ij,Xo,en,if_pos hl]) ?_;walk_at "r"
  have:=h h' ex;unfold R7 at this;rw [q.1,q.2,en] at this;have e:(((Dw ns).length:Int)==c)=decide (((Dw ns).length:Int)=c):=by rw [qb,beq_iff_eq,decide_eq_true_iff]
  show P (.bl (((Dw ns).length:Int)==c)) h';rw [e];exact this
 ·have:=h h' ex;unfold R7 at this;rw [q,HX] at this;exact this
theorem R8 (p:List Nat):∀ d∈p.map Ae,simple d=true:=λd hd=>by
 obtain ⟨n,_,rfl⟩:=di.mp hd;rfl
theorem Aii {ns:List Int}(nd:ns.Nodup):(Dw ns).length=ns.length:=((Om nd (λx hx=>Ub.mpr hx) (Lb (Xm ns) λx hx=>Ub.mp hx)).length_eq).symm
theorem cP {p:List Nat}(nd:p.Nodup):(p.map λn:Nat=>(n:Int)).Nodup:=Dj nd λa _ b _ e=>by omega
theorem Uv {c:Nat}{p:List Nat}(hp:IsP c p):R7 c (p.map Ae)=true:=by
 unfold R7;have e1:intsOf (p.map Ae)=some (p.map λn:Nat=>(n:Int)):=by rw [Mw,Gi]
 rw [e1,bf,bf];refine ⟨⟨?_,?_⟩,?_⟩
 ·rw [decide_eq_true_iff,ak,hp.len]
 ·rw [PJ,zm];intro x hx;have:=hp.lt hx;show (decide ((0:Int)<=(x:Int))&&decide ((x:Int)<=(c:Int) - 1))=true;rw [bf,decide_eq_true_iff,decide_eq_true_iff];omega
 ·show decide _=true;rw [decide_eq_true_iff,Aii (cP hp.nd),ak,hp.len]
theorem Uw (f:Nat->Bool) (j:Nat):(dm (j+1)).filter f=(dm j).filter f++(if f j=true then [j] else []):=by
 rw [List.range_succ,FJ];congr 1
 by_cases h:f j=true
 ·rw [if_pos h,NP,if_pos h];rfl
 ·rw [if_neg h,NP,if_neg h];rfl
theorem Wk (k:Nat) (x y z:D) (hs:List Nat) (r:Nat) (mh:MH) (hz:hs.length<=1000) {P:D->MH->Prop}(h:∀ mh',Ext [] mh mh'->P (Bk (hv hs r)) mh'):wV (Ac (Gk (k+1)) fuel f39 [.tup [x,y,z,Bk hs],.int r] mh) P:=by
 refine Af (wM k) V7.1 V7.2 rfl ?_;show wS (b39 k) [some (.tup [x,y,z,Bk hs]),some (.int r)] mh _;unfold b39;walk_at "r"
 refine Gu ?_;walk_at "r"
 refine Bo (j:=3) (d:=Bk hs) rfl ?_;refine ⟨.seq (hs.map Ae),rfl,Jf 0 (hs.map Ae),λj acc h=>acc=((dm j).filter λn=>hs[n]?==some r).map Ae/\h=mh,by rw [J8,ak];omega,⟨rfl,rfl⟩,λ_ _ _ _=>⟨rfl,rfl⟩,λj acc h q=>?_,λj d acc h ed q=>?_,λacc h q=>?_⟩
 ·rw [q.1,ak];refine dz (jx _ _) ?_;rw [ig];exact bh _
 ·obtain ⟨rfl,rfl⟩:=q;rw [J7,cj] at ed;cases e:hs[j]? with
  | none=>rw [e] at ed;cases ed
  | some v =>
   rw [e] at ed;cases ed;rw [NZ];refine V0 rfl ?_;walk_at "r"
   have ef:(hs[j]?==some r)=((v:Int)==(r:Int)):=by
    rw [e,qb,beq_iff_eq,beq_iff_eq];constructor
    ·intro q;cases q;rfl
    ·intro q;congr 1;omega
   refine Bv (λq=>?_) λq=>?_
   ·walk_at "r"
    refine ⟨?_,rfl⟩;rw [Uw,if_pos (ef.trans q),ji];rfl
   ·refine ⟨?_,rfl⟩;rw [Uw,if_neg (by rw [ef];intro z;rw [z] at q;cases q),yc]
 ·obtain ⟨rfl,rfl⟩:=q;rw [J8,ak];walk_at "r"
  exact Ck (Dh _ _) (h _ Ext.more)
theorem xR (p:List Nat) (n:Nat):D.tup (p.map Ae++[D.int n])=Bk (p++[n]):=by
 unfold Bk;rw [ji];rfl
theorem Ux (f:Nat->Bool) {l:List Nat}{j v:Nat}(h:l[j]?=some v):(l.take (j+1)).filter f=(l.take j).filter f++(if f v=true then [v] else []):=by
 rw [ql,h,FJ];congr 1
 by_cases q:f v=true
 ·rw [if_pos q];simp [q]
 ·rw [if_neg q];simp [q]
theorem xT (k:Nat) (x y z:D) (hs:List Nat) (mh:MH) (hc:hs.length<=6) {P:D->MH->Prop}(h:∀ m mh',Ext [] mh mh'->mh.length<=m->mh'[m]?=some (.lst ((gen hs hs.length).map Bk))->P (.ref m) mh'):wV (Ac (Gk (k+2)) fuel f45 [.tup [x,y,z,Bk hs]] mh) P:=by
 refine Af (Ag2 (k+1)) uV.1 uV.2 rfl ?_;show wS (b45 (k+1)) [some (.tup [x,y,z,Bk hs]),none,none,none,none] mh _;unfold b45;walk_at "r"
 refine ⟨jy _,?_⟩;walk_at "r"
 refine ⟨by simp,?_⟩;walk_at "r"
 refine Gm ?_;walk_at "r"
 refine Bo (j:=3) (d:=Bk hs) rfl ?_;refine ⟨.seq (hs.map Ae),rfl,hs.map Ae,λi loc h'=>∃ a z2 z3 z4,loc=[some (.tup [x,y,z,Bk hs]),some (.ref a),z2,z3,z4]/\Ext [] mh h'/\mh.length<=a/\h'[a]?=some (.lst ((gen hs i).map Bk)),?_,λ_ _ _ _=>⟨rfl,rfl⟩,?_,?_⟩
 ·exact ⟨mh.length,none,none,none,rfl,Ext.more,bh _,Ak⟩
 ·rintro i d loc h' ed ⟨a,z2,z3,z4,rfl,ex,la,ga⟩;rw [cj] at ed;cases e:hs[i]? with
  | none=>rw [e] at ed;cases ed
  | some r =>
   rw [e] at ed;cases ed;have hi:i < hs.length:=(cg.mp e).1;have hlt:a < h'.length:=(cg.mp ga).1;walk_at "r"
   refine ⟨jy _,?_⟩;walk_at "r"
   refine Gm ?_;walk_at "r"
   have ga1:(h'++[MO.lst []])[a]?=some (.lst ((gen hs i).map Bk)):=(Ext.more (W:=[])).old _ _ (by simp) ga;refine ⟨.lref a,src_list ga1,(gen hs i).map Bk,λj loc h2=>∃ z4,loc=[some (.tup [x,y,z,Bk hs]),some (.ref a),some (Ae r),some (.ref h'.length),z4]/\Ext [] mh h2/\h2[a]?=some (.lst ((gen hs i).map Bk))/\h2[h'.length]?=some (.lst ((K3 hs r ((gen hs i).take j)).map Bk)),?_,?_,?_,?_⟩
   ·exact ⟨z4,rfl,ex.trans Ext.more,ga1,Ak⟩
   ·rintro j l h2 ⟨z4,rfl,_,g,_⟩;exact Dk g
   ·rintro j d l h2 ed ⟨z4,rfl,ex2,g2,gl⟩;rw [cj] at ed;cases ep:(gen hs i)[j]? with
    | none=>rw [ep] at ed;cases ed
    | some p =>
     rw [ep] at ed;cases ed;have hj:j < (gen hs i).length:=(cg.mp ep).1;have hsm:(gen hs i).length<=46656:=mK hc (by omega);have hpl:p.length=i:=fO i p (gn ep);have hst:=Ny hs r ((gen hs i).take j);have hln:=fM hs r p;have hmul:((gen hs i).take j).length * hs.length<=46656 * 6:=IW (by rw [qd];omega) hc;walk_at "r"
     refine ⟨ty_list gl,?_⟩;walk_at "r"
     refine Gu ?_;walk_at "r"
     refine Wk k x y z hs r h2 (by omega) λh3 ex3=>?_
     have hvl:(hv hs r).length<=6:=by
      unfold hv;refine dz (jx _ _) ?_;rw [ig];exact hc
     refine ⟨.seq ((hv hs r).map Ae),rfl,(hv hs r).map Ae,λj acc h4=>acc=(((hv hs r).take j).filter λn=>!p.contains n).map (λn=>Bk (p++[n]))/\h4=h3,by rw [ak];omega,⟨rfl,rfl⟩,λ_ _ _ _=>⟨rfl,rfl⟩,λj acc h q=>?_,λj d acc h ed q=>?_,λacc h q=>?_⟩
     ·rw [q.1,ak];refine dz (jx _ _) ?_;rw [qd];omega
     ·obtain ⟨rfl,rfl⟩:=q;rw [cj] at ed;cases ev:(hv hs r)[j]? with
      | none=>rw [ev] at ed;cases ed
      | some v =>
       rw [ev] at ed;cases ed;walk_at "r"
       refine Adg (uD v p _) ?_;walk_at "r"
       refine Bv (λq=>?_) λq=>?_
       ·walk_at "r"
        refine ⟨by simp,?_⟩;refine Io (by simp;omega) ?_;refine ⟨?_,rfl⟩;have q:(!p.contains v)=true:=q;rw [Ux _ ev,if_pos q,ji,xR];rfl
       ·refine ⟨?_,rfl⟩;have q:(!p.contains v)=false:=q;rw [Ux _ ev,if_neg (by rw [q];simp),yc]
     ·obtain ⟨rfl,rfl⟩:=q;rw [ak,rz];have eL:((hv hs r).filter λn=>!p.contains n).map (λn=>Bk (p++[n]))=(lon hs r p).map Bk:=by unfold lon;rw [kh];rfl
      rw [eL];walk_at "r"
      have xm:Ext [] h2 (h++[MO.lst ((lon hs r p).map Bk)]):=ex3.trans Ext.more;have gl3:=xm.old _ _ (by simp) gl;refine mL gl3 Ak (by rw [ak,ak];omega) ?_;walk_at "r"
      refine ⟨_,rfl,(ex2.trans xm).setNew ex.len,?_,?_⟩
      ·rw [iy (by omega)];exact xm.old _ _ (by simp) g2
      ·rw [Ip gl3,cB ep,ji]
   ·rintro l h2 ⟨z4,rfl,ex2,g2,gl⟩;rw [ak,rz] at gl;walk_at "r"
    refine ⟨h'.length,_,_,_,rfl,ex2,ex.len,?_⟩;rw [gl];show _=some (MO.lst ((K3 hs ((hs[i]?).getD 0) (gen hs i)).map Bk));rw [e];rfl
 ·rintro l h' ⟨a,z2,z3,z4,rfl,ex,la,ga⟩;rw [ak] at ga;walk_at "r"
  exact h a h' ex la ga
theorem cQ (k c:Nat) (p:List Nat) (mh:MH) (hp:∀ i,i < p.length->i∈p) (hz:p.length<=1000) {P:D->MH->Prop}(h:∀ mh',Ext [] mh mh'->P (Bk (und p)) mh'):wV (Ac (Gk (k+1)) fuel f43 [Bk p] mh) P:=by
 refine Af (Ag0 k) uT.1 uT.2 rfl ?_;show wS (b43 k) [some (Bk p)] mh _;unfold b43;walk_at "r"
 refine comp_map (ds:=(dm p.length).map Ae) (λd=>match d with | .int i=>Ae (p.idxOf i.toNat) | _=>.non) (by rw [ak,ig];omega) ?_ (λd h' R hd ex hR=>?_) λh' ex=>?_
 ·walk_at "r"
  refine Bj (by intro z z';cases z') rfl ?_;walk_at "r"
  rw [ak];exact ⟨_,Fg (by omega),by rw [Iu],rfl⟩
 ·obtain ⟨x,hx,rfl⟩:=di.mp hd;walk_at "r"
  refine Agi ?_;walk_at "r"
  refine .inl ⟨rfl,?_⟩;walk_at "r"
  have hm:=hp x (ir.mp hx);have e1:intsOf (p.map Ae)=some (p.map λn:Nat=>(n:Int)):=by rw [Mw,Gi]
  have e2:((x:Int)∈p.map λn:Nat=>(n:Int)):=di.mpr ⟨x,hm,rfl⟩;have e3:(p.map λn:Nat=>(n:Int)).idxOf (x:Int)=p.idxOf x:=by
   clear hm e1 e2 hR hd hx hp h
   induction p with
   | nil=>rfl
   | cons a r ih =>
    rw [iu,List.idxOf_cons,List.idxOf_cons];have e:((a:Int)==(x:Int))=(a==x):=by rw [qb,beq_iff_eq,beq_iff_eq];omega
    rw [e];cases a==x with
    | true=>rfl
    | false =>
     show List.idxOf (x:Int) (r.map λn:Nat=>(n:Int))+1=List.idxOf x r+1;rw [ih (by simp at hz;omega)]
  refine Ay (d:=Ae (p.idxOf x)) (h:=h') (by simp only [lH,Bk,Ae,e1,if_pos e2,e3]) ?_;have:=hR h' ex;simp only [Ae,jh] at this;exact this
 ·walk_at "r"
  refine Ck (Dh _ _) ?_;have:=h (h'++[.lst (((dm p.length).map Ae).map λd=>match d with | .int i=>Ae (p.idxOf i.toNat) | _=>.non)]) (ex.trans Ext.more);have e:((dm p.length).map Ae).map (λd=>match d with | .int i=>Ae (p.idxOf i.toNat) | _=>.non)=(und p).map Ae:=by
   unfold und;rw [kh,kh];apply zq;intro x _;simp [Ae]
  rw [e] at this ⊢;exact this
noncomputable def pat (p:List Nat) (x:Nat):Nat:=(p[x]?).getD 0
noncomputable def rnS (p:List Nat) (s:Nat):Nat:=setOf ((mem s).map (pat p))
theorem mem_iff {s h:Nat}:h∈mem s ↔ s.testBit h=true:=by
 unfold mem;rw [Rp];refine ⟨λz=>z.2,λz=>⟨?_,z⟩⟩;have h1:=zb z;exact (PK (by decide)).mp (JK h1 (Abu s))
theorem Ft {c s h:Nat}(hs:s < 2 ^ c) (z:h∈mem s):h < c:=by
 have h1:=zb (mem_iff.mp z);exact (PK (by decide)).mp (JK h1 hs)
theorem Cw (p:List Nat) (s h:Nat):(rnS p s).testBit h=true ↔ ∃ m,s.testBit m=true/\pat p m=h:=by
 unfold rnS;rw [Cy,decide_eq_true_iff,di];refine ⟨λ⟨m,h1,h2⟩=>⟨m,mem_iff.mp h1,h2⟩,?_⟩;rintro ⟨m,h1,h2⟩;exact ⟨m,mem_iff.mpr h1,h2⟩
theorem R9 {p:List Nat}{x:Nat}(h:x < p.length):pat p x=p[x]:=Ak2 h
theorem Bf {c:Nat}{p:List Nat}(hp:IsP c p) {x:Nat}(h:x < c):pat p x < c:=by
 rw [R9 (by rw [hp.len];exact h)];exact hp.lt (ni _)
theorem gZ {c:Nat}{p q:List Nat}(hp:IsP c p) {x:Nat}(h:x < c):pat (aft p q) x=pat q (pat p x):=by
 unfold pat;rw [fL,au (by rw [hp.len];exact h)];rfl
theorem xU {c:Nat}{p:List Nat}(hp:IsP c p) {s:Nat}(hs:s < 2 ^ c):rnS p s < 2 ^ c:=by
 refine LC _ λi hi=>?_
 cases e:(rnS p s).testBit i with
 | false=>rfl
 | true =>
  obtain ⟨m,h1,h2⟩:=(Cw p s i).mp e;have:=Bf hp (Ft hs (mem_iff.mpr h1));omega
theorem Acq {c:Nat}{p q:List Nat}(hp:IsP c p) {s:Nat}(hs:s < 2 ^ c):rnS q (rnS p s)=rnS (aft p q) s:=by
 refine uh λi=>?_
 rw [qb,Cw,Cw];constructor
 ·rintro ⟨m,h1,h2⟩;obtain ⟨m',h3,rfl⟩:=(Cw p s m).mp h1;exact ⟨m',h3,by rw [gZ hp (Ft hs (mem_iff.mpr h3))];exact h2⟩
 ·rintro ⟨m,h1,h2⟩;rw [gZ hp (Ft hs (mem_iff.mpr h1))] at h2;exact ⟨_,(Cw p s _).mpr ⟨m,h1,rfl⟩,h2⟩
theorem Uy {c x:Nat}(h:x < c):pat (dm c) x=x:=by
 rw [R9 (by simpa using h)];simp
theorem Aij {c s:Nat}(hs:s < 2 ^ c):rnS (dm c) s=s:=by
 refine uh λi=>?_
 rw [qb,Cw];constructor
 ·rintro ⟨m,h1,h2⟩;rw [Uy (Ft hs (mem_iff.mpr h1))] at h2;rw [← h2];exact h1
 ·exact λz=>⟨i,z,Uy (Ft hs (mem_iff.mpr z))⟩
theorem Sd {c:Nat}{p:List Nat}(hp:IsP c p) {h:Nat}(z:h∈und p):h < c:=(V3 hp).lt z
theorem Wl {c:Nat}{p:List Nat}(hp:IsP c p) {i:Nat}(h:i < c):(und p)[i]?=some (p.idxOf i):=Py (by rw [hp.len];exact h)
theorem Fv {c:Nat}{p:List Nat}(hp:IsP c p) {i:Nat}(h:i < c):p.idxOf i < c:=by
 rw [← hp.len];exact uf.mpr (hp.mem h)
noncomputable def keeps (hs:List Nat) (p:List Nat):Prop:=IsP hs.length p/\∀ j,j < hs.length->hs[pat p j]?=hs[j]?
theorem iB {p:List Nat}{n j:Nat}(h:j < p.length):pat (p++[n]) j=pat p j:=by
 unfold pat;rw [ju h]
theorem Ze (p:List Nat) (n:Nat):pat (p++[n]) p.length=n:=by
 unfold pat;simp
theorem iC {hs:List Nat}{r:Nat}{p q:List Nat}:q∈lon hs r p ↔ ∃ n,q=p++[n]/\n < hs.length/\hs[n]?=some r/\n ∉ p:=by
 unfold lon hv;rw [di];constructor
 ·rintro ⟨n,hn,rfl⟩;rw [lq,lq,ir] at hn;exact ⟨n,rfl,hn.1.1,by simpa using hn.1.2,by simpa using hn.2⟩
 ·rintro ⟨n,rfl,h1,h2,h3⟩;refine ⟨n,?_,rfl⟩;rw [lq,lq,ir];exact ⟨⟨h1,by simpa using h2⟩,by simpa using h3⟩
theorem iD {hs:List Nat}:∀ (i:Nat),i<=hs.length->∀ p,p∈gen hs i ↔ p.length=i/\p.Nodup/\(∀ x∈p,x < hs.length)/\∀ j,j < i->hs[pat p j]?=hs[j]?
 | 0,_,p=>by
  rw [show gen hs 0=[[]] from rfl,ao];constructor
  ·rintro rfl;exact ⟨rfl,ou,λx hx=>by simp at hx,λj hj=>by omega⟩
  ·exact λh=>zu.mp h.1
 | i+1,hi,p=>by
  have ih:=iD (hs:=hs) i (by omega);have er:hs[i]?=some ((hs[i]?).getD 0):=by rw [au (by omega)];rfl
  have eg:gen hs (i+1)=K3 hs ((hs[i]?).getD 0) (gen hs i):=rfl;rw [eg];unfold K3;rw [jg];constructor
  ·rintro ⟨q,hq,hl⟩;obtain ⟨n,rfl,h1,h2,h3⟩:=iC.mp hl;obtain ⟨a,b,c,d⟩:=(ih q).mp hq;refine ⟨by simp [a],?_,λx hx=>?_,λj hj=>?_⟩
   ·rw [qj];refine ⟨b,by simp,λx hx y hy e=>?_⟩;rw [ao] at hy;rw [e,hy] at hx;exact h3 hx
   ·rcases jm.mp hx with hx|hx
    ·exact c x hx
    ·rw [ao] at hx;rw [hx];exact h1
   ·by_cases e:j=i
    ·subst e;have:=Ze q n;rw [a] at this;rw [this,h2,← er]
    ·rw [iB (by omega)];exact d j (by omega)
  ·rintro ⟨a,b,c,d⟩;have hne:p≠[]:=λe=>by rw [e] at a;simp at a
   have ep:p.dropLast++[p.getLast hne]=p:=List.dropLast_concat_getLast hne;have el:p.dropLast.length=i:=by rw [List.length_dropLast];omega
   refine ⟨p.dropLast,(ih _).mpr ⟨el,?_,λx hx=>c x (List.dropLast_subset _ hx),λj hj=>?_⟩,iC.mpr ⟨p.getLast hne,ep.symm,c _ (List.getLast_mem hne),?_,?_⟩⟩
   ·rw [← ep,qj] at b;exact b.1
   ·have:=d j (by omega);rw [← ep,iB (by omega)] at this;exact this
   ·have:=d i (by omega);rw [← ep] at this;have e2:=Ze p.dropLast (p.getLast hne);rw [el] at e2;rw [e2] at this;rw [this];exact er
   ·rw [← ep,qj] at b;exact λz=>b.2.2 _ z _ (by simp) rfl
theorem Uz {hs p:List Nat}:p∈gen hs hs.length ↔ keeps hs p:=by
 rw [iD _ (bh _)];constructor
 ·refine ?_;rintro ⟨a,b,c,d⟩;exact ⟨tW a b c,d⟩
 ·refine ?_;rintro ⟨a,b⟩;exact ⟨a.len,a.nd,λx hx=>a.lt hx,b⟩
theorem Oc {hs p:List Nat}(hp:keeps hs p):keeps hs (und p):=⟨V3 hp.1,λj hj=>by
 have e:pat (und p) j=p.idxOf j:=tX (by rw [hp.1.len];exact hj);have l:=Fv hp.1 hj;have:=hp.2 _ l;rw [R9 (by rw [hp.1.len];exact l),xu] at this
 rw [e,← this]⟩
theorem Gy {c:Nat}{q:List Nat}(hq:IsP c q) {h:Nat}(hh:h < c):q.idxOf (pat q h)=h:=by
 rw [R9 (by rw [hq.len];exact hh)];exact V4 hq.nd _
theorem Gz {c:Nat}{q:List Nat}(hq:IsP c q) {i:Nat}(hi:i < c):pat q (q.idxOf i)=i:=by
 rw [R9 (by rw [hq.len];exact Fv hq hi),xu]
theorem Jb {c:Nat}{q:List Nat}(hq:IsP c q) {i:Nat}(hi:i < c):pat (und q) i=q.idxOf i:=tX (by rw [hq.len];exact hi)
theorem Dp {c:Nat}{q:List Nat}(hq:IsP c q) {i j:Nat}(hi:i < c) (hj:j < c) (e:pat q i=pat q j):i=j:=by rw [← Gy hq hi,e,Gy hq hj]
noncomputable def nmI (q:List Nat) (i:Int):Int:=if i=-1 then -1 else (pat q i.toNat:Nat)
noncomputable def Pt.rn (q:List Nat) (x:Pt):Pt:={ x with m0:=nmI q x.m0,m1:=nmI q x.m1,m2:=nmI q x.m2,s0:=rnS q x.s0,s1:=rnS q x.s1 }
noncomputable def Jc (q:List Nat) (l:Lt):Lt:=(l.1,l.2.1,nmI q l.2.2)
noncomputable def Wd.rn (q:List Nat) (w:Wd):Wd:=⟨(und q).map λh=>(w.pt h).rn q,(und q).map λt=>(und q).map λs=>(w.cell s t).map (Jc q),w.x,w.y⟩
section
variable {p:Pg}{w:Wd}{S:List (List Sp)}{q:List Nat}
noncomputable abbrev Nb (H:Nat) (i:Int):Prop:=-1<=i/\i<=(H:Int) - 1
theorem Wm {H:Nat}(hq:IsP H q) {i:Int}(h:Nb H i):Nb H (nmI q i):=by
 unfold nmI;split
 ·exact ⟨by omega,by omega⟩
 ·have:=Bf hq (x:=i.toNat) (by omega);exact ⟨by omega,by omega⟩
theorem El {i:Nat}:nmI q (i:Int)=(pat q i:Nat):=by
 unfold nmI;rw [if_neg (by omega),jh]
theorem Fd:nmI q (-1)=-1:=if_pos rfl
theorem Acr {H:Nat}(hq:IsP H q) {i j:Int}(hi:Nb H i) (hj:Nb H j) (e:nmI q i=nmI q j):i=j:=by
 unfold nmI at e;split at e
 ·split at e
  ·omega
  ·omega
 ·split at e
  ·omega
  ·have:=Dp hq (i:=i.toNat) (j:=j.toNat) (by omega) (by omega) (by omega);omega
theorem J0 {H:Nat}(hq:IsP H q) {i:Int}(h:Nb H i):nmI (und q) (nmI q i)=i:=by
 by_cases e:i=-1
 ·rw [e,Fd,Fd]
 ·obtain ⟨n,rfl⟩:∃ n:Nat,i=n:=⟨i.toNat,by omega⟩;have hn:n < H:=by omega
  rw [El,El,Jb hq (Bf hq hn),Gy hq hn]
theorem Zf {H s:Nat}(hq:IsP H q) (hs:s < 2 ^ H):rnS (und q) (rnS q s)=s:=by
 rw [Acq hq hs,Ab6 hq,Aij hs]
theorem Pt.rn_ok {H L:Nat}(hq:IsP H q) {x:Pt}(h:x.ok H L):(x.rn q).ok H L:=⟨h.pl1,h.pl2,Wm hq h.a0,Wm hq h.a1,Wm hq h.a2,xU hq h.b0,xU hq h.b1⟩
theorem Pt.rn_back {H L:Nat}(hq:IsP H q) {x:Pt}(h:x.ok H L):(x.rn q).rn (und q)=x:=by
 obtain ⟨a,b,c,d,e,f,g,i,j,k⟩:=x;unfold Pt.rn;simp only [J0 hq h.a0,J0 hq h.a1,J0 hq h.a2,Zf hq h.b0,Zf hq h.b1]
theorem Wd.rn_pt (hq:IsP p.plays.length q) {h:Nat}(hh:h < p.plays.length):(w.rn q).pt (pat q h)=(w.pt h).rn q:=by
 show (((und q).map λh=>(w.pt h).rn q)[pat q h]?).getD p0=_;rw [cj,Wl hq (Bf hq hh),Gy hq hh];rfl
theorem Wd.rn_cell (hq:IsP p.plays.length q) {s t:Nat}(hs:s < p.plays.length) (ht:t < p.plays.length):(w.rn q).cell (pat q s) (pat q t)=(w.cell s t).map (Jc q):=by
 show (((((und q).map λt=>(und q).map λs=>(w.cell s t).map (Jc q))[pat q t]?).getD [])[pat q s]?).getD []=_;rw [cj,Wl hq (Bf hq ht),Gy hq ht];show (((und q).map λs=>(w.cell s t).map (Jc q))[pat q s]?).getD []=_;rw [cj,Wl hq (Bf hq hs),Gy hq hs];rfl
theorem Qf (hq:keeps p.plays q) {h:Nat}(hh:h < p.plays.length):plA p (pat q h)=plA p h:=by
 unfold plA;rw [hq.2 h hh]
theorem Wd.rn_ok (hq:keeps p.plays q) (wo:w.ok p):(w.rn q).ok p:=by
 have ul:(und q).length=p.plays.length:=by rw [Gw,hq.1.len]
 refine ⟨by show (RM _ _).length=_;rw [ak,ul],λi r x er ex=>?_,by show (RM _ _).length=_;rw [ak,ul],λv hv=>?_,wo.xx,wo.yy⟩
 ·have hi:i < p.plays.length:=(cg.mp er).1;have hj:=Fv hq.1 hi;have ex:((und q).map λh=>(w.pt h).rn q)[i]?=some x:=ex;rw [cj,Wl hq.1 hi] at ex;cases ex;refine Pt.rn_ok hq.1 ?_;have:=Fb wo hj;rw [Rx hi] at er;cases er;rw [← Qf hq hj,Gz hq.1 hi] at this;exact this
 ·obtain ⟨t,ht,rfl⟩:=di.mp hv;refine ⟨by rw [ak,ul];rfl,λl hl=>?_⟩;obtain ⟨s,hs,rfl⟩:=di.mp hl;have co:=M8 wo (Sd hq.1 hs) (Sd hq.1 ht);refine ⟨by rw [ak];exact co.1,λz hz=>?_⟩;obtain ⟨y,hy,rfl⟩:=di.mp hz;exact ⟨(co.2 y hy).1,Wm hq.1 (co.2 y hy).2⟩
theorem Aik {u v:Wd}(uo:u.ok p) (vo:v.ok p) (h:∀ i,i < p.plays.length->u.pt i=v.pt i):u.ps=v.ps:=by
 refine GR (by rw [uo.lp,vo.lp]) λi h1 h2=>?_
 have:=h i (by rw [← uo.lp];exact h1);unfold Wd.pt at this;rw [au h1,au h2] at this;exact this
theorem Sg (hq:IsP p.plays.length q) {u v:Wd}(uo:u.ok p) (vo:v.ok p) (e1:∀ i,i < p.plays.length->u.pt (pat q i)=v.pt (pat q i)) (e2:u.x=v.x) (e3:u.y=v.y) (ec:∀ s t,s < p.plays.length->t < p.plays.length->u.cell (pat q s) (pat q t)=v.cell (pat q s) (pat q t)):u=v:=by
 refine Aif uo vo (Aik uo vo λi hi=>?_) e2 e3 λs t hs ht=>?_
 ·have:=e1 _ (Fv hq hi);rw [Gz hq hi] at this;exact this
 ·have:=ec _ _ (Fv hq hs) (Fv hq ht);rw [Gz hq hs,Gz hq ht] at this;exact this
theorem Wd.rn_back (hq:keeps p.plays q) (wo:w.ok p):(w.rn q).rn (und q)=w:=by
 have hu:=Oc hq;have o1:=Wd.rn_ok hq wo;refine Sg hu.1 (Wd.rn_ok hu o1) wo (λi hi=>?_) rfl rfl λs t hs ht=>?_
 ·rw [Wd.rn_pt hu.1 hi,Jb hq.1 hi];have:=Wd.rn_pt (w:=w) hq.1 (Fv hq.1 hi);rw [Gz hq.1 hi] at this;rw [this];exact Pt.rn_back hq.1 (Fb wo (Fv hq.1 hi))
 ·rw [Wd.rn_cell hu.1 hs ht,Jb hq.1 hs,Jb hq.1 ht];have:=Wd.rn_cell (w:=w) hq.1 (Fv hq.1 hs) (Fv hq.1 ht);rw [Gz hq.1 hs,Gz hq.1 ht] at this;rw [this,kh];have co:=M8 wo (Fv hq.1 hs) (Fv hq.1 ht);refine Eq.trans (zq (g:=id) λz hz=>?_) (WR _);obtain ⟨a,b,c⟩:=z;show (a,b,nmI (und q) (nmI q c))=(a,b,c);rw [J0 hq.1 (co.2 _ hz).2]
end
noncomputable def rnC (q:List Nat):D->D
 | .tup (.int x::r)=>.tup (.int (nmI q x)::r)
 | c=>c
noncomputable def Ed.rn (q:List Nat):Ed->Ed
 | .no=>.no
 | .app t m=>.app (pat q t) (Jc q m)
 | .pop s=>.pop (pat q s)
section
variable {p:Pg}{w:Wd}{S:List (List Sp)}{q:List Nat}{x:Pt}
theorem Sh (a:Nat):(x.rn q).nm a=nmI q (x.nm a):=by
 unfold Pt.nm;split
 ·rfl
 ·split <;> rfl
theorem O2 (a:Nat):(x.rn q).nu a=x.nu a:=rfl
theorem iH (g:Nat):(x.rn q).se g=rnS q (x.se g):=by
 unfold Pt.se;split <;> rfl
theorem Ko (a:Nat) (n:Int):(x.setN a n).rn q=(x.rn q).setN a n:=by unfold Pt.setN;split <;> rfl
theorem Kp (a:Nat) (n:Int):(x.setM a n).rn q=(x.rn q).setM a (nmI q n):=by unfold Pt.setM;split <;> rfl
theorem Qg (a:Nat) (n:Nat):(x.setS a n).rn q=(x.rn q).setS a (rnS q n):=by unfold Pt.setS;split <;> rfl
theorem Jh:x.on.rn q=(x.rn q).on:=rfl
theorem Adq (i:Int):(x.to i).rn q=(x.rn q).to i:=rfl
theorem iJ (b:Bool) (t:Nat):(x.jp b t).rn q=(x.rn q).jp b t:=by unfold Pt.jp;split <;> rfl
theorem Ia:rnS q 0=0:=by
 refine uh λi=>?_
 rw [qb,Cw];simp
theorem Ail {a b:Nat}:rnS q (a ||| b)=rnS q a ||| rnS q b:=by
 refine uh λi=>?_
 rw [qb,FW,wg,Cw,Cw,Cw];constructor
 ·rintro ⟨m,h,e⟩;rw [FW,wg] at h;rcases h with h|h
  ·exact .inl ⟨m,h,e⟩
  ·exact .inr ⟨m,h,e⟩
 ·rintro (⟨m,h,e⟩ | ⟨m,h,e⟩)
  ·exact ⟨m,by rw [FW,h];rfl,e⟩
  ·exact ⟨m,by rw [FW,h,Bool.or_true],e⟩
theorem iK {l:List Nat}:rnS q (setOf l)=setOf (l.map (pat q)):=by
 refine uh λi=>?_
 rw [qb,Cw,Cy,decide_eq_true_iff,di];constructor
 ·rintro ⟨m,h,e⟩;rw [Cy,decide_eq_true_iff] at h;exact ⟨m,h,e⟩
 ·rintro ⟨m,h,e⟩;exact ⟨m,by rw [Cy,decide_eq_true_iff];exact h,e⟩
theorem set_same {l m:List Nat}(h:∀ i,i∈l ↔ i∈m):setOf l=setOf m:=by
 refine uh λi=>?_
 rw [Cy,Cy];exact decide_eq_decide.mpr (h i)
theorem Sq {s b:Nat}(h:s.testBit b=true) (i:Nat):(s - 2 ^ b).testBit i=(s.testBit i&&!(i==b)):=by
 have hs:s=2 ^ b * (s / 2 ^ b)+s % 2 ^ b:=(Nat.div_add_mod s (2 ^ b)).symm;have hl:s % 2 ^ b < 2 ^ b:=Nat.mod_lt _ (HN b);generalize s / 2 ^ b=d at hs;generalize s % 2 ^ b=r at hs hl;subst hs;rw [CG _ hl,if_neg (mz _),VD] at h;have hd:d=2 * (d / 2)+1:=by
  have:d % 2=1:=by simpa [Nat.testBit_zero] using h
  omega
 generalize d / 2=c at hd;subst hd;have e:2 ^ b * (2 * c+1)+r - 2 ^ b=2 ^ b * (2 * c)+r:=by
  rw [Nat.mul_add,Nat.mul_one];omega
 rw [e,CG _ hl,CG _ hl]
 by_cases z:i < b
 ·rw [if_pos z,if_pos z,beq_eq_false_iff_ne.mpr (by omega),Bool.not_false,Bool.and_true]
 ·rw [if_neg z,if_neg z]
  by_cases y:i=b
  ·subst y;rw [VD,beq_self_eq_true,RN,Bool.and_false];simp [Nat.testBit_zero]
  ·rw [beq_eq_false_iff_ne.mpr y,Bool.not_false,Bool.and_true];obtain ⟨k,hk⟩:∃ k,i - b=k+1:=⟨i - b - 1,by omega⟩;rw [hk,Nat.testBit_succ,Nat.testBit_succ];congr 1;omega
theorem Acs {H s b:Nat}(hq:IsP H q) (hs:s < 2 ^ H) (h:s.testBit b=true):rnS q (s - 2 ^ b)=rnS q s - 2 ^ (pat q b):=by
 have hb:b < H:=Ft hs (mem_iff.mpr h);have h2:(rnS q s).testBit (pat q b)=true:=(Cw q s _).mpr ⟨b,h,rfl⟩;refine uh λi=>?_
 rw [Sq h2,qb,Cw,bf,Cw];constructor
 ·rintro ⟨m,hm,rfl⟩;rw [Sq h,bf] at hm;refine ⟨⟨m,hm.1,rfl⟩,?_⟩;have hn:m≠b:=by simpa using hm.2
  have:pat q m≠pat q b:=λe=>hn (Dp hq (Ft hs (mem_iff.mpr hm.1)) hb e)
  simpa using this
 ·rintro ⟨⟨m,hm,rfl⟩,hn⟩;refine ⟨m,?_,rfl⟩;rw [Sq h,hm,yj];have hn:pat q m≠pat q b:=by simpa using hn
  have:m≠b:=λe=>hn (by rw [e])
  simpa using this
theorem cR (s:Nat):(mem s).Nodup:=by
 unfold mem Jr;exact List.nodup_range.filter _
theorem xV {H s:Nat}(hq:IsP H q) (hs:s < 2 ^ H):(mem (rnS q s)).length=(mem s).length:=by
 have nd:((mem s).map (pat q)).Nodup:=Dj (cR s) λa ha b hb e=>Dp hq (Ft hs ha) (Ft hs hb) e
 have sub:∀ i,i∈mem (rnS q s) ↔ i∈(mem s).map (pat q):=λi=>by
  rw [mem_iff,Cw,di];refine ⟨λ⟨m,h,e⟩=>⟨m,mem_iff.mpr h,e⟩,?_⟩;rintro ⟨m,h,e⟩;exact ⟨m,mem_iff.mp h,e⟩
 have le:∀ {l m:List Nat},l.Nodup->(∀ x∈l,x∈m)->l.length<=m.length:=λ{l m} nl h=>by
  have:=Lb (l:=l.map λn:Nat=>(n:Int)) (l':=m.map λn:Nat=>(n:Int)) (Dj nl λa _ b _ e=>by omega) λx hx=>by
   obtain ⟨y,hy,rfl⟩:=di.mp hx;exact di.mpr ⟨y,h y hy,rfl⟩
  rw [ak,ak] at this;exact this
 have a:=le (cR (rnS q s)) λx hx=>(sub x).mp hx
 have b:=le nd λx hx=>(sub x).mpr hx
 rw [ak] at a b;omega
theorem cT (hq:keeps p.plays q) {r h i:Nat}(hh:h < p.plays.length) (hi:i∈oth p r h):pat q i∈oth p r (pat q h):=by
 have hl:=N8 hi;unfold oth hands at hi ⊢;rw [lq,lq,ir] at hi ⊢;refine ⟨⟨Bf hq.1 hl,by rw [Qf hq hl];exact hi.1.2⟩,?_⟩;have hn:i≠h:=by simpa using hi.2
 have:pat q i≠pat q h:=λe=>hn (Dp hq.1 hl hh e)
 simpa using this
theorem xW (hq:keeps p.plays q) {r h j:Nat}(hh:h < p.plays.length) (hj:j∈oth p r (pat q h)):∃ i,i∈oth p r h/\pat q i=j:=by
 have hl:=N8 hj;have:=cT (Oc hq) (Bf hq.1 hh) hj;rw [Jb hq.1 hl,Jb hq.1 (Bf hq.1 hh),Gy hq.1 hh] at this;exact ⟨_,this,Gz hq.1 hl⟩
theorem Ib {i:Int}(h:-1<=i) (hn:¬ i=-1):(nmI q i).toNat=pat q i.toNat:=by
 unfold nmI;rw [if_neg hn,jh]
theorem xX (hq:IsP p.plays.length q) {h:Nat}(hh:h < p.plays.length):mR ((w.rn q).pt (pat q h))=mR (w.pt h):=by rw [Wd.rn_pt hq hh];rfl
theorem iM (hq:IsP p.plays.length q) {to:Int}(h:Nb p.plays.length to):Jx (w.rn q) (nmI q to)=Jx w to:=by
 unfold Jx
 by_cases e:to=-1
 ·rw [e,Fd];rfl
 ·rw [Ib h.1 e,xX hq (by omega),beq_eq_false_iff_ne.mpr e];have:¬ nmI q to=-1:=by unfold nmI;rw [if_neg e];omega
  rw [beq_eq_false_iff_ne.mpr this]
theorem Ak9 (hq:keeps p.plays q) {h:Nat}(hh:h < p.plays.length):stW p S (w.rn q) (pat q h)=stW p S w h:=by
 unfold stW;rw [Wd.rn_pt hq.1 hh,Qf hq hh];rfl
theorem iQ (wo:w.ok p) {h:Nat}(hh:h < p.plays.length) (a:Nat):Nb p.plays.length ((w.pt h).nm a):=Pt.nm_ok (a:=a) (Fb wo hh)
theorem xY (wo:w.ok p) {h:Nat}(hh:h < p.plays.length) (g:Nat):(w.pt h).se g < 2 ^ p.plays.length:=by
 have:=Fb wo hh;unfold Pt.se;split
 ·exact this.b0
 ·exact this.b1
theorem Aim (hq:keeps p.plays q) (wo:w.ok p) {h:Nat}(hh:h < p.plays.length) (a:Nat):Ji p (w.rn q) (pat q h) a=Ji p w h a:=by
 have nk:=iQ wo hh a;unfold Ji;rw [Wd.rn_pt hq.1 hh,Sh,iM hq.1 nk]
 by_cases e:(w.pt h).nm a=-1
 ·rw [e];rfl
 ·rw [Ib nk.1 e,Wd.rn_cell hq.1 hh (by omega),ak]
theorem xZ (hq:keeps p.plays q) (wo:w.ok p) {h s:Nat}{bx:Int}(hh:h < p.plays.length) (hs:s∈Dt p w h bx):pat q s∈Dt p (w.rn q) (pat q h) bx:=by
 have hl:=M4 wo hh hs;unfold Dt at hs ⊢;split at hs
 ·rename_i e;rw [if_pos e];exact ir.mpr (Bf hq.1 hl)
 ·rename_i e;rw [if_neg e,Wd.rn_pt hq.1 hh,Sh];split at hs
  ·cases hs
  ·rename_i e2;have nk:=iQ wo hh bx.toNat;rw [if_neg (by unfold nmI;rw [if_neg e2];omega),Ib nk.1 e2,← ao.mp hs];exact ao.mpr rfl
theorem Qh (i:Nat):rnC q (Jj i)=Jj (pat q i):=by
 show D.tup [.int (nmI q (i:Int))]=_;rw [El];rfl
theorem Ain (hq:keeps p.plays q) (wo:w.ok p) {h:Nat}(hh:h < p.plays.length) {s:Sp}{c:D}(hc:c∈chs p w h s):rnC q c∈chs p (w.rn q) (pat q h) s:=by
 cases s with
 | choose a n =>
  obtain ⟨i,hi,rfl⟩:=di.mp (show c∈(dm n).map Ae from hc);exact di.mpr ⟨i,hi,rfl⟩
 | pick a r =>
  obtain ⟨i,hi,rfl⟩:=di.mp (show c∈(oth p r h).map Jj from hc);rw [Qh];exact di.mpr ⟨_,cT hq hh hi,rfl⟩
 | out a g t =>
  have hc:c∈Jk ((w.pt h).se g):=hc;show _∈Jk (((w.rn q).pt (pat q h)).se g);rw [Wd.rn_pt hq.1 hh,iH];have sl:=xY wo hh g;generalize (w.pt h).se g=z at hc sl;unfold Jk at hc ⊢;split at hc
  ·rename_i e;rw [ao.mp hc,e,Ia];exact ao.mpr rfl
  ·rename_i e;obtain ⟨i,hi,rfl⟩:=di.mp hc;have hb:(rnS q z).testBit (pat q i)=true:=(Cw q z _).mpr ⟨i,mem_iff.mp hi,rfl⟩;have:¬ rnS q z=0:=λy=>by rw [y,Nat.zero_testBit] at hb;cases hb
   rw [if_neg this,Qh];exact di.mpr ⟨_,mem_iff.mpr hb,rfl⟩
 | take bx ls =>
  have hc:c∈Ej w h ls++(Dt p w h bx).flatMap (Hy w h (Jy ls)):=hc;show _∈Ej (w.rn q) (pat q h) ls++(Dt p (w.rn q) (pat q h) bx).flatMap (Hy (w.rn q) (pat q h) (Jy ls));rcases jm.mp hc with hc|hc
  ·refine qy _ ?_;have e:Ej (w.rn q) (pat q h) ls=Ej w h ls:=by unfold Ej;rw [Wd.rn_pt hq.1 hh];rfl
   rw [e];have e2:rnC q c=c:=by
    unfold Ej at hc;split at hc
    ·rw [ao.mp hc];show D.tup [.int (nmI q (-1)),.int 0]=_;rw [Fd]
    ·cases hc
   rw [e2];exact hc
  ·refine gw _ ?_;obtain ⟨s,hs,hc⟩:=jg.mp hc;have sl:=M4 wo hh hs;refine jg.mpr ⟨pat q s,xZ hq wo hh hs,?_⟩;cases ec:w.cell s h with
   | nil=>rw [Yz ec] at hc;cases hc
   | cons l r =>
    have e2:(w.rn q).cell (pat q s) (pat q h)=Jc q l::r.map (Jc q):=by rw [Wd.rn_cell hq.1 sl hh,ec];rfl
    by_cases hk:l.1∈Jy ls
    ·rw [Wc ec hk] at hc;rw [Wc e2 hk,ao.mp hc];show D.tup [.int (nmI q (s:Int)),.int l.1]∈_;rw [El];exact ao.mpr rfl
    ·rw [gK ec hk] at hc;cases hc
 | send a kd b c' =>
  have hc:c∈(if Ji p w h a=true then [D.int 0] else []):=hc;show _∈(if Ji p (w.rn q) (pat q h) a=true then [D.int 0] else []);rw [Aim hq wo hh];split at hc
  ·rw [ao.mp hc];rename_i z;rw [if_pos z];exact ao.mpr rfl
  ·cases hc
 | _ =>
  rw [ao.mp hc];exact ao.mpr rfl
end
section
variable {p:Pg}{w:Wd}{S:List (List Sp)}{q:List Nat}{x:Pt}
noncomputable def Em (p:Pg):Sp->Prop
 | .only _ r=>(hands p r).length=1
 | _=>True
theorem yC (hq:keeps p.plays q) {r i:Nat}(hi:i∈hands p r):pat q i∈hands p r:=by
 have hl:=Rv hi;unfold hands at hi ⊢;rw [lq,ir] at hi ⊢;exact ⟨Bf hq.1 hl,by rw [Qf hq hl];exact hi.2⟩
theorem Acu (hq:keeps p.plays q) {r:Nat}(h:(hands p r).length=1):pat q ((hands p r).headD 0)=(hands p r).headD 0:=by
 have all:∀ i∈hands p r,pat q i∈hands p r:=λi hi=>yC hq hi
 generalize hands p r=l at h all
 match l,h with
 | [a],_=>exact ao.mp (all a (ao.mpr rfl))
theorem Ala (hq:keeps p.plays q) (wo:w.ok p) {h:Nat}(hh:h < p.plays.length) {s:Sp}(ho:Em p s) {c:D}(hc:c∈chs p w h s):quF p (pat q h) ((w.pt h).rn q) (rnC q c) s=(quF p h (w.pt h) c s).rn q:=by
 have nk:=iQ wo hh;have sk:=xY wo hh;cases s with
 | put a n=>rw [quF,quF,Jh,Ko]
 | copy a b=>rw [quF,quF,Jh,Ko,O2]
 | raise a n=>rw [quF,quF,Jh,Ko,O2]
 | sum a b=>rw [quF,quF,Jh,Ko,O2,O2]
 | choose a n =>
  obtain ⟨i,hi,rfl⟩:=di.mp (show c∈(dm n).map Ae from hc);rw [quF,quF,Jh,Ko];rfl
 | me a=>rw [quF,quF,Jh,Kp,El]
 | only a r =>
  have ho:(hands p r).length=1:=ho;rw [quF,quF,Jh,Kp,El,Acu hq ho]
 | pick a r =>
  obtain ⟨i,hi,rfl⟩:=di.mp (show c∈(oth p r h).map Jj from hc);rw [Qh,quF,quF,Jh,Kp];show _=(((w.pt h).rn q).setM a (nmI q (i:Int))).on;rw [El];rfl
 | all g r =>
  rw [quF,quF,Jh,Qg,iK];have e:setOf (oth p r (pat q h))=setOf ((oth p r h).map (pat q)):=set_same λi=>by
   rw [di];refine ⟨λz=>xW hq hh z,?_⟩;rintro ⟨j,hj,e⟩;exact e ▸ cT hq hh hj
  rw [e]
 | empty g=>rw [quF,quF,Jh,Qg,Ia]
 | join g a =>
  rw [quF,quF,Jh,Qg,Sh,iH]
  by_cases e:(w.pt h).nm a=-1
  ·rw [e,Fd,if_pos rfl,if_pos rfl]
  ·rw [if_neg e,if_neg (by unfold nmI;rw [if_neg e];omega),Ib (nk a).1 e,Ail,iK];rfl
 | out a g t =>
  have hc:c∈Jk ((w.pt h).se g):=hc;rw [quF,quF,iH]
  by_cases e:(w.pt h).se g=0
  ·rw [e,Ia,if_pos rfl,if_pos rfl,Adq]
  ·unfold Jk at hc;rw [if_neg e] at hc;obtain ⟨i,hi,rfl⟩:=di.mp hc;have hb:=mem_iff.mp hi;have hb2:(rnS q ((w.pt h).se g)).testBit (pat q i)=true:=(Cw q _ _).mpr ⟨i,hb,rfl⟩;have e2:¬ rnS q ((w.pt h).se g)=0:=λy=>by rw [y,Nat.zero_testBit] at hb2;cases hb2
   rw [if_neg e,if_neg e2,Qh,Jh,Kp,Qg];show ((((w.pt h).rn q).setS g (rnS q ((w.pt h).se g) - 2 ^ ((pat q i:Nat):Int).toNat)).setM a ((pat q i:Nat):Int)).on=((((w.pt h).rn q).setS g (rnS q ((w.pt h).se g - 2 ^ ((i:Nat):Int).toNat))).setM a (nmI q ((i:Nat):Int))).on;rw [jh,jh,El,Acs hq.1 (sk g) hb]
 | bell=>rfl
 | less a n t=>rw [quF,quF,iJ,O2]
 | before a b t=>rw [quF,quF,iJ,O2,O2]
 | go t=>rfl
 | alike a b t =>
  rw [quF,quF,iJ,Sh,Sh];have e:(nmI q ((w.pt h).nm a)==nmI q ((w.pt h).nm b))=((w.pt h).nm a==(w.pt h).nm b):=by
   by_cases z:(w.pt h).nm a=(w.pt h).nm b
   ·rw [z];simp
   ·rw [beq_eq_false_iff_ne.mpr z,beq_eq_false_iff_ne.mpr λy=>z (Acr hq.1 (nk a) (nk b) y)]
  rw [e]
 | many g n t=>rw [quF,quF,iJ,iH,xV hq.1 (sk g)]
 | send a kd b c'=>rfl
 | take bx ls=>rfl
theorem Acv (hq:keeps p.plays q) (wo:w.ok p) {h:Nat}(hh:h < p.plays.length) {bx:Int}{ls:List Ln}{c:D}(hc:c∈K4 p w h bx ls):Jz ((w.pt h).rn q) (λs=>(w.rn q).cell s (pat q h)) ls (rnC q c)=((Jz (w.pt h) (λs=>w.cell s h) ls c).1.rn q,(Jz (w.pt h) (λs=>w.cell s h) ls c).2.rn q):=by
 rcases Hz wo hh hc with ⟨rfl,h0⟩|⟨s,l,r,hs,ec,h0,rfl⟩
 ·show Jz _ _ ls (.tup [.int (nmI q (-1)),.int 0])=_;rw [Fd];dsimp only [Jz];split
  ·rw [if_pos (by decide),if_pos (by decide)];rfl
  ·rfl
 ·show Jz _ _ ls (.tup [.int (nmI q (s:Int)),.int l.1])=_;rw [El];dsimp only [Jz];split
  ·rename_i ln rest el;have e1:¬ ([((pat q s:Nat):Int),l.1]==[-1,0])=true:=λz=>by
    have:=dj z;injection this with a _
    omega
   have e2:¬ ([((s:Nat):Int),l.1]==[-1,0])=true:=λz=>by
    have:=dj z;injection this with a _
    omega
   rw [if_neg e1,if_neg e2,jh,jh,Wd.rn_cell hq.1 hs hh,ec];show (_,_)=(_,_);rw [Kp,Kp,Ko,Adq,El];rfl
  ·rfl
theorem yD (hq:keeps p.plays q) (wo:w.ok p) {h:Nat}(hh:h < p.plays.length) {s:Sp}(ho:Em p s) {c:D}(hc:c∈chs p w h s):eff p (w.rn q) (pat q h) (rnC q c) s=((eff p w h c s).1.rn q,(eff p w h c s).2.rn q):=by
 have nk:=iQ wo hh;cases s with
 | send a kd b c' =>
  dsimp only [eff];rw [Wd.rn_pt hq.1 hh,Sh,O2,Sh,iM hq.1 (nk a)];unfold xG
  by_cases z:Jx w ((w.pt h).nm a)=true
  ·rw [if_pos z,if_pos z];rfl
  ·rw [if_neg z,if_neg z];have hn:¬ (w.pt h).nm a=-1:=λe=>z (by rw [e];rfl)
   rw [Ib (nk a).1 hn];rfl
 | take bx ls =>
  dsimp only [eff];rw [Wd.rn_pt hq.1 hh];exact Acv hq wo hh hc
 | _ =>
  dsimp only [eff];rw [Wd.rn_pt hq.1 hh,Ala hq wo hh ho hc];rfl
theorem Aio (hq:IsP p.plays.length q) {h s t:Nat}(hh:h < p.plays.length) (hs:s < p.plays.length) (ht:t < p.plays.length) {d:Ed}(v:Ev p w h d) (l:List Lt):edF (pat q h) (d.rn q) (pat q s) (pat q t) (l.map (Jc q))=(edF h d s t l).map (Jc q):=by
 cases d with
 | no=>rfl
 | app t0 m =>
  have v:t0 < p.plays.length:=v;dsimp only [edF,Ed.rn]
  by_cases z:h=s/\t0=t
  ·rw [if_pos z,if_pos ⟨by rw [z.1],by rw [z.2]⟩,ji];rfl
  ·rw [if_neg z,if_neg λy=>z ⟨Dp hq hh hs y.1,Dp hq v ht y.2⟩]
 | pop s0 =>
  have v:s0 < p.plays.length:=v.1;dsimp only [edF,Ed.rn]
  by_cases z:s0=s/\h=t
  ·rw [if_pos z,if_pos ⟨by rw [z.1],by rw [z.2]⟩,List.map_tail]
  ·rw [if_neg z,if_neg λy=>z ⟨Dp hq v hs y.1,Dp hq hh ht y.2⟩]
theorem Alb (hq:keeps p.plays q) (wo:w.ok p) {h:Nat}(hh:h < p.plays.length) {e:Pt×Ed}(v:Ev p w h e.2) (o1:(w.ap h e).ok p) (o2:((w.rn q).ap (pat q h) (e.1.rn q,e.2.rn q)).ok p):(w.ap h e).rn q=(w.rn q).ap (pat q h) (e.1.rn q,e.2.rn q):=by
 have r1:=Wd.rn_ok hq wo;refine Sg hq.1 (Wd.rn_ok hq o1) o2 (λi hi=>?_) ?_ ?_ λs t hs ht=>?_
 ·rw [Wd.rn_pt hq.1 hi]
  by_cases z:h=i
  ·subst z;rw [Adp (by rw [wo.lp];exact hh),Adp (by rw [r1.lp];exact Bf hq.1 hh)]
  ·rw [Za z,Za λy=>z (Dp hq.1 hh hi y),Wd.rn_pt hq.1 hi]
 ·show (w.ap h e).x=_;unfold Wd.ap;rw [gU.1,gU.1];rfl
 ·show (w.ap h e).y=_;unfold Wd.ap;rw [gU.2,gU.2];rfl
 ·have v2:Ev p (w.rn q) (pat q h) (e.2.rn q):=by
   cases ed:e.2 with
   | no=>exact trivial
   | app t0 m=>rw [ed] at v;exact Bf hq.1 v
   | pop s0 =>
    rw [ed] at v;refine ⟨Bf hq.1 v.1,?_⟩;rw [Wd.rn_cell hq.1 v.1 hh];intro z;exact v.2 (List.map_eq_nil_iff.mp z)
  rw [Wd.rn_cell hq.1 hs ht,gW wo hh (ev:=v.app) (ep:=v.pop),gW (e:=(e.1.rn q,e.2.rn q)) r1 (Bf hq.1 hh) (ev:=v2.app) (ep:=v2.pop),Wd.rn_cell hq.1 hs ht,Aio hq.1 hh hs ht v]
theorem Adr (g:Prg p S) (wo:w.ok p) {h:Nat}(hh:h < p.plays.length) {s:Sp}(es:stW p S w h=some s) {c:D}(hc:c∈chs p w h s):(w.ap h (eff p w h c s)).ok p:=by
 obtain ⟨_,_,_,r⟩:=cO (mh:=[]) (P:=λ_ _=>(w.ap h (eff p w h c s)).ok p) 0 h g wo hh es hc λw' h' o pl e _=>e ▸ o
 exact r
theorem yE (g:Prg p S) (wo:w.ok p) {s t:Nat}(hs:s < p.plays.length) (ht:t < p.plays.length) (hx:¬ w.x=0):(xJ w s t).ok p:=by
 obtain ⟨_,_,_,r⟩:=Y5 (mh:=[]) (P:=λ_ _=>(xJ w s t).ok p) 0 s t g.po wo hs ht hx λo=>o
 exact r
theorem yF (g:Prg p S) (wo:w.ok p) {h:Nat}(hh:h < p.plays.length) (hy:¬ w.y=0):(Y4 p w h).ok p:=by
 obtain ⟨_,_,_,r⟩:=Y7 (mh:=[]) (P:=λ_ _=>(Y4 p w h).ok p) 0 h g.po wo hh hy λo=>o
 exact r
noncomputable def rnM (q:List Nat):D->D
 | .tup [.str y,.int h,c]=>if y = "do" then .tup [.str y,Ae (pat q h.toNat),rnC q c] else .tup [.str y,Ae (pat q h.toNat),Ae (pat q (cInt c).toNat)]
 | .tup [.str y,.int h]=>.tup [.str y,Ae (pat q h.toNat)]
 | m=>m
theorem Wn (h:Nat) (c:D):rnM q (doD h c)=doD (pat q h) (rnC q c):=by
 show (if ("do":Str) = "do" then D.tup [.str "do",Ae (pat q ((h:Nat):Int).toNat),rnC q c] else D.tup [.str "do",Ae (pat q ((h:Nat):Int).toNat),Ae (pat q (cInt c).toNat)])=_;rw [if_pos rfl,jh];rfl
theorem Wo (s t:Nat):rnM q (loD s t)=loD (pat q s) (pat q t):=by
 show (if ("lose":Str) = "do" then D.tup [.str "lose",Ae (pat q ((s:Nat):Int).toNat),rnC q (Ae t)] else D.tup [.str "lose",Ae (pat q ((s:Nat):Int).toNat),Ae (pat q (cInt (Ae t)).toNat)])=_;rw [if_neg (by decide +kernel)];rfl
theorem Wq (h:Nat):rnM q (faD h)=faD (pat q h):=rfl
theorem Zg {h:Nat}(wo:w.ok p) (hh:h < p.plays.length) {s t:Nat}(hs:s < p.plays.length) (ht:t < p.plays.length):(Y4 p w h).cell s t=if h=t then [] else w.cell s t:=by
 unfold Wd.cell Y4;dsimp only
 by_cases e:h=t
 ·subst e;rw [nq (by rw [wo.lr];exact hh),if_pos rfl];show ((fj p.plays.length ([]:List Lt))[s]?).getD []=[];rw [um,if_pos hs];rfl
 ·rw [iy e,if_neg e]
theorem Nx.rn (g:Prg p S) (og:∀ l∈S,∀ s∈l,Em p s) (hq:keeps p.plays q) (wo:w.ok p) {m:D}{w':Wd}(n:Nx p S w m w'):Nx p S (w.rn q) (rnM q m) (w'.rn q):=by
 have r1:=Wd.rn_ok hq wo;rcases n with ⟨h,c,s,hh,es,hc,rfl,rfl⟩|⟨s,t,hs,ht,hx,hi,rfl,rfl⟩|⟨h,hh,hy,hi,rfl,rfl⟩
 ·have ho:Em p s:=by
   unfold stW stA at es;split at es
   ·cases el:S[plA p h]? with
    | none=>rw [el] at es;cases es
    | some l=>rw [el] at es;exact og l (gn el) s (gn es)
   ·cases es
  have es2:stW p S (w.rn q) (pat q h)=some s:=by rw [Ak9 hq hh];exact es
  have hc2:=Ain hq wo hh hc;have o1:=Adr g wo hh es hc;have o2:=Adr g r1 (Bf hq.1 hh) es2 hc2;rw [yD hq wo hh ho hc] at o2;refine Or.inl ⟨pat q h,rnC q c,s,Bf hq.1 hh,es2,hc2,Wn h c,?_⟩;rw [yD hq wo hh ho hc];exact Alb hq wo hh (Aig g wo hh es hc) o1 o2
 ·have hi2:loD (pat q s) (pat q t)∈Ku p (w.rn q):=by
   unfold Ku at hi ⊢;rw [if_neg hx] at hi;rw [if_neg (show ¬ (w.rn q).x=0 from hx)];obtain ⟨s',hs',hi⟩:=jg.mp hi;obtain ⟨t',ht',hi⟩:=jg.mp hi;unfold O9 at hi;split at hi
   ·rename_i hl;obtain ⟨rfl,rfl⟩:=Qe (ao.mp hi);refine jg.mpr ⟨pat q s,ir.mpr (Bf hq.1 hs),jg.mpr ⟨pat q t,ir.mpr (Bf hq.1 ht),?_⟩⟩;unfold O9;rw [Wd.rn_cell hq.1 hs ht,ak,if_pos hl];exact ao.mpr rfl
   ·cases hi
  refine Or.inr (Or.inl ⟨_,_,Bf hq.1 hs,Bf hq.1 ht,hx,hi2,Wo s t,?_⟩);refine Sg hq.1 (Wd.rn_ok hq (yE g wo hs ht hx)) (yE g r1 (Bf hq.1 hs) (Bf hq.1 ht) hx) (λi hi=>?_) rfl rfl λa b ha hb=>?_
  ·rw [Wd.rn_pt hq.1 hi];show (w.pt i).rn q=(w.rn q).pt (pat q i);rw [Wd.rn_pt hq.1 hi]
  ·rw [Wd.rn_cell hq.1 ha hb];show ((w.setC s t (w.cell s t).tail).cell a b).map (Jc q)=((w.rn q).setC (pat q s) (pat q t) ((w.rn q).cell (pat q s) (pat q t)).tail).cell (pat q a) (pat q b);rw [Km wo hs ht,Km r1 (Bf hq.1 hs) (Bf hq.1 ht),Wd.rn_cell hq.1 hs ht,Wd.rn_cell hq.1 ha hb]
   by_cases z:s=a/\t=b
   ·rw [if_pos z,if_pos ⟨by rw [z.1],by rw [z.2]⟩,List.map_tail]
   ·rw [if_neg z,if_neg λy=>z ⟨Dp hq.1 hs ha y.1,Dp hq.1 ht hb y.2⟩]
 ·have hi2:faD (pat q h)∈Kv p (w.rn q):=by
   unfold Kv at hi ⊢;rw [if_neg hy] at hi;rw [if_neg (show ¬ (w.rn q).y=0 from hy)];obtain ⟨i,hj,e⟩:=di.mp hi;obtain rfl:=Wj e;rw [lq] at hj;refine di.mpr ⟨pat q i,lq.mpr ⟨ir.mpr (Bf hq.1 hh),?_⟩,rfl⟩;rw [xX hq.1 hh];exact hj.2
  refine Or.inr (Or.inr ⟨_,Bf hq.1 hh,hy,hi2,Wq h,?_⟩);refine Sg hq.1 (Wd.rn_ok hq (yF g wo hh hy)) (yF g r1 (Bf hq.1 hh) hy) (λi hi=>?_) rfl rfl λa b ha hb=>?_
  ·rw [Wd.rn_pt hq.1 hi];unfold Y4 Wd.pt;dsimp only
   by_cases z:h=i
   ·subst z;rw [nq (by rw [wo.lp];exact hh),nq (by rw [r1.lp];exact Bf hq.1 hh)];show Pt.rn q ⟨-1,0,0,0,-1,-1,-1,0,0,false⟩=_;unfold Pt.rn;simp only [Fd,Ia];rfl
   ·rw [iy z,iy λy=>z (Dp hq.1 hh hi y)];have:=Wd.rn_pt (w:=w) hq.1 hi;unfold Wd.pt at this;exact this.symm
  ·rw [Wd.rn_cell hq.1 ha hb,Zg wo hh ha hb,Zg r1 (Bf hq.1 hh) (Bf hq.1 ha) (Bf hq.1 hb),Wd.rn_cell hq.1 ha hb]
   by_cases z:h=b
   ·rw [if_pos z,if_pos (by rw [z])];rfl
   ·rw [if_neg z,if_neg λy=>z (Dp hq.1 hh hb y)]
end
theorem Es {α β:Type}{f:α->List β}:∀ {l:List α},l.Nodup->(∀ a∈l,(f a).Nodup)->(∀ a∈l,∀ b∈l,∀ x,x∈f a->x∈f b->a=b)->(l.flatMap f).Nodup
 | [],_,_,_=>ou
 | a::l,nd,h1,h2=>by
  rw [pq] at nd;rw [KJ,qj];refine ⟨h1 a jb,Es nd.2 (λb hb=>h1 b (iw _ hb)) λb hb c hc=>h2 b (iw _ hb) c (iw _ hc),λx hx y hy e=>?_⟩;obtain ⟨b,hb,hy⟩:=jg.mp hy;have:=h2 a jb b (iw _ hb) x hx (e ▸ hy);exact nd.1 (this ▸ hb)
theorem Zh {α:Type}{l m:List α}(nl:l.Nodup) (h:∀ x∈l,x∈m):l.length<=m.length:=by
 induction l generalizing m with
 | nil=>exact jy _
 | cons a r ih =>
  rw [pq] at nl;obtain ⟨s,t,rfl⟩:=List.append_of_mem (h a jb);have:=ih (m:=s++t) nl.2 λx hx=>by
   have hm:=h x (iw _ hx);rcases jm.mp hm with z|z
   ·exact qy _ z
   ·rcases gb.mp z with rfl|z
    ·exact absurd hx nl.1
    ·exact gw _ z
  rw [dg] at this;rw [dg,jj,jj];omega
section
variable {p:Pg}{w:Wd}{S:List (List Sp)}{q:List Nat}
theorem Zj {i j:Nat}(e:Jj i=Jj j):i=j:=by
 unfold Jj Ae at e;injection e with e
 injection e with e _
 injection e with e
 omega
theorem U0 {i j:Nat}(e:Ae i=Ae j):i=j:=by
 unfold Ae at e;injection e with e
 omega
theorem Aip (wo:w.ok p) {h:Nat}(hh:h < p.plays.length) (s:Sp):(chs p w h s).Nodup:=by
 cases s with
 | choose a n=>exact Dj xg λa _ b _ e=>U0 e
 | pick a r =>
  refine Dj ?_ λa _ b _ e=>Zj e
  unfold oth hands;exact (List.nodup_range.filter _).filter _
 | out a g t =>
  show (Jk _).Nodup;unfold Jk;split
  ·exact jw _ _
  ·exact Dj (cR _) λa _ b _ e=>Zj e
 | take bx ls =>
  show (K4 p w h bx ls).Nodup;unfold K4;rw [qj];have key:∀ {s:Nat} {x:D},x∈Hy w h (Jy ls) s->∃ k,x=.tup [Ae s,.int k]:=λ{s x} hx=>by
   unfold Hy at hx;split at hx
   ·cases hx
   ·split at hx
    ·exact ⟨_,ao.mp hx⟩
    ·cases hx
  refine ⟨?_,Es ?_ (λs _=>?_) λa _ b _ x ha hb=>?_,λx hx y hy e=>?_⟩
  ·unfold Ej;split
   ·exact jw _ _
   ·exact ou
  ·unfold Dt;split
   ·exact xg
   ·split
    ·exact ou
    ·exact jw _ _
  ·unfold Hy;split
   ·exact ou
   ·split
    ·exact jw _ _
    ·exact ou
  ·obtain ⟨k,e1⟩:=key ha;obtain ⟨k',e2⟩:=key hb;rw [e1] at e2;injection e2 with e2
   injection e2 with e2 _
   exact U0 e2
  ·obtain ⟨s,_,hy⟩:=jg.mp hy;obtain ⟨k,e2⟩:=key hy;unfold Ej at hx;split at hx
   ·rw [ao.mp hx,e2] at e;injection e with e
    injection e with e _
    unfold Ae at e;injection e with e
    omega
   ·cases hx
 | send a kd b c =>
  show (if _ then _ else _:List D).Nodup;split
  ·exact jw _ _
  ·exact ou
 | _=>exact jw _ _
noncomputable def mvL (p:Pg) (S:List (List Sp)) (w:Wd):List D:=doL p S w++Ku p w++Kv p w
theorem yG {m:D}(h:Mv p S w m):m∈mvL p S w:=by
 unfold mvL;rcases h with ⟨h,c,hh,hc,rfl⟩|⟨s,t,_,_,_,hi,rfl⟩|⟨h,_,_,hi,rfl⟩
 ·exact qy _ (qy _ (jg.mpr ⟨h,ir.mpr hh,jg.mpr ⟨c,hc,ao.mpr rfl⟩⟩))
 ·exact qy _ (gw _ hi)
 ·exact gw _ hi
theorem cU (wo:w.ok p):(mvL p S w).Nodup:=by
 have d1:∀ {x:D},x∈doL p S w->∃ h c,x=doD h c:=λ{x} hx=>by
  obtain ⟨h,_,hx⟩:=jg.mp hx;obtain ⟨c,_,hx⟩:=jg.mp hx;exact ⟨h,c,ao.mp hx⟩
 unfold mvL;rw [qj,qj];refine ⟨⟨?_,?_,λx hx y hy e=>?_⟩,?_,λx hx y hy e=>?_⟩
 ·unfold doL;refine Es xg (λh hh=>Es ?_ (λc _=>jw _ _) λa _ b _ x ha hb=>?_) λa _ b _ x ha hb=>?_
  ·unfold chW;split
   ·exact ou
   ·exact Aip wo (ir.mp hh) _
  ·rw [ao.mp ha] at hb;exact (Wi (ao.mp hb)).2
  ·obtain ⟨c,_,ha⟩:=jg.mp ha;obtain ⟨c',_,hb⟩:=jg.mp hb;rw [ao.mp ha] at hb;exact (Wi (ao.mp hb)).1
 ·unfold Ku;split
  ·exact ou
  ·unfold Acn;have k1:∀ {s t:Nat} {x:D},x∈O9 w s t->x=loD s t:=λ{s t x} hx=>by
    unfold O9 at hx;split at hx
    ·exact ao.mp hx
    ·cases hx
   refine Es xg (λs _=>Es xg (λt _=>?_) λa _ b _ x ha hb=>?_) λa _ b _ x ha hb=>?_
   ·unfold O9;split
    ·exact jw _ _
    ·exact ou
   ·exact (Qe ((k1 ha).symm.trans (k1 hb))).2
   ·obtain ⟨t,_,ha⟩:=jg.mp ha;obtain ⟨t',_,hb⟩:=jg.mp hb;exact (Qe ((k1 ha).symm.trans (k1 hb))).1
 ·obtain ⟨h,c,e1⟩:=d1 hx;obtain ⟨s,t,_,_,_,e2⟩:=Qd hy;exact xO ((e1.symm.trans e).trans e2)
 ·unfold Kv;split
  ·exact ou
  ·exact Dj (List.nodup_range.filter _) λa _ b _ e=>Wj e
 ·obtain ⟨i,_,_,e2⟩:=Wh hy;rcases jm.mp hx with hx|hx
  ·obtain ⟨h,c,e1⟩:=d1 hx;exact xP ((e1.symm.trans e).trans e2)
  ·obtain ⟨s,t,_,_,_,e1⟩:=Qd hx;exact xQ ((e1.symm.trans e).trans e2)
theorem Alc (g:Prg p S) (wo:w.ok p) {m:D}(h:Mv p S w m):∃ w',w'.ok p/\Nx p S w m w':=by
 obtain ⟨_,_,_,r⟩:=R6 (mh:=[]) (P:=λ_ _=>∃ w',w'.ok p/\Nx p S w m w') 0 g wo h λa _ o n _=>⟨a,o,n⟩
 exact r
theorem yH (wo:w.ok p) {h:Nat}(hh:h < p.plays.length) {s:Sp}{c:D}(hc:c∈chs p w h s):(∃ i,c=.int i)\/∃ x r,c=.tup (.int x::r)/\Nb p.plays.length x:=by
 have one:∀ {i:Nat},i < p.plays.length->∃ x r,Jj i=.tup (.int x::r)/\Nb p.plays.length x:=λ{i} hi=>⟨i,[],rfl,by omega,by omega⟩
 cases s with
 | choose a n =>
  obtain ⟨i,hi,rfl⟩:=di.mp (show c∈(dm n).map Ae from hc);exact .inl ⟨_,rfl⟩
 | pick a r =>
  obtain ⟨i,hi,rfl⟩:=di.mp (show c∈(oth p r h).map Jj from hc);exact .inr (one (N8 hi))
 | out a g t =>
  have hc:c∈Jk ((w.pt h).se g):=hc;unfold Jk at hc;split at hc
  ·exact .inl ⟨_,ao.mp hc⟩
  ·obtain ⟨i,hi,rfl⟩:=di.mp hc;exact .inr (one (Ft (xY wo hh g) hi))
 | take bx ls =>
  rcases Hz wo hh hc with ⟨rfl,h0⟩|⟨s,l,r,hs,ec,h0,rfl⟩
  ·exact .inr ⟨_,_,rfl,by omega,by omega⟩
  ·exact .inr ⟨_,_,rfl,by omega,by omega⟩
 | send a kd b c' =>
  have hc:c∈(if Ji p w h a=true then [D.int 0] else []):=hc;split at hc
  ·exact .inl ⟨_,ao.mp hc⟩
  ·cases hc
 | _=>exact .inl ⟨_,ao.mp hc⟩
theorem yI (hq:IsP p.plays.length q) {c:D}(h:(∃ i,c=.int i)\/∃ x r,c=.tup (.int x::r)/\Nb p.plays.length x):rnC (und q) (rnC q c)=c:=by
 rcases h with ⟨i,rfl⟩|⟨x,r,rfl,hx⟩
 ·rfl
 ·show D.tup (.int (nmI (und q) (nmI q x))::r)=_;rw [J0 hq hx]
theorem Ss (hq:IsP p.plays.length q) (wo:w.ok p) {m:D}(h:Mv p S w m):rnM (und q) (rnM q m)=m:=by
 have up:∀ {i:Nat},i < p.plays.length->pat (und q) (pat q i)=i:=λ{i} hi=>by rw [Jb hq (Bf hq hi),Gy hq hi]
 rcases h with ⟨h,c,hh,hc,rfl⟩|⟨s,t,hs,ht,_,hi,rfl⟩|⟨h,hh,_,hi,rfl⟩
 ·obtain ⟨s,es,hcs,_⟩:=Ja wo hh hc;rw [Wn,Wn,up hh,yI hq (yH wo hh hcs)]
 ·rw [Wo,Wo,up hs,up ht]
 ·rw [Wq,Wq,up hh]
theorem Zk (g:Prg p S) (og:∀ l∈S,∀ s∈l,Em p s) (hq:keeps p.plays q) (wo:w.ok p) {m:D}(h:Mv p S w m):Mv p S (w.rn q) (rnM q m):=by
 obtain ⟨w',_,n⟩:=Alc g wo h;exact (n.rn g og hq wo).mv
theorem iR (g:Prg p S) (og:∀ l∈S,∀ s∈l,Em p s) (hq:keeps p.plays q) (wo:w.ok p) {m:D}(h:Mv p S (w.rn q) m):∃ m',Mv p S w m'/\rnM q m'=m:=by
 have hu:=Oc hq;have r1:=Wd.rn_ok hq wo;have a:=Zk g og hu r1 h;rw [Wd.rn_back hq wo] at a;refine ⟨_,a,?_⟩;have:=Ss hu.1 r1 h;rw [Ab7 hq.1] at this;exact this
theorem iU (hq:IsP p.plays.length q) (wo:w.ok p) {m n:D}(hm:Mv p S w m) (hn:Mv p S w n) (e:rnM q m=rnM q n):m=n:=by
 rw [← Ss hq wo hm,e,Ss hq wo hn]
theorem iV (g:Prg p S) (og:∀ l∈S,∀ s∈l,Em p s) (hq:keeps p.plays q) (wo:w.ok p):(mvL p S (w.rn q)).length=(mvL p S w).length:=by
 have nd:((mvL p S w).map (rnM q)).Nodup:=Dj (cU wo) λa ha b hb e=>iU hq.1 wo (O1 ha) (O1 hb) e
 have a:=Zh (m:=(mvL p S w).map (rnM q)) (cU (S:=S) (Wd.rn_ok hq wo)) λx hx=>by
  obtain ⟨m',h1,h2⟩:=iR g og hq wo (O1 hx);exact di.mpr ⟨m',yG h1,h2⟩
 have b:=Zh (m:=mvL p S (w.rn q)) nd λx hx=>by
  obtain ⟨m',h1,rfl⟩:=di.mp hx;exact yG (Zk g og hq wo (O1 h1))
 rw [ak] at a b;omega
end
section
variable {mh:MH}{P:D->MH->Prop}{p:Pg}{w:Wd}{S:List (List Sp)}{q:List Nat}
theorem J1 (k:Nat) {H:Nat}(hq:IsP H q) {i:Int}(hi:Nb H i) (h:P (.int (nmI q i)) mh):wV (Ac (Gk (k+1)) fuel f58 [.int i,Bk q] mh) P:=by
 refine Af (Ag9 k) vC.1 vC.2 rfl ?_;show wS (b58 k) [some (.int i),some (Bk q)] mh _;unfold b58
 walk_at "x2"
 refine Bv (λe=>?_) λe=>?_
 ·have e:=dj e
  walk_at "x2"
  rw [e,Fd] at h;rw [e];exact h
 ·have e:¬ i=-1:=beq_eq_false_iff_ne.mp e;obtain ⟨n,rfl⟩:∃ n:Nat,i=n:=⟨i.toNat,by omega⟩;rw [El] at h
  walk_at "x2"
  exact Bo (My (by rw [hq.len];omega)) h
theorem yJ (k c s:Nat) (hq:IsP c q) (hc:c<=6) (hs:s < 2 ^ c) (h:∀ h',Ext [] mh h'->P (Ae (rnS q s)) h'):wV (Ac (Gk (k+3)) fuel f60 [.int s,Bk q] mh) P:=by
 refine Af (Ahb (k+2)) vG.1 vG.2 rfl ?_;show wS (b60 (k+2)) [some (.int s),some (Bk q)] mh _;unfold b60;have s20:s < 2 ^ 20:=fu hs (za (by decide) (by omega));have ml:(mem s).length<=20:=by unfold mem;exact dz (Ld _ _) (bits_le s20)
 walk_at "x2"
 refine Cm (mem s) Ae (λm=>Ae (pat q m)) (by omega) ?_ (λx h' R hx ex hR=>?_) λh' ex=>?_
 ·walk_at "x2"
  refine Jv k s s20 mh λh' ex=>?_
  walk_at "x2"
  exact ⟨_,rfl,ex,λ_ _=>⟨rfl,rfl⟩⟩
 ·refine Ar ⟨rfl,?_⟩
  walk_at "x2"
  exact Bo (My (by rw [hq.len];exact Ft hs hx)) (hR h' Ext.refl)
 ·walk_at "x2"
  have e:(mem s).map (λm=>Ae (pat q m))=((mem s).map (pat q)).map Ae:=by rw [kh];rfl
  rw [e];refine Lf (k+1) _ _ _ Ak (λx hx=>?_) (h _ (ex.trans Ext.more));obtain ⟨m,hm,rfl⟩:=di.mp hx;have:=Bf hq (Ft hs hm);omega
theorem Zm (k:Nat) (a b c d e x:D) (mh:MH):Ac (Gk (k+1)) fuel f20 [.tup [a,b,c,d,e],.int 2,x] mh=some (.tup [a,b,x,d,e],mh):=by kernel_rfl
theorem Zo (k:Nat) (a b c d e x:D) (mh:MH):Ac (Gk (k+1)) fuel f20 [.tup [a,b,c,d,e],.int 3,x] mh=some (.tup [a,b,c,x,e],mh):=by kernel_rfl
theorem mY (k H L:Nat) {x:Pt}(hq:IsP H q) (hc:H<=6) (hx:x.ok H L) (h:∀ h',Ext [] mh h'->P (x.rn q).d h'):wV (Ac (Gk (k+4)) fuel f59 [x.d,Bk q] mh) P:=by
 have rest:wS (Ab (Aq (Ad Dg (Aa (Bp (Cq (dop ixD (vr 0) (Zr (.int (2))))) [none,none,some 1] (Ai 1) (Zr true) (Ad (Ac (Gk (k+3)) fuel f58) (Aa (vr 1) (Aa (vr 2) (Zr []))))) (Zr []))) (Ai 2))
  (Ab (Aq (Ad Dg (Aa (Bp (Cq (dop ixD (vr 0) (Zr (.int (3))))) [none,none,some 1] (Ai 1) (Zr true) (Ad (Ac (Gk (k+3)) fuel f60) (Aa (vr 1) (Aa (vr 2) (Zr []))))) (Zr []))) (Ai 3))
  (Ab (retS (Ad (Ac (Gk (k+3)) fuel f20) (Aa (Ad (Ac (Gk (k+3)) fuel f20) (Aa (vr 0) (Aa (Zr (.int (2))) (Aa (vr 2) (Zr []))))) (Aa (Zr (.int (3))) (Aa (vr 3) (Zr []))))))
  Zn))) [some x.d,some (Bk q),none,none] mh (bZ P):=by
  refine Am (Ci (Ca (Ax ?_)));refine Cm [x.m0,x.m1,x.m2] D.int (λn=>.int (nmI q n)) (by simp) ?_ (λn h' R hn ex hR=>?_) λh1 ex1=>?_
  ·refine Im (Bm (Be (by with_unfolding_all rfl) (Aj (Ds (c:=.tup [.int x.m0,.int x.m1,.int x.m2]) ?_))));exact ⟨_,rfl,Dn rfl⟩
  ·refine Ar ⟨rfl,?_⟩
   walk_at "x2"
   refine J1 (k+2) hq ?_ (hR h' Ext.refl);simp only [gb,lu,or_false] at hn;rcases hn with rfl|rfl|rfl
   ·exact hx.a0
   ·exact hx.a1
   ·exact hx.a2
  walk_at "x2"
  refine Ck (Dh _ _) ?_;refine Ar (Ag (Am (Ci (Ca (Ax ?_)))));refine Cm [x.s0,x.s1] Ae (λn=>Ae (rnS q n)) (by simp) ?_ (λn h' R hn ex hR=>?_) λh2 ex2=>?_
  ·refine Im (Bm (Be (by with_unfolding_all rfl) (Aj (Iv (d:=.tup [.int x.s0,.int x.s1]) ?_))));exact ⟨_,rfl,Dn rfl⟩
  ·refine Ar ⟨rfl,?_⟩
   walk_at "x2"
   refine yJ k H n hq hc ?_ hR;simp only [gb,lu,or_false] at hn;rcases hn with rfl|rfl
   ·exact hx.b0
   ·exact hx.b1
  walk_at "x2"
  refine Ck (Dh _ _) ?_;unfold Pt.d
  walk_at "x2"
  refine Ay (Zm (k+2) _ _ _ _ _ _ _) ?_
  walk_at "x2"
  refine Ay (Zo (k+2) _ _ _ _ _ _ _) ?_;exact h _ ((ex1.trans Ext.more).trans (ex2.trans Ext.more))
 refine Af (Aha (k+3)) vD.1 vD.2 rfl ?_;show wS (b59 (k+3)) [some x.d,some (Bk q),none,none] mh _;unfold b59;refine Am (Fi ?_);walk_at "r"
 refine Ds (c:=.tup [.int x.m0,.int x.m1,.int x.m2]) ?_;walk_at "r"
 refine ⟨by simp,?_⟩;refine Gv (R4 mh [x.m0,x.m1,x.m2] [-1,-1,-1]) ⟨_,rfl,λz1=>?_,λz1=>?_⟩
 ·walk_at "r"
  refine Iv (d:=.tup [.int x.s0,.int x.s1]) ?_;walk_at "r"
  refine ⟨by simp,?_⟩;refine Gv (R4 mh [(x.s0:Int),(x.s1:Int)] [0,0]) ⟨_,rfl,λz2=>?_,λz2=>?_⟩
  ·walk_at "r"
   have e1:=dj z1;have e2:=dj z2;injection e1 with a0 e1
   injection e1 with a1 e1
   injection e1 with a2 _
   injection e2 with b0 e2
   injection e2 with b1 _
   have e:x.rn q=x:=by
    obtain ⟨a,b,c,d,m0,m1,m2,s0,s1,g⟩:=x;have c0:s0=0:=by simpa using b0
    have c1:s1=0:=by simpa using b1
    simp only at a0 a1 a2;subst a0 a1 a2 c0 c1;unfold Pt.rn;simp only [Fd,Ia]
   have:=h mh Ext.refl;rw [e] at this;exact this
  ·exact Bh (Ag rest)
 ·exact Er (Bh (Ag rest))
theorem Wr (k c:Nat) {l:List Lt}(hq:IsP c q) (hl:∀ x∈l,Nb c x.2.2) (hz:l.length<=1000) (h:∀ h',Ext [] mh h'->P (lsD (l.map (Jc q))) h'):wV (Ac (Gk (k+2)) fuel f62 [lsD l,Bk q] mh) P:=by
 refine Af (Ahd (k+1)) vI.1 vI.2 rfl ?_;show wS (b62 (k+1)) [some (lsD l),some (Bk q)] mh _;unfold b62;refine Am (Fp (Ca (Ax ?_)));refine Cm l ltD (λx=>ltD (Jc q x)) (by omega) ?_ (λx h' R hx ex hR=>?_) λh' ex=>?_
 ·walk_at "x2"
  exact ⟨_,rfl,Dn rfl⟩
 ·refine V0 (ds:=[.int x.1,.int x.2.1,.int x.2.2]) rfl ⟨rfl,?_⟩
  walk_at "x2"
  refine J1 k hq (hl x hx) ?_
  walk_at "x2"
  exact hR h' Ext.refl
 ·walk_at "x2"
  refine Ck (Dh _ _) ?_;have:=h _ (ex.trans (Ext.more (g:=[.lst (l.map λx=>ltD (Jc q x))])));unfold lsD at this;rw [kh] at this;exact this
theorem mZ (k c:Nat) {r:List (List Lt)}(hq:IsP c q) (hc:c<=6) (hr:r.length=c) (hl:∀ l∈r,l.length<=1000/\∀ x∈l,Nb c x.2.2) (h:∀ h',Ext [] mh h'->P (.tup ((und q).map λg=>lsD (((r[g]?).getD []).map (Jc q)))) h') :
  wV (Ac (Gk (k+3)) fuel f61 [Ks r,Bk q,Bk (und q)] mh) P:=by
 refine Af (Ahc (k+2)) vH.1 vH.2 rfl ?_;show wS (b61 (k+2)) [some (Ks r),some (Bk q),some (Bk (und q))] mh _;unfold b61;refine Am (Fp (Ca (Ax ?_)));refine Cm (und q) Ae (λg=>lsD (((r[g]?).getD []).map (Jc q))) (by rw [Gw,hq.len];omega) ?_ (λg h' R hx ex hR=>?_) λh' ex=>?_
 ·walk_at "x2"
  exact ⟨_,rfl,Dn rfl⟩
 ·refine Ar ⟨rfl,?_⟩
  walk_at "x2"
  have lg:g < r.length:=by rw [hr];exact Sd hq hx
  have eg:r[g]?=some r[g]:=au lg;unfold Ks;refine Bo (j:=g) (d:=lsD r[g]) (by rw [cj,eg];rfl) ?_
  walk_at "x2"
  have:=hl _ (ni lg);refine Wr k c hq this.2 this.1 λh2 x2=>?_
  have z:=hR h2 x2;rw [eg] at z;exact z
 ·walk_at "x2"
  exact Ck (Dh _ _) (h _ (ex.trans Ext.more))
theorem J2 (k:Nat) (po:p.ok) (hq:IsP p.plays.length q) (wo:w.ok p) (h:∀ h',Ext [] mh h'->P (w.rn q).d h'):wV (Ac (Gk (k+6)) fuel f57 [w.d,Bk q] mh) P:=by
 have h6:p.plays.length<=6:=po.h6;have rm:=po.rm;refine Af (Ag8 (k+5)) vB.1 vB.2 rfl ?_;show wS (b57 (k+5)) [some w.d,some (Bk q),none,none,none] mh _;unfold b57;walk_at "r"
 refine Hl (a:=.tup (w.ps.map Pt.d)) ?_;walk_at "r"
 refine Bj (ds:=w.ps.map Pt.d) (by intro z z';cases z') rfl ?_;walk_at "r"
 rw [ak,wo.lp];refine Uu (k+1) (q.map Ae) p.plays.length mh (R8 q) (by rw [ak,hq.len];omega) λh1 x1=>?_
 rw [Uv hq];walk_at "r"
 refine cQ (k+4) p.plays.length q h1 (λi hi=>hq.mem (by rw [← hq.len];exact hi)) (by rw [hq.len];omega) λh2 x2=>?_
 refine Ar (Ag (Am (Ci (Ca (Ax ?_)))));refine Cm (und q) Ae (λg=>((w.pt g).rn q).d) (by rw [Gw,hq.len];omega) ?_ (λg h' R hx ex hR=>?_) λh3 x3=>?_
 ·walk_at "x2"
  exact ⟨_,rfl,Dn rfl⟩
 ·refine Ar ⟨rfl,?_⟩
  walk_at "x2"
  have lg:=Sd hq hx;refine Fq (k+4) g (by rw [wo.lp];exact lg) ?_
  walk_at "x2"
  exact mY (k+1) p.H _ hq h6 (Fb wo lg) hR
 walk_at "x2"
 refine Ck (Dh _ _) ?_;refine Ar (Ag (Am (Ci (Ca (Ax ?_)))));refine Cm (und q) Ae (λt=>.tup ((und q).map λs=>lsD ((w.cell s t).map (Jc q)))) (by rw [Gw,hq.len];omega) ?_ (λt h' R hx ex hR=>?_) λh4 x4=>?_
 ·walk_at "x2"
  exact ⟨_,rfl,Dn rfl⟩
 ·refine Ar ⟨rfl,?_⟩;walk_at "r"
  refine Gp (b:=.tup (w.rs.map Ks)) ?_;walk_at "r"
  have lg:=Sd hq hx;have lw:t < w.rs.length:=by rw [wo.lr];exact lg
  have eg:w.rs[t]?=some w.rs[t]:=au lw;have vo:=wo.rs _ (ni lw);refine Bo (j:=t) (d:=Ks w.rs[t]) (by rw [cj,eg];rfl) ?_
  walk_at "x2"
  refine mZ (k+2) p.plays.length hq h6 vo.1 (λl hl=>⟨by have:=(vo.2 l hl).1;omega,λz hz=>((vo.2 l hl).2 z hz).2⟩) λh5 x5=>?_
  have z:=hR h5 x5;unfold Wd.cell at z;rw [eg] at z;exact z
 walk_at "x2"
 refine Ck (Dh _ _) ?_;walk_at "r"
 refine Ds (c:=.tup [.int w.x,.int w.y]) ?_
 walk_at "x2"
 have:=h _ (((x1.trans x2).trans (x3.trans Ext.more)).trans (x4.trans (Ext.more (g:=[.lst ((und q).map λt=>.tup ((und q).map λs=>lsD ((w.cell s t).map (Jc q))))]))));unfold Wd.rn Wd.d Ks at this;rw [kh,kh] at this;have e:((λw=>D.tup (RM lsD w)) ∘ λt=>(und q).map λs=>(w.cell s t).map (Jc q))=λt=>D.tup ((und q).map λs=>lsD ((w.cell s t).map (Jc q))):=by
  funext t;show D.tup (RM lsD _)=_;rw [kh];rfl
 rw [e] at this;exact this
end
theorem Ald {a b:Str}{mh:MH}{P:D->MH->Prop}(h1:jq a=true) (h2:jq b=true) (h:(a==b)=false) (q:P (.bl true) mh):wV (neD (.str a) (.str b) mh) P:=tR (k:=false) (Fw h1 h2 h mh) q
theorem Ale {a b:Str}{mh:MH}{P:D->MH->Prop}(h1:jq a=true) (h2:jq b=true) (h:(a==b)=true) (q:P (.bl false) mh):wV (neD (.str a) (.str b) mh) P:=tR (k:=true) (Fw h1 h2 h mh) q
theorem Acw {n:Nat}{x:Int}{r:List Int}{mh:MH}{P:D->MH->Prop}(e:mh[n]?=some (.lst ((x::r).map D.int))) (h:P (.int (Np x r)) mh):wV (eV [.ref n] mh) P:=by
 refine ⟨_,_,?_,h⟩;have e2:intsOf ((x::r).map D.int)=some (x::r):=Gi _;show (match Abf [D.ref n] with | some z=>some (D.int (Np z.1 [z.2]),mh) | none=>maxD [.ref n] mh)=_;show Qy Np [.ref n] mh=_;simp only [Qy,Eh e,e2]
theorem iW {b:Int}:∀ {r:List Int}{x:Int},x < b->(∀ y∈r,y < b)->Np x r < b
 | [],x,h,_=>h
 | y::r,x,h,h2=>by
  show Np (if x < y then y else x) r < b;refine iW ?_ λz hz=>h2 z (iw _ hz)
  split
  ·exact h2 y jb
  ·exact h
local macro_rules | `(tactic| walk_at "x4") => `(tactic| repeat (first | walk_at "s" | with_reducible refine Ke ?_ | with_reducible refine Ir (by simp) ?_ | with_reducible refine Hl ?_ | with_reducible refine Gp ?_ | with_reducible refine Ds ?_ | with_reducible refine Iv ?_ | with_reducible refine N6 ?_ | with_reducible refine Agj (by kernel_rfl) (by kernel_rfl) (by decide +kernel) ?_ | with_reducible refine Agk (by kernel_rfl) (by kernel_rfl) (by decide +kernel) ?_ | with_reducible refine Ald (by kernel_rfl) (by kernel_rfl) (by decide +kernel) ?_ | with_reducible refine Ale (by kernel_rfl) (by kernel_rfl) (by decide +kernel) ?_))
section
variable {mh:MH}{P:D->MH->Prop}{p:Pg}{w:Wd}{S:List (List Sp)}{q:List Nat}
noncomputable def Cn (H:Nat) (c:D):Prop:=(∃ i,c=.int i)\/∃ (x:Int) (r:List Int),c=.tup ((x::r).map D.int)/\Nb H x/\r.length<=1
theorem Alf (wo:w.ok p) {h:Nat}(hh:h < p.plays.length) {c:D}(hc:c∈chW p S w h):Cn p.plays.length c:=by
 obtain ⟨s,es,hcs,cf⟩:=Ja wo hh hc;rcases cf with ⟨i,rfl⟩|⟨xs,hl,rfl⟩
 ·exact .inl ⟨i,rfl⟩
 ·rcases yH wo hh hcs with ⟨i,e⟩|⟨x,r,e,hx⟩
  ·cases e
  ·injection e with e
   cases xs with
   | nil=>cases e
   | cons y ys =>
    injection e with e1 e2
    injection e1 with e1
    subst e1;exact .inr ⟨y,ys,rfl,hx,by simp at hl;omega⟩
theorem Zq (k H:Nat) (hq:IsP H q) {c:D}(hc:Cn H c) (f:P (rnC q c) mh):wV (Ac (Gk (k+2)) fuel f65 [c,Bk q] mh) P:=by
 refine Af (Ahg (k+1)) vL.1 vL.2 rfl ?_;show wS (b65 (k+1)) [some c,some (Bk q)] mh _;unfold b65;rcases hc with ⟨i,rfl⟩|⟨x,r,rfl,hx,hr⟩
 ·walk_at "x4"
  exact f
 ·show wS _ [some (.tup (.int x::r.map D.int)),some (Bk q)] mh _
  walk_at "x4"
  refine J1 k hq hx ?_
  walk_at "x4"
  refine Gx (i:=1) (by simp) ?_;refine Io (by simp;omega) ?_
  walk_at "x4"
  exact f
theorem Zt (k H:Nat) {m:D}(hm:(∃ h c,h < H/\Cn H c/\m=doD h c)\/(∃ s t,s < H/\t < H/\m=loD s t)\/∃ h,h < H/\m=faD h) (f:∀ j h' x r,Ext [] mh h'->h'[j]?=some (.lst ((x::r).map D.int))->x < (H:Int)->(∀ y∈r,y < (H:Int))->P (.ref j) h'):wV (Ac (Gk (k+1)) fuel f64 [m] mh) P:=by
 refine Af (Ahf k) vK.1 vK.2 rfl ?_;show wS (b64 k) [some m] mh _;unfold b64;rcases hm with ⟨h,c,hh,hc,rfl⟩|⟨s,t,hs,ht,rfl⟩|⟨h,hh,rfl⟩
 ·unfold doD;rcases hc with ⟨i,rfl⟩|⟨x,r,rfl,hx,hr⟩
  ·walk_at "x4"
   exact f _ _ _ [] Ext.more Ak (by omega) λy hy=>nomatch hy
  ·show wS _ [some (.tup [.str "do",Ae h,.tup (.int x::r.map D.int)])] mh _
   walk_at "x4"
   refine f _ _ _ [x] Ext.more Ak (by omega) λy hy=>?_
   rw [ao.mp hy];omega
 ·unfold loD
  walk_at "x4"
  refine Gx (i:=1) (by simp) ?_
  walk_at "x4"
  refine Um rfl ?_
  walk_at "x4"
  refine f _ _ s [(t:Int)] Ext.more Ak (by omega) λy hy=>?_
  rw [ao.mp hy];omega
 ·unfold faD
  walk_at "x4"
  refine Gx (i:=1) (by simp) ?_
  walk_at "x4"
  refine Um rfl ?_
  walk_at "x4"
  exact f _ _ h [] Ext.more Ak (by omega) λy hy=>nomatch hy
theorem yK (wo:w.ok p) {m:D}(h:Mv p S w m):(∃ h c,h < p.plays.length/\Cn p.plays.length c/\m=doD h c)\/(∃ s t,s < p.plays.length/\t < p.plays.length/\m=loD s t)\/∃ h,h < p.plays.length/\m=faD h:=by
 rcases h with ⟨h,c,hh,hc,rfl⟩|⟨s,t,hs,ht,_,hi,rfl⟩|⟨h,hh,_,hi,rfl⟩
 ·exact .inl ⟨h,c,hh,Alf wo hh hc,rfl⟩
 ·exact .inr (.inl ⟨s,t,hs,ht,rfl⟩)
 ·exact .inr (.inr ⟨h,hh,rfl⟩)
theorem nA (k:Nat) (po:p.ok) (hq:IsP p.plays.length q) (wo:w.ok p) {m:D}(hm:Mv p S w m) (f:∀ h',Ext [] mh h'->P (rnM q m) h'):wV (Ac (Gk (k+5)) fuel f63 [m,Bk q] mh) P:=by
 have h6:p.plays.length<=6:=po.h6;have fm:=yK wo hm;refine Af (Ahe (k+4)) vJ.1 vJ.2 rfl ?_;show wS (b63 (k+4)) [some m,some (Bk q)] mh _;unfold b63
 walk_at "x4"
 refine Bj (ds:=q.map Ae) (by intro z z';cases z') rfl ?_
 walk_at "x4"
 rw [ak,hq.len];refine Uu k (q.map Ae) p.plays.length mh (R8 q) (by rw [ak,hq.len];omega) λh1 x1=>?_
 rw [Uv hq]
 walk_at "x4"
 refine Zt (k+3) p.plays.length fm λj h2 x r x2 gj hx hr=>?_
 walk_at "x4"
 refine Acw gj ?_
 walk_at "x4"
 refine Bj (ds:=q.map Ae) (by intro z z';cases z') rfl ?_;rw [ak,hq.len];refine Kd ⟨_,rfl,λe=>absurd (of_decide_eq_true e) (by have:=iW hx hr;omega),λ_=>?_⟩;have x12:=x1.trans x2;rcases fm with ⟨h,c,hh,hc,rfl⟩|⟨s,t,hs,ht,rfl⟩|⟨h,hh,rfl⟩
 ·rw [Wn] at f;unfold doD at f ⊢
  walk_at "x4"
  refine Bo (j:=h) (My (by rw [hq.len];exact hh)) ?_
  walk_at "x4"
  refine Zq (k+2) p.plays.length hq hc ?_
  walk_at "x4"
  exact f _ x12
 ·rw [Wo] at f;unfold loD at f ⊢
  walk_at "x4"
  refine Cm [s,t] Ae (λn=>Ae (pat q n)) (by simp) ?_ (λn h' R hn ex hR=>?_) λh3 x3=>?_
  ·walk_at "x4"
   refine Gx (i:=1) (by simp) ?_;exact ⟨_,rfl,Dn rfl⟩
  ·refine Ar ⟨rfl,?_⟩
   walk_at "x4"
   refine Bo (j:=n) (My ?_) (hR h' Ext.refl);simp only [gb,lu,or_false] at hn;rw [hq.len];rcases hn with rfl|rfl
   ·exact hs
   ·exact ht
  ·walk_at "x4"
   refine Ck (Dh _ _) ?_;refine Io (by simp) ?_
   walk_at "x4"
   exact f _ (x12.trans (x3.trans Ext.more))
 ·rw [Wq] at f;unfold faD at f ⊢
  walk_at "x4"
  refine Cm [h] Ae (λn=>Ae (pat q n)) (by simp) ?_ (λn h' R hn ex hR=>?_) λh3 x3=>?_
  ·walk_at "x4"
   refine Gx (i:=1) (by simp) ?_;exact ⟨_,rfl,Dn rfl⟩
  ·refine Ar ⟨rfl,?_⟩
   walk_at "x4"
   refine Bo (j:=n) (My ?_) (hR h' Ext.refl);rw [hq.len,ao.mp hn];exact hh
  ·walk_at "x4"
   refine Ck (Dh _ _) ?_;refine Io (by simp) ?_
   walk_at "x4"
   exact f _ (x12.trans (x3.trans Ext.more))
theorem iY (k:Nat) (g:Prg p S) (wo:w.ok p) {m:D}(hm:Mv p S w m) (f:∀ (w':Wd) h',w'.ok p->Nx p S w m w'->Ext [] mh h'->P w'.d h'):wV (Ac (Gk (k+8)) fuel f92 [p.d,w.d,m] mh) P:=by
 refine Af (Ahw (k+7)) wF.1 wF.2 rfl ?_;show wS (b92 (k+7)) [some p.d,some w.d,some m] mh _;unfold b92;refine Am (Fi (Vz (Rq (Ca (Ax (Be (by with_unfolding_all rfl) (Ax (Be (by with_unfolding_all rfl) (Ax (Be (by with_unfolding_all rfl) (Aj ?_)))))))))));refine Aco (k+2) g wo hm λh1 x1=>?_
 repeat (first | walk_at "s" | with_reducible refine Ke ?_)
 exact R6 k g wo hm λw' h2 o n x2=>f w' h2 o n (x1.trans x2)
end
noncomputable def rlD (l:List Sp):D:=.tup (l.map spD)
theorem Nf {n i:Nat}{d:D}(e:(Cg 0 n)[i]?=some d):i < n/\d=Ae i:=by
 rw [Iu,cj] at e;rcases MP i n with z|z
 ·rw [uy z] at e;cases e;exact ⟨z,rfl⟩
 ·rw [nj.mpr (by rw [ig];exact z)] at e;cases e
theorem Fj (k:Nat) (ns:List Int) (i:Nat) (mh:MH) {P:D->MH->Prop}(h:∀ v:Int,P (.int v) mh):wV (Ac (Gk (k+1)) fuel O8 [.rol (ns.map D.int),.int i] mh) P:=by
 refine Af (Ab9 k) fU.1 fU.2 rfl ?_;show wS (Ah2 k) [some (.rol (ns.map D.int)),some (.int i)] mh _;unfold Ah2;walk_at "r"
 refine Bj (by intro z;simp) rfl ?_;walk_at "r"
 refine Bv (λhk=>?_) λhk=>?_
 ·walk_at "r"
  rw [decide_eq_true_iff,ak] at hk;have hi:i < ns.length:=by omega
  refine Agh (d:=.int ns[i]) (by rw [cj,au hi];rfl) ?_;exact h _
 ·walk_at "r"
  exact h _
theorem nC (k:Nat) (x:Int) (mh:MH) {P:D->MH->Prop}(h:∀ v:Int,P (.int v) mh):wV (Ac (Gk (k+1)) fuel mO [.int x] mh) P:=by
 refine Af (Aca k) fV.1 fV.2 rfl ?_;show wS (Ah3 k) [some (.int x)] mh _;unfold Ah3;walk_at "r"
 refine Le (by decide) ?_;walk_at "r"
 refine Jt (.inr ⟨by decide,by decide⟩) ?_;walk_at "r"
 refine Le (by decide) ?_;generalize ((x.fmod 2147483647+1) * 48271)=y;have l1:=gC y (j:=2147483647) (by decide);have l2:=gD y (j:=2147483647) (by decide);generalize y.fmod 2147483647=z at l1 l2;walk_at "r"
 refine Mt (by decide) (by decide) ?_;walk_at "r"
 refine Jt (.inl ⟨by omega,by omega⟩) ?_;walk_at "r"
 refine Le (by decide) ?_;generalize (z * (z.fdiv 1009+69621))=y2;have m1:=gC y2 (j:=2147483647) (by decide);have m2:=gD y2 (j:=2147483647) (by decide);generalize y2.fmod 2147483647=z2 at m1 m2;walk_at "r"
 refine Mt (by decide) (by decide) ?_;walk_at "r"
 refine Jt (.inl ⟨by omega,by omega⟩) ?_;walk_at "r"
 refine Le (by decide) ?_;exact h _
theorem Ba (k n:Nat) (b:Int) (mh:MH) (hs:St3 mh n) (h0:0 < b) (h1:b < 1073741824) {P:D->MH->Prop}(h:∀ (r:Nat) (mh':MH),(r:Int) < b->Ext [n] mh mh'->mh'.length=mh.length->St3 mh' n->P (.int r) mh') :
    wV (Ac (Gk (k+2)) fuel Dz [.ref n,.int b] mh) P:=by
  obtain ⟨s0,s1,s2,hm⟩:=hs;have nat:∀ (i:Int) (mh':MH),Ext [n] mh mh'->mh'.length=mh.length->St3 mh' n->P (.int (i.fmod b)) mh':=λi mh' e l s=>by
    have l1:=gC i h0;have l2:=gD i h0;have e1:((i.fmod b).toNat:Int)=i.fmod b:=by omega
    have:=h (i.fmod b).toNat mh' (by omega) e l s;rw [e1] at this;exact this
  refine Af (Acb (k+1)) fW.1 fW.2 rfl ?_;show wS (Ah4 (k+1)) [some (.ref n),some (.int b),none] mh _;unfold Ah4
  have rest:wS (Ab (Aq (Ad (Ac (Gk (k+1)) fuel mO) (Aa (dop Cp (dop ixD (vr 0) (Zr (.int 2))) (Zr (.int 1))) (Zr []))) (Ht (vr 0) (Zr (.int 2))))
 (Ab (retS (dop Mr (dop Mq (dop ixD (vr 0) (Zr (.int 2))) (Zr (.int 7))) (vr 1)))
 Zn)) [some (.ref n),some (.int b),none] mh (bZ P):=by
    walk_at "r"
    refine Hh (j:=2) hm rfl ?_;walk_at "r"
    refine nC k _ mh λv=>?_
    walk_at "r"
    refine ⟨_,Yo (k:=2) hm (by simp),?_⟩;walk_at "r"
    have hm2:=Ip (o:=.lst [.int s0,.int s1,.int v]) hm;refine Hh (j:=2) hm2 rfl ?_;walk_at "r"
    refine Mt (by decide) (by decide) ?_;walk_at "r"
    refine Le (by omega) ?_;exact nat _ _ Ext.set (by rw [jz]) ⟨_,_,_,hm2⟩
  walk_at "r"
  refine Hh (j:=1) hm rfl ?_;walk_at "r"
  refine Bv (λe1=>?_) λe1=>?_
  · walk_at "r"
    refine Hh (j:=0) hm rfl ?_;walk_at "r"
    refine Bv (λe2=>?_) λe2=>?_
    · walk_at "r"
      refine Hh (j:=0) hm rfl ?_;walk_at "r"
      refine Le (by omega) ?_;walk_at "r"
      refine Hh (j:=0) hm rfl ?_;walk_at "r"
      refine Mt (by omega) (by omega) ?_;walk_at "r"
      refine ⟨_,Yo (k:=0) hm (by simp),?_⟩;walk_at "r"
      have hm2:=Ip (o:=.lst [.int (s0.fdiv b),.int s1,.int s2]) hm;exact nat _ _ Ext.set (by rw [jz]) ⟨_,_,_,hm2⟩
    · exact Bh (Ag rest)
  · exact Er (Bh (Ag rest))
noncomputable def Sv (hs:List Nat) (R:Nat):List Nat:=(dm R).map λr=>(hs.filter (·==r)).length
theorem Alh {p p':Pg}(h:p.plays=p'.plays) {L:Nat}{s:Sp}(so:Sp.ok p L s):Sp.ok p' L s:=by
 cases s with
 | only a r =>
  refine ⟨so.1,?_⟩;have:hands p' r=hands p r:=by unfold hands plA;rw [h]
  rw [this];exact so.2
 | _=>exact so
theorem Acx {p p':Pg}(h:p.plays=p'.plays) {s:Sp}(so:Em p s):Em p' s:=by
 cases s with
 | only a r =>
  show (hands p' r).length=1;have:hands p' r=hands p r:=by unfold hands plA;rw [h]
  rw [this];exact so
 | _=>trivial
theorem nD (p:Pg) (r:Nat):(hands p r).length=(p.plays.filter (·==r)).length:=by
 have e:p.plays=(dm p.plays.length).map (plA p):=by
  refine GR (by rw [ak,ig]) λi h1 h2=>?_
  rw [List.getElem_map,List.getElem_range];unfold plA;rw [au h1];rfl
 have e2:p.plays.filter (·==r)=((dm p.plays.length).filter λi=>plA p i==r).map (plA p):=by
  conv=>lhs;rw [e]
  rw [List.filter_map];rfl
 rw [e2,ak];rfl
local macro_rules | `(tactic| walk_at "x1") => `(tactic| repeat (first | walk_at "s" | with_reducible refine Ke ?_ | with_reducible refine Ir (by simp) ?_ | with_reducible refine Mt (by decide) (by decide) ?_ | with_reducible refine Le (by decide) ?_))
section
variable {mh:MH}{P:D->MH->Prop}{p:Pg}
noncomputable abbrev Gs (p:Pg) (L:Nat) (s:Sp):Prop:=Sp.ok p L s/\Em p s
theorem nF (k n j L R:Nat) (hs:St3 mh n) (hL:L<=7) (hR:1<=R) (hR4:R<=4) (gj:mh[j]?=some (.lst ((Sv p.plays R).map Ae))) (hne:j≠n) (f:∀ s h',Gs p L s->Ext [n] mh h'->P (spD s) h'):wV (Ac (Gk (k+3)) fuel uE [.ref n,.int L,.ref j] mh) P:=by
 have lc:(Sv p.plays R).length=R:=by unfold Sv;rw [ak,ig]
 refine Af (Acd (k+2)) fX.1 fX.2 rfl ?_;show wS (Ah5 (k+2)) [some (.ref n),some (.int L),some (.ref j),none,none,none,none,none,none] mh _;unfold Ah5
 walk_at "x1"
 refine Ba k n 3 mh hs (by decide) (by decide) λa h1 ha x1 _ s1=>?_
 walk_at "x1"
 refine Ba k n 3 h1 s1 (by decide) (by decide) λb h2 hb x2 _ s2=>?_
 walk_at "x1"
 refine Ba k n 2 h2 s2 (by decide) (by decide) λg h3 hg x3 _ s3=>?_
 walk_at "x1"
 refine Ba k n ((L:Int)+1) h3 s3 (by omega) (by omega) λt h4 ht x4 _ s4=>?_
 have x14:=((x1.trans x2).trans x3).trans x4;have gj4:=x14.old _ _ (by simpa using hne) gj
 walk_at "x1"
 refine Bj (by intro z z';cases z') (Eh gj4) ?_;rw [ak,lc]
 walk_at "x1"
 refine Ba k n (R:Int) h4 s4 (by omega) (by omega) λr h5 hr x5 _ s5=>?_
 have x15:=x14.trans x5;have gj5:=x5.old _ _ (by simpa using hne) gj4;have hr':r < (Sv p.plays R).length:=by rw [lc];omega
 have ha':a < 3:=by omega
 have hb':b < 3:=by omega
 have hg':g < 2:=by omega
 have ht':t<=L:=by omega
 walk_at "x1"
 have st5:∀ d∈[spD (.me a),spD (.pick a r),spD (.alike a b t),spD (.all g r),spD (.empty g)]++[spD (.join g a),spD (.out a g t),spD (.many g b t)],∃ s,d=spD s/\Gs p L s:=λd hd=>by
  simp only [List.cons_append,DN,gb,lu,or_false] at hd;rcases hd with rfl|rfl|rfl|rfl|rfl|rfl|rfl|rfl
  ·exact ⟨_,rfl,ha',trivial⟩
  ·exact ⟨_,rfl,ha',trivial⟩
  ·exact ⟨_,rfl,⟨⟨ha',hb'⟩,ht'⟩,trivial⟩
  ·exact ⟨_,rfl,hg',trivial⟩
  ·exact ⟨_,rfl,hg',trivial⟩
  ·exact ⟨_,rfl,⟨hg',ha'⟩,trivial⟩
  ·exact ⟨_,rfl,⟨⟨ha',hg'⟩,ht'⟩,trivial⟩
  ·exact ⟨_,rfl,⟨hg',ht'⟩,trivial⟩
 have lj:j < h5.length:=Dr gj5;have ln:n < h5.length:=by obtain ⟨_,_,_,e⟩:=s5;exact Dr e
 show wV (Cp (.ref h5.length) (.ref (h5++[MO.lst [spD (.me a),spD (.pick a r),spD (.alike a b t),spD (.all g r),spD (.empty g)]]).length) ((h5++[MO.lst [spD (.me a),spD (.pick a r),spD (.alike a b t),spD (.all g r),spD (.empty g)]])++[MO.lst [spD (.join g a),spD (.out a g t),spD (.many g b t)]])) _;refine Mu (xs:=[spD (.me a),spD (.pick a r),spD (.alike a b t),spD (.all g r),spD (.empty g)]) (ys:=[spD (.join g a),spD (.out a g t),spD (.many g b t)]) ((Ext.more (W:=[])).old _ _ (by simp) Ak) Ak (by simp) ?_;generalize hds:[spD (.me a),spD (.pick a r),spD (.alike a b t),spD (.all g r),spD (.empty g)]++[spD (.join g a),spD (.out a g t),spD (.many g b t)]=ds at st5 ⊢;have ld:ds.length=8:=by rw [← hds];rfl
 clear hds
 have x6:∀ (A B C:MO),Ext [] h5 (((h5++[A])++[B])++[C]):=λA B C=>(Ext.more.trans Ext.more).trans Ext.more
 have fin:∀ (es:List D) (m:MH) (jl:Nat),m[jl]?=some (.lst es)->es.length<=10->0 < es.length->Ext [] h5 m->h5.length<=jl->(∀ d∈es,∃ s,d=spD s/\Gs p L s)->wV (Ac (Gk (k+2)) fuel Dz [.ref n,.int (es.length:Int)] m) λy h'=>wV (ixD (.ref jl) y h') P:=λes m jl gl l10 l0 xm jn all=>by
  refine Ba k n (es.length:Int) m (s5.ext xm (by simp)) (by omega) (by omega) λi h7 hi x7 _ s7=>?_
  have gl7:=x7.old _ _ (by intro z;have:=ao.mp z;omega) gl;refine Mz gl7 (by omega) λd hd=>?_
  obtain ⟨s,rfl,so⟩:=all d hd;exact f s h7 so ((x15.trans xm.weak).trans x7)
 generalize hm:((h5++[MO.lst [spD (.me a),spD (.pick a r),spD (.alike a b t),spD (.all g r),spD (.empty g)]])++[MO.lst [spD (.join g a),spD (.out a g t),spD (.many g b t)]])=m6;have l6:h5.length<=m6.length:=by rw [← hm];simp
 have y6:Ext [] h5 (m6++[MO.lst ds]):=by rw [← hm];exact x6 _ _ _
 have gj6:=y6.old _ _ (by simp) gj5
 clear hm
 walk_at "x1"
 refine Hh gj6 (d:=Ae ((Sv p.plays R)[r]'hr')) (by rw [cj,au hr'];rfl) ?_
 walk_at "x1"
 refine Bv (λe=>?_) λe=>?_
 ·have e1:(Sv p.plays R)[r]'hr'=1:=by have:=dj e;omega
  have oo:Em p (.only a r):=by
   show (hands p r).length=1;rw [nD];have e2:(Sv p.plays R)[r]?=some (p.plays.filter (·==r)).length:=by
    unfold Sv;rw [cj,uy (by omega)];rfl
   rw [au hr',e1] at e2;exact (Option.some.inj e2).symm
  have oh:hands p r≠[]:=λz=>by
   have oo:(hands p r).length=1:=oo;rw [z] at oo;cases oo
  walk_at "x1"
  refine Mu (xs:=ds) (ys:=[spD (.only a r)]) ((Ext.more (W:=[])).old _ _ (by simp) Ak) Ak (by rw [ld];simp) ?_
  walk_at "x1"
  refine Bj (by intro z z';cases z') (Eh Ak) ?_
  walk_at "x1"
  refine fin (ds++[spD (.only a r)]) _ _ Ak (by rw [dg,ld];simp) (by rw [dg,ld];simp) (y6.trans (Ext.more.trans Ext.more)) (by simp;omega) λd hd=>?_
  rcases jm.mp hd with hd|hd
  ·exact st5 d hd
  ·exact ⟨_,ao.mp hd,⟨ha',oh⟩,oo⟩
 ·walk_at "x1"
  refine Bj (by intro z z';cases z') (Eh Ak) ?_
  walk_at "x1"
  exact fin ds _ _ Ak (by omega) (by omega) y6 l6 st5
theorem nG (k j L R:Nat) (c sd:Int) (hL:L<=7) (hR:1<=R) (hR4:R<=4) (gj:mh[j]?=some (.lst ((Sv p.plays R).map Ae))) (f:∀ s h',Gs p L s->Ext [] mh h'->P (spD s) h'):wV (Ac (Gk (k+4)) fuel uF [.int c,.int sd,.int L,.ref j] mh) P:=by
 have hj:=Dr gj;refine Af (Ace (k+3)) fY.1 fY.2 rfl ?_;show wS (Ah6 (k+3)) [some (.int c),some (.int sd),some (.int L),some (.ref j),none,none,none,none,none,none,none,none,none,none] mh _;unfold Ah6
 walk_at "x1"
 refine Jt (Or.inl (by decide)) ?_
 walk_at "x1"
 generalize hm0:mh++[MO.lst [D.int (c.fdiv 2),D.int (c.fmod 2),D.int (c+65537 * sd)]]=m0;have g0:St3 m0 mh.length:=⟨_,_,_,by rw [← hm0];exact Ak⟩;have x0:Ext [] mh m0:=by rw [← hm0];exact Ext.more
 clear hm0
 have new:∀ {h:MH},Ext [mh.length] m0 h->Ext [] mh h:=λ{h} x=>⟨dz x0.len x.len,λi o _ e=>x.old i o (by intro z;have:=ao.mp z;have:=Dr e;omega) (x0.old i o (by simp) e)⟩
 have gj0:=x0.old _ _ (by simp) gj
 walk_at "x1"
 refine Ba (k+1) mh.length 4 m0 g0 (by decide) (by decide) λwy h1 hw x1 _ s1=>?_
 have gj1:=x1.old _ _ (by intro z;have:=ao.mp z;omega) gj0
 walk_at "x1"
 refine Bv (λe=>?_) λe=>?_
 ·walk_at "x1"
  exact nF k mh.length j L R s1 hL hR hR4 gj1 (by omega) λs h' so x'=>f s h' so (new (x1.trans x'))
 ·walk_at "x1"
  refine Ba (k+1) mh.length 3 h1 s1 (by decide) (by decide) λa h2 ha x2 _ s2=>?_
  walk_at "x1"
  refine Ba (k+1) mh.length 3 h2 s2 (by decide) (by decide) λb h3 hb x3 _ s3=>?_
  walk_at "x1"
  refine Ba (k+1) mh.length ((L:Int)+1) h3 s3 (by omega) (by omega) λt h4 ht x4 _ s4=>?_
  walk_at "x1"
  refine Ba (k+1) mh.length 2 h4 s4 (by decide) (by decide) λkd h5 hk x5 _ s5=>?_
  have x05:=(((x1.trans x2).trans x3).trans x4).trans x5;have ha':a < 3:=by omega
  have hb':b < 3:=by omega
  have ht':t<=L:=by omega
  have ek:(1:Int)+(kd:Int)=((1+kd:Nat):Int):=by omega
  have hk1:1<=1+kd/\1+kd<=12:=by omega
  generalize 1+kd=kk at ek hk1
  walk_at "x1"
  rw [ek];refine Bv (λe1=>?_) λe1=>?_
  ·walk_at "x1"
   refine Ba (k+1) mh.length 3 h5 s5 (by decide) (by decide) λc' h6 hc x6 _ s6=>?_
   walk_at "x1"
   exact f (.send a kk b c') h6 ⟨⟨⟨ha',hb',by omega⟩,hk1⟩,trivial⟩ (new (x05.trans x6))
  ·walk_at "x1"
   refine Bv (λe2=>?_) λe2=>?_
   ·walk_at "x1"
    refine Ba (k+1) mh.length ((L:Int)+1) h5 s5 (by omega) (by omega) λt2 h6 ht2 x6 _ s6=>?_
    walk_at "x1"
    refine Ba (k+1) mh.length 4 h6 s6 (by decide) (by decide) λbx h7 hbx x7 _ s7=>?_
    obtain ⟨q1,hq1,eq1⟩:=cG ((b:Int)+1) 3 (by decide);obtain ⟨q2,hq2,eq2⟩:=cG ((b:Int)+2) 3 (by decide);have eq1:((b:Int)+1).fmod 3=(q1:Int):=eq1;have eq2:((b:Int)+2).fmod 3=(q2:Int):=eq2;rw [eq1,eq2]
    walk_at "x1"
    have l7:mh.length < h7.length:=by obtain ⟨_,_,_,e⟩:=s7;exact Dr e
    refine Ba (k+1) mh.length 2 _ (s7.ext (Ext.more (W:=[])) (by simp)) (by decide) (by decide) λi h9 hi x9 _ s9=>?_
    refine Mz (ds:=[D.tup [lnD ⟨kk,a,b,q1,t⟩],D.tup [lnD ⟨kk,a,b,q1,t⟩,lnD ⟨0,a,b,q2,t2⟩]]) (x9.old _ _ (by intro z;have:=ao.mp z;omega) Ak) (by simp;omega) λd hd=>?_
    have hl1:Ln.ok L ⟨kk,a,b,q1,t⟩:=⟨ha',hb',hq1,ht'⟩;have hl2:Ln.ok L ⟨0,a,b,q2,t2⟩:=⟨ha',hb',hq2,by show t2<=L;omega⟩;have hd:∃ ls:List Ln,d=.tup (ls.map lnD)/\ls.length<=1000/\∀ l∈ls,Ln.ok L l:=by
     simp only [gb,lu,or_false] at hd;rcases hd with rfl|rfl
     ·exact ⟨[⟨kk,a,b,q1,t⟩],rfl,by simp,λl hl=>by rw [ao.mp hl];exact hl1⟩
     ·refine ⟨[⟨kk,a,b,q1,t⟩,⟨0,a,b,q2,t2⟩],rfl,by simp,λl hl=>?_⟩;simp only [gb,lu,or_false] at hl;rcases hl with rfl|rfl
      ·exact hl1
      ·exact hl2
    obtain ⟨ls,rfl,n1,n2⟩:=hd
    walk_at "x1"
    refine f (.take ((bx:Int) - 1) ls) h9 ⟨⟨?_,n1,n2⟩,trivial⟩ (new (((x05.trans x6).trans x7).trans (Ext.more.trans x9)))
    by_cases z:bx=0
    ·exact .inl (by omega)
    ·exact .inr ⟨bx - 1,by omega,by omega⟩
   ·walk_at "x1"
    refine Ba (k+1) mh.length 5 h5 s5 (by decide) (by decide) λnz h6 hz x6 _ s6=>?_
    walk_at "x1"
    generalize (nz:Int) - 2=z;have eb:(1:Int)+(b:Int)=((1+b:Nat):Int):=by omega
    rw [eb];have l6:mh.length < h6.length:=by obtain ⟨_,_,_,e⟩:=s6;exact Dr e
    show wV (Cp (.ref h6.length) (.ref (h6++[MO.lst [spD (.put a z),spD (.copy a b),spD (.raise a z),spD (.sum a b),spD .bell]]).length) ((h6++[MO.lst [spD (.put a z),spD (.copy a b),spD (.raise a z),spD (.sum a b),spD .bell]])++[MO.lst [spD (.choose a (1+b)),spD (.less a z t),spD (.before a b t),spD (.go t)]])) _;refine Mu (xs:=[spD (.put a z),spD (.copy a b),spD (.raise a z),spD (.sum a b),spD .bell]) (ys:=[spD (.choose a (1+b)),spD (.less a z t),spD (.before a b t),spD (.go t)]) ((Ext.more (W:=[])).old _ _ (by simp) Ak) Ak (by simp) ?_
    walk_at "x1"
    refine Bj (by intro z z';cases z') (Eh Ak) ?_
    walk_at "x1"
    refine Ba (k+1) mh.length 9 _ (s6.ext ((Ext.more (W:=[])).trans (Ext.more.trans Ext.more)) (by simp)) (by decide) (by decide) λi h9 hi x9 _ s9=>?_
    refine Mz (ds:=[spD (.put a z),spD (.copy a b),spD (.raise a z),spD (.sum a b),spD .bell]++[spD (.choose a (1+b)),spD (.less a z t),spD (.before a b t),spD (.go t)]) (x9.old _ _ (by intro z;have:=ao.mp z;simp at this;omega) Ak) (by simp;omega) λd hd=>?_
    have xe:=new ((x05.trans x6).trans ((Ext.more.trans (Ext.more.trans Ext.more)).trans x9));simp only [List.cons_append,DN,gb,lu,or_false] at hd;rcases hd with rfl|rfl|rfl|rfl|rfl|rfl|rfl|rfl|rfl
    ·exact f (.put a z) h9 ⟨ha',trivial⟩ xe
    ·exact f (.copy a b) h9 ⟨⟨ha',hb'⟩,trivial⟩ xe
    ·exact f (.raise a z) h9 ⟨ha',trivial⟩ xe
    ·exact f (.sum a b) h9 ⟨⟨ha',hb'⟩,trivial⟩ xe
    ·exact f .bell h9 ⟨trivial,trivial⟩ xe
    ·exact f (.choose a (1+b)) h9 ⟨⟨ha',by omega⟩,trivial⟩ xe
    ·exact f (.less a z t) h9 ⟨⟨ha',ht'⟩,trivial⟩ xe
    ·exact f (.before a b t) h9 ⟨⟨⟨ha',hb'⟩,ht'⟩,trivial⟩ xe
    ·exact f (.go t) h9 ⟨ht',trivial⟩ xe
end
theorem Ext.sub {V W:List Nat}{a b:MH}(h:∀ x∈V,x∈W) (x:Ext V a b):Ext W a b:=⟨x.len,λi o hi e=>x.old i o (λz=>hi (h i z)) e⟩
section
variable {mh:MH}{P:D->MH->Prop}
theorem nH (k:Nat) (ns:List Int) (f:∀ (p:Pg) (S:List (List Sp)) h',Prg p S->(∀ l∈S,∀ s∈l,Em p s)->Ext [] mh h'->P p.d h'):wV (Ac (Gk (k+6)) fuel uG [.rol (ns.map D.int)] mh) P:=by
 refine Af (Acf (k+5)) fZ.1 fZ.2 rfl ?_;show wS (Ah7 (k+5)) [some (.rol (ns.map D.int)),none,none,none,none,none,none,none,none,none,none,none,none] mh _;unfold Ah7
 walk_at "x1"
 refine Fj (k+4) ns 0 mh λc1=>?_
 walk_at "x1"
 refine Fj (k+4) ns 0 mh λc2=>?_
 walk_at "x1"
 refine Fj (k+4) ns 0 mh λc3=>?_
 walk_at "x1"
 generalize hn:mh.length=n;generalize hm0:mh++[MO.lst [D.int (c1.fdiv 2),D.int (c2.fmod 2),D.int c3]]=m0;have g0:St3 m0 n:=⟨_,_,_,by rw [← hm0,← hn];exact Ak⟩;have x0:Ext [] mh m0:=by rw [← hm0];exact Ext.more
 clear hm0
 have new:∀ {h:MH},Ext [n] m0 h->Ext [] mh h:=λ{h} x=>⟨dz x0.len x.len,λi o _ e=>x.old i o (by intro z;have:=ao.mp z;have:=Dr e;omega) (x0.old i o (by simp) e)⟩
 walk_at "x1"
 refine Ba (k+3) n 3 m0 g0 (by decide) (by decide) λR0 h1 hR0 x1 _ s1=>?_
 walk_at "x1"
 have eR:(1:Int)+(R0:Int)=((1+R0:Nat):Int):=by omega
 rw [eR];have hR1:1<=1+R0:=by omega
 have hR3:1+R0<=3:=by omega
 generalize 1+R0=R at hR1 hR3;show wD _ [some (.rol (ns.map D.int)),some (.ref n),some (.int R),none,none,none,none,none,none,none,none,none,none] h1 _;refine Gu ?_
 walk_at "x1"
 refine Ba (k+3) n 3 h1 s1 (by decide) (by decide) λN0 h2 hN x2 _ s2=>?_
 walk_at "x1"
 have eN:(2:Int)+(N0:Int)=((2+N0:Nat):Int):=by omega
 rw [eN];refine ⟨_,Fg (by omega),Cg 0 (2+N0),λi acc h=>(∃ vs:List Nat,acc=vs.map Ae/\vs.length=i/\∀ v∈vs,v < R)/\Ext [n] h2 h/\St3 h n,by rw [Dv];omega,⟨⟨[],rfl,rfl,λ_ z=>absurd z (by simp)⟩,Ext.refl,s2⟩,λ_ _ _ _=>⟨rfl,rfl⟩,?_,?_,?_⟩
 ·rintro i acc h ⟨⟨vs,rfl,lv,_⟩,_⟩;rw [ak,lv];exact bh _
 ·rintro i dd acc h ed ⟨⟨vs,rfl,lv,hv⟩,xh,sh⟩;refine Ar ?_;show wD _ [none,some dd,some (.int R),some (.ref n)] h _;refine Aj ⟨λ_=>?_,λe=>by cases e⟩
  walk_at "x1"
  refine Ba (k+3) n R h sh (by omega) (by omega) λv h3 hv3 x3 _ s3=>?_
  refine ⟨⟨vs++[v],by rw [ji];rfl,by rw [dg,lv];rfl,λz hz=>?_⟩,xh.trans x3,s3⟩;rcases jm.mp hz with hz|hz
  ·exact hv z hz
  ·rw [ao.mp hz];omega
 rintro acc h3 ⟨⟨vs,rfl,lv,hv⟩,x3,s3⟩;rw [Dv] at lv;have nats:∀ l:List Nat,l.map Ae=(l.map λn:Nat=>(n:Int)).map D.int:=λl=>Mw l
 walk_at "x1"
 refine tZ (ns:=vs.map λn:Nat=>(n:Int)) (by rw [Ak,nats]) (by rw [ak];omega) ?_;obtain ⟨hs,es,lh,mhs⟩:=cC vs;rw [es];have lh2:2<=hs.length:=by omega
 have lh4:hs.length<=4:=by omega
 have hr:∀ r∈hs,r < R:=λr hr=>hv r (mhs r hr)
 walk_at "x1"
 refine Ck (Dh _ _) ?_;have x4:Ext [n] m0 (h3++[MO.lst (vs.map Ae)]++[MO.lst (hs.map Ae)]):=((x1.trans x2).trans x3).trans (Ext.more.trans Ext.more);have s4:St3 (h3++[MO.lst (vs.map Ae)]++[MO.lst (hs.map Ae)]) n:=s3.ext (Ext.more (W:=[]) |>.trans Ext.more) (by simp);generalize h3++[MO.lst (vs.map Ae)]++[MO.lst (hs.map Ae)]=h4 at x4 s4 ⊢
 clear es mhs hv lv
 refine Ar (Ag ?_);show wS _ [some (.rol (ns.map D.int)),some (.ref n),some (.int R),some (.tup (hs.map Ae)),none,none,none,none,none,none,none,none,none] h4 _;refine Am (Ci ?_);refine Cm (dm R) Ae (λr=>Ae (hs.filter (·==r)).length) (by rw [ig];omega) ?_ (λr h' R' hx ex hR=>?_) λm1 xm1=>?_
 ·walk_at "x1"
  exact ⟨_,Fg (by omega),Ext.refl,λ_ _=>⟨rfl,Iu R⟩⟩
 ·refine Ar ⟨rfl,?_⟩;refine Ca (Ax ?_);refine Gn hs Ae (·==r) Ae (by omega) ?_ (λx h2 R2 hx2 ex2 hR2=>?_) λm2 xm2=>?_
  ·walk_at "x1"
   exact ⟨_,rfl,Dn rfl⟩
  ·refine Ar ⟨rfl,?_⟩
   walk_at "x1"
   have e:(((x:Nat):Int)==(r:Int))=(x==r):=by
    by_cases z:x=r
    ·rw [z];simp
    ·rw [beq_eq_false_iff_ne.mpr z];exact beq_eq_false_iff_ne.mpr λq=>z (by omega)
   refine ⟨e,rfl,λ_=>?_⟩
   walk_at "x1"
   exact hR2 _ Ext.refl
  ·walk_at "x1"
   refine Bj (ds:=(hs.filter (·==r)).map Ae) (by intro z z';cases z') (Dh _ _) ?_;rw [ak];exact hR _ (xm2.trans Ext.more)
 have gc:(m1++[MO.lst ((dm R).map λr=>Ae (hs.filter (·==r)).length)])[m1.length]?=some (.lst ((Sv hs R).map Ae)):=by
  rw [Ak];unfold Sv;rw [kh];rfl
 have x5:=x4.trans (xm1.weak.trans (Ext.more (g:=[MO.lst ((dm R).map λr=>Ae (hs.filter (·==r)).length)])));have s5:St3 (m1++[MO.lst ((dm R).map λr=>Ae (hs.filter (·==r)).length)]) n:=s4.ext (xm1.trans Ext.more) (by simp);have lc1:n < m1.length:=by obtain ⟨_,_,_,e⟩:=s4.ext xm1 (by simp);exact Dr e
 generalize m1++[MO.lst ((dm R).map λr=>Ae (hs.filter (·==r)).length)]=m2 at gc x5 s5 ⊢;generalize m1.length=jc at gc lc1 ⊢
 walk_at "x1"
 refine Ba (k+3) n 2 m2 s5 (by decide) (by decide) λrm h5 hrm x6 _ s6=>?_
 walk_at "x1"
 refine Ba (k+3) n 3 h5 s6 (by decide) (by decide) λl0 h6 hl0 x7 _ s7=>?_
 walk_at "x1"
 refine Ba (k+3) n 3 h6 s7 (by decide) (by decide) λl1 h7 hl1 x8 _ s8=>?_
 have nx:=new (((x5.trans x6).trans x7).trans x8);have gc7:=((x6.trans x7).trans x8).old _ _ (by intro z;have:=ao.mp z;omega) gc;have erm:(1:Int)+(rm:Int)=((1+rm:Nat):Int):=by omega
 walk_at "x1"
 rw [erm];have hrm1:1<=1+rm:=by omega
 have hrm2:1+rm<=2:=by omega
 generalize 1+rm=room at hrm1 hrm2 ⊢;have lc7:=Dr gc7;show wS _ [some (.rol (ns.map D.int)),some (.ref n),some (.int R),some (.tup (hs.map Ae)),none,some (.ref jc),some (.int room),some (.tup [.int l0,.int l1]),some (.ref h7.length),none,none,none,none] (h7++[MO.lst []]) _;refine Gm ?_
 walk_at "x1"
 have wn:∀ {a b:MH},Ext [n] a b->Ext [n,h7.length] a b:=λx=>Ext.sub (by simp) x
 have ln7:n < h7.length:=by obtain ⟨_,_,_,e⟩:=s8;exact Dr e
 refine ⟨_,Fg (by omega),Cg 0 R,λi l h=>Ext [n,h7.length] (h7++[MO.lst []]) h/\St3 h n/\(∃ S:List (List Sp),S.length=i/\(∀ ss∈S,ss.length<=7/\∀ s∈ss,Gs ⟨room,l0,l1,[],hs⟩ ss.length s)/\h[h7.length]?=some (.lst (S.map rlD)))/\∃ x4 x9 x10 x11 x12,l=[some (.rol (ns.map D.int)),some (.ref n),some (.int R),some (.tup (hs.map Ae)),x4,some (.ref jc),some (.int room),some (.tup [.int l0,.int l1]),some (.ref h7.length),x9,x10,x11,x12],⟨Ext.refl,s8.ext (Ext.more (W:=[])) (by simp),⟨[],rfl,λ_ z=>absurd z (by simp),Ak⟩,_,_,_,_,_,rfl⟩,λ_ _ _ _=>⟨rfl,rfl⟩,?_,?_⟩
 ·rintro i dd l h ed ⟨xh,sh,⟨S,sl,so,gs⟩,x4,x9,x10,x11,x12,rfl⟩;obtain ⟨hi,rfl⟩:=Nf ed;have gch:=xh.old _ _ (by intro z;simp only [gb,lu,or_false] at z;omega) ((Ext.more (W:=[])).old _ _ (by simp) gc7);refine Ar ?_;show wS _ [some (.rol (ns.map D.int)),some (.ref n),some (.int R),some (.tup (hs.map Ae)),some (.int i),some (.ref jc),some (.int room),some (.tup [.int l0,.int l1]),some (.ref h7.length),x9,x10,x11,x12] h _
  walk_at "x1"
  refine Ba (k+3) n 6 h sh (by decide) (by decide) λL q1 hL y1 _ t1=>?_
  walk_at "x1"
  refine Gu ?_
  walk_at "x1"
  refine ⟨_,Fg (by omega),Cg 0 L,λj acc h'=>(∃ vs:List Int,acc=vs.map D.int/\vs.length=j)/\h'=q1,by rw [Dv];omega,⟨⟨[],rfl,rfl⟩,rfl⟩,λ_ _ _ _=>⟨rfl,rfl⟩,?_,?_,?_⟩
  ·rintro j acc h' ⟨⟨vs,rfl,lv⟩,_⟩;rw [ak,lv];exact bh _
  ·rintro j d2 acc h' ed2 ⟨⟨vs,rfl,lv⟩,rfl⟩;obtain ⟨hj,rfl⟩:=Nf ed2;refine Ar ?_;show wD _ [none,some (.int j),some (.int i),some (.rol (ns.map D.int))] h' _;refine Aj ⟨λ_=>?_,λe=>by cases e⟩
   walk_at "x1"
   refine Jt (Or.inl (by decide)) ?_
   walk_at "x1"
   have e1:(3:Int)+5 * (i:Int)+(j:Int)=((3+5 * i+j:Nat):Int):=by omega
   rw [e1];refine Fj (k+4) ns _ h' λv=>?_
   exact ⟨⟨vs++[v],by rw [ji];rfl,by rw [dg,lv];rfl⟩,rfl⟩
  rintro acc q2 ⟨⟨vs,rfl,lv⟩,rfl⟩;rw [Dv] at lv;generalize hq3:q2++[MO.lst (vs.map D.int)]=q3;have y3:Ext [] q2 q3:=by rw [← hq3];exact Ext.more
  have gv3:q3[q2.length]?=some (.lst (vs.map D.int)):=by rw [← hq3];exact Ak
  clear hq3
  have yh:=xh.trans ((wn y1).trans y3.weak);have gs3:=((Ext.sub (W:=[n]) (by simp) y1).trans y3.weak).old _ _ (by intro z;have:=ao.mp z;omega) gs;have gc3:=((Ext.sub (W:=[n]) (by simp) y1).trans y3.weak).old _ _ (by intro z;have:=ao.mp z;omega) gch;have t3:=t1.ext y3 (by simp)
  walk_at "x1"
  refine Fj (k+4) ns 0 q3 λsd0=>?_
  walk_at "x1"
  refine Jt (Or.inl (by decide)) ?_
  walk_at "x1"
  generalize sd0+7 * (i:Int)=sd;refine Gu ?_
  walk_at "x1"
  refine ⟨_,Fg (by omega),Cg 0 L,λj acc h'=>(∃ ss:List Sp,acc=ss.map spD/\ss.length=j/\∀ s∈ss,Gs ⟨room,l0,l1,[],hs⟩ L s)/\Ext [] q3 h',by rw [Dv];omega,⟨⟨[],rfl,rfl,λ_ z=>absurd z (by simp)⟩,Ext.refl⟩,λ_ _ _ _=>⟨rfl,rfl⟩,?_,?_,?_⟩
  ·rintro j acc h' ⟨⟨ss,rfl,ls,_⟩,_⟩;rw [ak,ls];exact bh _
  ·rintro j d2 acc h' ed2 ⟨⟨ss,rfl,ls,hss⟩,xh'⟩;obtain ⟨hj,rfl⟩:=Nf ed2;refine Ar ?_;show wD _ [none,some (.int j),some (.ref q2.length),some (.ref jc),some (.int L),some (.int sd)] h' _;refine Aj ⟨λ_=>?_,λe=>by cases e⟩
   walk_at "x1"
   refine Aia (xh'.old _ _ (by simp) gv3) (by rw [lv];exact hj) ?_
   walk_at "x1"
   refine nG (p:=⟨room,l0,l1,[],hs⟩) (k+1) jc L R _ _ (by omega) hR1 (by omega) (xh'.old _ _ (by simp) gc3) λs h2 sg x2=>?_
   refine ⟨⟨ss++[s],by rw [ji];rfl,by rw [dg,ls];rfl,λz hz=>?_⟩,xh'.trans x2⟩;rcases jm.mp hz with hz|hz
   ·exact hss z hz
   ·rw [ao.mp hz];exact sg
  rintro acc q4 ⟨⟨ss,rfl,ls,hss⟩,y4⟩;rw [Dv] at ls;have gs5:(q4++[MO.lst (ss.map spD)])[h7.length]?=some (.lst (S.map rlD)):=(Ext.more (W:=[])).old _ _ (by simp) (y4.old _ _ (by simp) gs3)
  walk_at "x1"
  refine ⟨ty_list gs5,?_⟩
  walk_at "x1"
  refine Ck (Dh _ _) ?_
  walk_at "x1"
  refine Hw gs5 (by rw [ak];omega) ?_
  walk_at "x1"
  refine ⟨yh.trans ((y4.trans Ext.more).weak.trans (Ext.sub (by simp) Ext.set)),?_,⟨S++[ss],by rw [dg,sl];rfl,λz hz=>?_,by rw [Ip gs5,ji];rfl⟩,_,_,_,_,_,rfl⟩
  ·obtain ⟨a1,a2,a3,e⟩:=t3.ext (y4.trans (Ext.more (g:=[MO.lst (ss.map spD)]))) (by simp);exact ⟨a1,a2,a3,by rw [iy (by omega)];exact e⟩
  ·rcases jm.mp hz with hz|hz
   ·exact so z hz
   ·rw [ao.mp hz,ls];exact ⟨by omega,hss⟩
 ·rintro l h ⟨xh,sh,⟨S,sl,so,gs⟩,x4,x9,x10,x11,x12,rfl⟩;rw [Dv] at sl
  walk_at "x1"
  refine Ck (Eh gs) ?_
  walk_at "x1"
  have e:D.tup [.int room,.tup [.int l0,.int l1],.tup (S.map rlD),.tup (hs.map Ae)]=(⟨room,l0,l1,S.map λl=>l.map spD,hs⟩:Pg).d:=by
   unfold Pg.d;rw [kh];rfl
  rw [e];refine f ⟨room,l0,l1,S.map λl=>l.map spD,hs⟩ S h ⟨⟨by show 1<=hs.length;omega,by show hs.length<=6;omega,λr hr'=>?_,by show room<=10;omega⟩,rfl,λr l el s hs'=>Alh rfl ((so l (gn el)).2 s hs').1,λl hl=>by have:=(so l hl).1;omega⟩ (λl hl s hs'=>Acx rfl ((so l hl).2 s hs').2) ⟨?_,λi o _ e=>?_⟩
  ·show r < (S.map _).length;rw [ak,sl];exact hr r hr'
  ·exact dz nx.len (dz (by simp) xh.len)
  ·have l9:=nx.len;have li:=Dr e;exact xh.old i o (by intro z;simp only [gb,lu,or_false] at z;omega) ((Ext.more (W:=[])).old _ _ (by simp) (nx.old i o (by simp) e))
end
theorem Qi {n:Nat}{ds:List D}(h:∀ x∈ds,dat n x=true):dat (n+1) (.tup ds)=true:=M9 h
theorem G3 {α:Type}{n:Nat}{l:List α}{F:α->D}(h:∀ x∈l,dat n (F x)=true):dat (n+1) (.tup (l.map F))=true:=M9 λx hx=>by
 obtain ⟨y,hy,rfl⟩:=di.mp hx;exact h y hy
theorem Aiq (q:Pt):dat 58 q.d=true:=by kernel_rfl
theorem Air (l:Lt):dat 56 (ltD l)=true:=by kernel_rfl
theorem Ais (l:List Lt):dat 57 (lsD l)=true:=G3 λx _=>Air x
theorem Acy (l:List (List Lt)):dat 58 (Ks l)=true:=G3 λx _=>Ais x
theorem Ait (w:Wd):dat 59 (.tup (w.ps.map Pt.d))=true:=G3 λx _=>Aiq x
theorem Aiu (w:Wd):dat 59 (.tup (w.rs.map Ks))=true:=G3 λx _=>Acy x
theorem Aiv (w:Wd):dat 59 (.tup [.int w.x,.int w.y])=true:=by kernel_rfl
theorem yL (w:Wd):dat 60 w.d=true:=Qi λx hx=>by
 simp only [gb,lu,or_false] at hx;rcases hx with rfl|rfl|rfl
 ·exact Ait w
 ·exact Aiu w
 ·exact Aiv w
theorem eq_self (mh:MH) {d:D}(h:dat 60 d=true):eqB mh d d=some true:=by
 obtain ⟨a,ea,la⟩:=V5 mh 60 d h;unfold eqB;rw [ea];exact congrArg some (SeqAt.eqv_refl a la)
noncomputable def chP:D->PyData
 | .int i=>.int i
 | .tup ds=>.tuple (ds.map λd=>match d with | .int i=>.int i | _=>.none)
 | _=>.none
theorem Zu (xs:List Int):chP (.tup (xs.map D.int))=.tuple (xs.map xq):=by
 show PyData.tuple ((xs.map D.int).map _)=_;rw [kh];rfl
theorem Aiw {c:D}(h:Chc c) (mh:MH) (n:Nat):py mh (n+1) c=some (chP c):=by
 rcases h with ⟨i,rfl⟩|⟨xs,_,rfl⟩
 ·rfl
 ·rw [Zu];show (match Bx (py mh n) (xs.map D.int) with | some ys=>some (PyData.tuple ys) | none=>none)=_;rw [Hv]
section
variable {mh:MH}{P:D->MH->Prop}{p:Pg}{w:Wd}{S:List (List Sp)}{q:List Nat}
theorem doP {c:D}(cf:Chc c) (h:Nat) (n:Nat):py mh (n+2) (doD h c)=some (.tuple [.str "do",.int h,chP c]):=by
 show (match Bx (py mh (n+1)) [.str "do",.int h,c] with | some ys=>some (PyData.tuple ys) | none=>none)=_
 have e0:py mh (n+1) (.str "do")=some (.str "do"):=by
  show (if jq "do"=true then some (HF "do") else none)=_;rw [if_pos (by decide +kernel)]
 have e1:py mh (n+1) (.int h)=some (.int h):=rfl;simp only [Bx,e0,e1,Aiw cf mh n]
theorem cV {i:D}{k:PyData}(e:kD i=some k):toD k=i/\∃ ds,i=.tup ds:=by
 unfold kD at e;split at e
 ·rename_i ks e1;split at e
  ·rename_i c;cases e;have:=bD 8 i _ e1 c;exact ⟨this,_,by rw [← this,toD]⟩
  ·cases e
 ·cases e
theorem Ali {c:D}(h:Chc c):kCl (chP c)=true:=by
 rcases h with ⟨i,rfl⟩|⟨xs,_,rfl⟩
 ·simp [chP,kCl]
 ·rw [Zu,kCl];rename_i hl
  clear hl
  induction xs with
  | nil=>simp [Dl]
  | cons a r ih=>rw [iu,Dl,ih];simp [kCl]
theorem Alj (wo:w.ok p) {m:D}(h:Mv p S w m):∃ k,kD m=some k:=by
 rcases h with ⟨h,c,hh,hc,rfl⟩|⟨s,t,_,_,_,_,rfl⟩|⟨h,_,_,_,rfl⟩
 ·obtain ⟨_,_,_,cf⟩:=Ja wo hh hc
  refine ⟨.tuple [.str "do",.int h,chP c],?_⟩;unfold kD;rw [doP (mh:=[]) cf h 6];dsimp only;rw [if_pos (by simp [kCl,Dl,Ali cf])]
 ·have e:py [] 8 (loD s t)=some (.tuple [.str "lose",.int s,.int t]):=by kernel_rfl
  refine ⟨.tuple [.str "lose",.int s,.int t],?_⟩;unfold kD;rw [e];dsimp only;rw [if_pos (by simp [kCl,Dl])]
 ·have e:py [] 8 (faD h)=some (.tuple [.str "fall",.int h]):=by kernel_rfl
  refine ⟨.tuple [.str "fall",.int h],?_⟩;unfold kD;rw [e];dsimp only;rw [if_pos (by simp [kCl,Dl])]
noncomputable def kyM (m:D):PyData:=(kD m).getD .none
theorem iZ (wo:w.ok p) {m:D}(h:Mv p S w m):kD m=some (kyM m):=by
 obtain ⟨k,e⟩:=Alj wo h;unfold kyM;rw [e];rfl
theorem Aix (wo:w.ok p) {m n:D}(hm:Mv p S w m) (hn:Mv p S w n) (e:kyM m=kyM n):m=n:=by
 rw [← (cV (iZ wo hm)).1,e,(cV (iZ wo hn)).1]
theorem nJ {l:List (PyData×D)}{k:PyData}(h:∀ e∈l,e.1≠k):Hg l k=none:=by
 induction l with
 | nil=>rfl
 | cons a r ih=>rw [Nr,if_neg (h a jb)];exact ih λe he=>h e (iw _ he)
theorem yM {l:List (PyData×D)}(nd:(l.map (·.1)).Nodup) {e:PyData×D}(he:e∈l):Hg l e.1=some e.2:=by
 induction l with
 | nil=>cases he
 | cons a r ih =>
  rw [iu,pq] at nd;rw [Nr];rcases gb.mp he with rfl|he
  ·rw [if_pos rfl]
  ·rw [if_neg λz=>nd.1 (di.mpr ⟨e,he,z.symm⟩)];exact ih nd.2 he
noncomputable def Dst (h:MH) (j:Nat) (l:List (PyData×D)):Prop:=(l=[]/\h[j]?=some (.dct []))\/h[j]?=some (.dtk l)
theorem Dst.ext {h h':MH}{j:Nat}{l:List (PyData×D)}(d:Dst h j l) (x:Ext [] h h'):Dst h' j l:=by
 rcases d with ⟨e,d⟩|d
 ·exact .inl ⟨e,x.old _ _ (by simp) d⟩
 ·exact .inr (x.old _ _ (by simp) d)
theorem jA {j:Nat}{l:List (PyData×D)}(d:Dst mh j l) (h:P (.int l.length) mh):wV (Dd [.ref j] mh) P:=by
 refine ⟨_,_,?_,h⟩;rcases d with ⟨rfl,d⟩|d
 ·simp only [Dd,d];rfl
 ·simp only [Dd,d]
theorem Acz {loc:DL.Loc}{mo mi:DM D}{v:D}{R:DL.Loc->MH->Prop}(h:wD mo loc mh λo h1=>wD mi loc h1 λi h2=>∃ n k l,o=.ref n/\kD i=some k/\Dst h2 n l/\l.length < 1000000/\(∀ e∈l,e.1≠k)/\R loc (h2.set n (.dtk (l++[(k,v)])))):wG (Ht mo mi v loc mh) R:=by
 obtain ⟨o,h1,e1,i,h2,e2,n,k,l,rfl,ek,d,hl,hk,r⟩:=h;refine ⟨loc,_,?_,r⟩;obtain ⟨_,ds,rfl⟩:=cV ek;have kn:bB (.tup ds)=none:=rfl;rcases d with ⟨rfl,d⟩|d
 ·have e6:Jp (.ref n) (.tup ds) v h2=none:=by unfold Jp;simp only [d]
  unfold Ht Rg;rw [e1];dsimp only;rw [e2];dsimp only;rw [e6];dsimp only;simp only [Rf,d,kn,ek];rfl
 ·have e6:Jp (.ref n) (.tup ds) v h2=none:=by unfold Jp;simp only [d]
  unfold Ht Rg;rw [e1];dsimp only;rw [e2];dsimp only;rw [e6];dsimp only;have ep:lU l k v=l++[(k,v)]:=by
   unfold lU;rw [nJ hk,if_neg (by decide)]
  simp only [Rf,d,ek,if_pos hl,ep]
theorem cW (g:Prg p S) (wo:w.ok p):(mvL p S w).length<=7000:=by
 have h6:=g.po.h6;unfold mvL;rw [dg,dg];have a:(doL p S w).length<=6 * 1000:=by
  unfold doL;refine dz (Iz (b:=1000) _ λh hh=>?_) ?_
  ·refine dz (Iz (b:=1) _ λc _=>bh _) ?_;have:=xK g wo (ir.mp hh);omega
  ·rw [ig];exact Nat.mul_le_mul_right _ h6
 have b:(Ku p w).length<=36:=by
  unfold Ku;split
  ·exact jy _
  ·exact Wf g.po
 have c:(Kv p w).length<=6:=by
  unfold Kv;split
  ·exact jy _
  ·rw [ak];refine dz (jx _ _) ?_;rw [ig];exact h6
 omega
end
local macro_rules | `(tactic| walk_at "x5") => `(tactic| repeat (first | walk_at "s" | with_reducible refine Ke ?_ | with_reducible refine Ir (by simp) ?_))
section
variable {mh:MH}{P:D->MH->Prop}{p:Pg}{w:Wd}{S:List (List Sp)}{q:List Nat}
structure Ends (p:Pg) (S:List (List Sp)) (w:Wd) (E:List (D×Wd)):Prop where
 ms:E.map (·.1)=mvL p S w
 nx:∀ e∈E,Nx p S w e.1 e.2/\e.2.ok p
noncomputable def enD (e:D×Wd):D:=.tup [e.1,e.2.d]
theorem Ends.mv {E:List (D×Wd)}(h:Ends p S w E) {e:D×Wd}(he:e∈E):Mv p S w e.1:=(h.nx e he).1.mv
theorem Ends.nd {E:List (D×Wd)}(h:Ends p S w E) (wo:w.ok p):(E.map (·.1)).Nodup:=by rw [h.ms];exact cU wo
noncomputable def ent (q:List Nat) (e:D×Wd):PyData×D:=(kyM (rnM q e.1),(e.2.rn q).d)
theorem Aiy (g:Prg p S) (og:∀ l∈S,∀ s∈l,Em p s) (hq:keeps p.plays q) (wo:w.ok p) {E:List (D×Wd)}(h:Ends p S w E):((E.map (ent q)).map (·.1)).Nodup:=by
 have e:(E.map (ent q)).map (·.1)=(E.map (·.1)).map λm=>kyM (rnM q m):=by rw [kh,kh];rfl
 rw [e];refine Dj (h.nd wo) λa ha b hb z=>?_
 rw [h.ms] at ha hb;have ma:=O1 ha;have mb:=O1 hb;exact iU hq.1 wo ma mb (Aix (Wd.rn_ok hq wo) (Zk g og hq wo ma) (Zk g og hq wo mb) z)
theorem nM (k je:Nat) (g:Prg p S) (og:∀ l∈S,∀ s∈l,Em p s) (hq:keeps p.plays q) (wo:w.ok p) {E:List (D×Wd)}(hE:Ends p S w E) (ge:mh[je]?=some (.lst (E.map enD))) (f:∀ h',Ext [] mh h'->P (.bl true) h'):wV (Ac (Gk (k+9)) fuel uH [p.d,w.d,.ref je,Bk q] mh) P:=by
 have hj:=Dr ge;have r1:=Wd.rn_ok hq wo;have le:E.length=(mvL p S w).length:=by rw [← hE.ms,ak]
 have l7:=cW g wo;have entn:=Aiy g og hq wo hE;refine Af (Acg (k+8)) gA.1 gA.2 rfl ?_;show wS (Ah8 (k+8)) [some p.d,some w.d,some (.ref je),some (Bk q),none,none,none,none,none] mh _;unfold Ah8
 walk_at "x5"
 refine J2 (k+2) g.po hq.1 wo λh1 x1=>?_
 have ge1:=x1.old _ _ (by simp) ge;refine Ar (Ag (Am (Ci (Ab1 ?_))));generalize hd:h1.length=jd;have xd:Ext [] h1 (h1++[MO.dct []]):=Ext.more;have gd:Dst (h1++[MO.dct []]) jd []:=.inl ⟨rfl,by rw [← hd];exact Ak⟩;have ged:=xd.old _ _ (by simp) ge1;have lje:je < jd:=by rw [← hd];exact Dr ge1
 generalize h1++[MO.dct []]=h2 at xd gd ged ⊢
 walk_at "x5"
 show wS _ [some p.d,some w.d,some (.ref je),some (Bk q),some (w.rn q).d,some (.ref jd),none,none,none] h2 _;refine Gm ?_
 walk_at "x5"
 refine ⟨_,src_list ged,E.map enD,λi l h=>(∃ x6 x7,l=[some p.d,some w.d,some (.ref je),some (Bk q),some (w.rn q).d,some (.ref jd),x6,x7,none])/\Dst h jd ((E.take i).map (ent q))/\Ext [jd] h2 h,⟨⟨_,_,rfl⟩,gd,Ext.refl⟩,?_,?_,?_⟩
 ·rintro i l h ⟨_,_,xh⟩;exact Dk (xh.old _ _ (by intro z;have:=ao.mp z;omega) ged)
 ·rintro i d l h ed ⟨⟨x6,x7,rfl⟩,dh,xh⟩;rw [cj] at ed;obtain ⟨e,ee,rfl⟩:=su.mp ed;have hi:=(cg.mp ee).1;have he:=gn ee;obtain ⟨nx,eo⟩:=hE.nx e he;have mv:=nx.mv;refine V0 (ds:=[e.1,e.2.d]) rfl ?_;show wS _ [some p.d,some w.d,some (.ref je),some (Bk q),some (w.rn q).d,some (.ref jd),some e.1,some e.2.d,none] h _;refine Am (Ci ?_)
  walk_at "x5"
  refine J2 (k+2) g.po hq.1 eo λh3 x3=>?_
  refine Acz ?_
  walk_at "x5"
  refine nA (k+3) g.po hq.1 wo mv λh4 x4=>?_
  have et:E.take (i+1)=E.take i++[e]:=by rw [ql,ee];rfl
  have dh4:=dh.ext (x3.trans x4);have nd:(((E.take (i+1)).map (ent q)).map (·.1)).Nodup:=by
   refine List.Sublist.nodup ?_ entn;exact ((JZ _ _).map _).map _
  refine ⟨_,_,_,rfl,iZ r1 (Zk g og hq wo mv),dh4,by rw [ak,qd];omega,λz hz ez=>?_,?_⟩
  ·rw [et,ji,ji,qj] at nd;exact nd.2.2 _ (di.mpr ⟨z,hz,rfl⟩) _ (ao.mpr rfl) ez
  ·have gx:∃ o,h4[jd]?=some o:=by
    rcases dh4 with ⟨_,z⟩ | z <;> exact ⟨_,z⟩
   obtain ⟨o,gx⟩:=gx
   walk_at "x5"
   refine ⟨⟨_,_,rfl⟩,.inr ?_,(xh.trans (x3.trans x4).weak).trans Ext.set⟩;rw [Ip gx,et,ji];rfl
 ·rintro l h ⟨⟨x6,x7,rfl⟩,dh,xh⟩;rw [ak,rz] at dh;have geh:=xh.old _ _ (by intro z;have:=ao.mp z;omega) ged
  walk_at "x5"
  refine Us (k+3) g r1 λjf h5 x5 gf=>?_
  have gf:h5[jf]?=some (.lst (mvL p S (w.rn q))):=gf;have d5:=dh.ext x5;have ge5:=x5.old _ _ (by simp) geh
  walk_at "x5"
  refine Bj (by intro z z';cases z') (Eh gf) ?_
  walk_at "x5"
  refine jA d5 ?_;have ln:((mvL p S (w.rn q)).length:Int)=((E.map (ent q)).length:Nat):=by rw [iV g og hq wo,ak,le]
  have ln2:(((E.map (ent q)).length:Nat):Int)=((E.map enD).length:Nat):=by rw [ak,ak]
  refine cA ⟨_,rfl,λe=>?_,λ_=>?_⟩
  ·rw [ln] at e;simp at e
  walk_at "x5"
  refine jA d5 ?_
  walk_at "x5"
  refine Bj (by intro z z';cases z') (Eh ge5) ?_;refine cA ⟨_,rfl,λe=>?_,λ_=>?_⟩
  ·rw [ln2] at e;simp at e
  refine Bh (Ag (Am (Fp (Ca (Ax ?_)))));refine Cm (mvL p S (w.rn q)) id (λ_=>.bl true) (by rw [iV g og hq wo];omega) ?_ (λm h' R hm ex hR=>?_) λh6 x6=>?_
  ·walk_at "x5"
   exact ⟨_,src_list gf,Ext.refl,λz xz=>by
    have:=Dk (xz.old _ _ (by simp) gf)
    exact ⟨this.1,by rw [this.2,WR]⟩⟩
  ·refine Ar ⟨rfl,?_⟩;show wD _ [none,some m,some (.ref jd),some p.d,some (w.rn q).d] h' _;have mr:=O1 hm;obtain ⟨m',mw,em⟩:=iR g og hq wo mr;obtain ⟨e,he,e1⟩:=di.mp (show m'∈E.map (·.1) by rw [hE.ms];exact yG mw);have vt:Hg (E.map (ent q)) (kyM m)=some (e.2.rn q).d:=by
    have:=yM entn (di.mpr ⟨e,he,rfl⟩);have e3:(ent q e).1=kyM m:=by show kyM (rnM q e.1)=_;rw [e1,em]
    rw [e3] at this;exact this
   have d6:h'[jd]?=some (.dtk (E.map (ent q))):=by
    rcases d5.ext ex with ⟨z,_⟩|z
    ·rw [z] at vt;cases vt
    ·exact z
   have ky:=iZ r1 mr;refine fK ?_
   walk_at "x5"
   refine Agl d6 ky ?_;rw [vt];refine ⟨_,rfl,λ_=>?_,λz=>by cases z⟩
   walk_at "x5"
   refine iY k g r1 mr λw2 h7 o7 n7 x7=>?_
   walk_at "x5"
   refine Ab3 (x7.old _ _ (by simp) d6) ky vt ?_;have nw:=(hE.nx e he).1.rn g og hq wo;rw [e1,em] at nw;obtain rfl:=nw.det n7;exact Gv (eq_self _ (yL _)) (hR _ x7)
  ·walk_at "x5"
   refine Ut (bs:=(mvL p S (w.rn q)).map λ_=>true) (by rw [Ak,kh];rfl) ?_;have e:((mvL p S (w.rn q)).map λ_=>true).all id=true:=by rw [PJ];exact zm.mpr λ_ _=>rfl
   rw [e];have xn:Ext [] mh h:=⟨dz (x1.trans xd).len xh.len,λi o _ e=>xh.old i o (by intro z;have:=ao.mp z;have:=Dr (x1.old i o (by simp) e);omega) ((x1.trans xd).old i o (by simp) e)⟩;exact f _ (xn.trans (x5.trans (x6.trans Ext.more)))
end
theorem Zv {f:D->Option PyData}:∀ {ds:List D},(∀ d∈ds,∃ y,f d=some y)->∃ ys,Bx f ds=some ys/\ys.length=ds.length
 | [],_=>⟨[],rfl,rfl⟩
 | d::r,h=>by
  obtain ⟨y,e⟩:=h d (.head _);obtain ⟨ys,e2,e3⟩:=Zv λx hx=>h x (.tail _ hx)
  exact ⟨y::ys,by simp only [Bx,e,e2],by simp [e3]⟩
theorem Ac0 {a b:Nat}{ds:List D}{mh:MH}(e1:mh[a]?=some (.lst ds)) (e2:mh[b]?=some (.lst [])) (hd:∀ d∈ds,∃ y,py mh 59 d=some y):eqB mh (.ref a) (.ref b)=some ds.isEmpty:=by
 obtain ⟨ys,ey,el⟩:=Zv hd;have q1:py mh 60 (.ref a)=some (.list ys):=by
  show (match mh[a]? with | some (.lst o)=>(match Bx (py mh 59) o with | some xs=>some (PyData.list xs) | none=>none) | _=>none)=_;rw [e1];dsimp only;rw [ey]
 have q2:py mh 60 (.ref b)=some (.list []):=by
  show (match mh[b]? with | some (.lst o)=>(match Bx (py mh 59) o with | some xs=>some (PyData.list xs) | none=>none) | _=>none)=_;rw [e2];rfl
 unfold eqB;rw [q1,q2];dsimp only;cases ds with
 | nil=>cases ys with
  | nil=>rfl
  | cons _ _=>cases el
 | cons _ _=>cases ys with
  | nil=>cases el
  | cons _ _=>rfl
theorem yN {mh:MH}{n:Nat}{d:D}(h:dat n d=true):∃ y,py mh n d=some y:=by
 obtain ⟨a,ea,_⟩:=V5 mh n d h;exact ⟨a,ea⟩
local macro_rules | `(tactic| walk_at "x6") => `(tactic| repeat (first | walk_at "s" | with_reducible refine Ke ?_ | with_reducible refine Ir (by simp) ?_ | with_reducible refine Hl ?_ | with_reducible refine Gp ?_ | with_reducible refine Ds ?_ | with_reducible refine Iv ?_ | with_reducible refine N6 ?_))
section
variable {mh:MH}{P:D->MH->Prop}{p:Pg}{w:Wd}{S:List (List Sp)}{q:List Nat}
noncomputable def pt0:Pt:=⟨0,0,0,0,-1,-1,-1,0,0,false⟩
noncomputable def Sw (p:Pg):Wd:=⟨fj p.H pt0,fj p.H (fj p.H []),p.l0,p.l1⟩
theorem cX (po:p.ok):(Sw p).ok p:=by
 have h1:1<=p.H:=po.h1;refine ⟨yd,λi r q er eq=>?_,yd,λv hv=>?_,bh _,bh _⟩
 ·have hq:q∈fj p.H pt0:=gn eq;rw [(FP.mp hq).2];exact Y6 h1 (by decide) (by omega)
 ·rw [(FP.mp hv).2];exact ⟨yd,λl hl=>by rw [(FP.mp hl).2];exact ⟨jy _,λz hz=>absurd hz (by simp)⟩⟩
theorem Alk:(Sw p).d=.tup [.tup (fj p.H pt0.d),.tup (fj p.H (.tup (fj p.H (.tup [])))),.tup [.int p.l0,.int p.l1]]:=by
 unfold Sw Wd.d;dsimp only;rw [FN,FN];unfold Ks;rw [FN];rfl
theorem nO (k:Nat) (po:p.ok) (f:P (Sw p).d mh):wV (Ac (Gk (k+2)) fuel f50 [p.d] mh) P:=by
 have h1:1<=p.H:=po.h1;have h6:p.H<=6:=po.h6;refine Af (Ag3 (k+1)) uW.1 uW.2 rfl ?_;show wS (b50 (k+1)) [some p.d,none] mh _;unfold b50 Pg.d
 walk_at "x6"
 refine Bj (ds:=p.plays.map Ae) (by intro z z';cases z') rfl ?_;rw [ak]
 walk_at "x6"
 refine Ay (gP k 0 mh) ?_
 walk_at "x6"
 refine P0 h1 (by show p.H<=1000;omega) ?_
 walk_at "x6"
 refine P0 h1 (by show p.H<=1000;omega) ?_
 walk_at "x6"
 refine P0 h1 (by show p.H<=1000;omega) ?_
 walk_at "x6"
 rw [Alk] at f;exact f
theorem yO {i:Nat}(hi:i < p.plays.length):(Sw p).pt i=pt0:=by
 show ((fj p.plays.length pt0)[i]?).getD p0=pt0;rw [um,if_pos hi];rfl
theorem Zw {s t:Nat}(hs:s < p.plays.length) (ht:t < p.plays.length):(Sw p).cell s t=[]:=by
 show (((fj p.plays.length (fj p.plays.length ([]:List Lt)))[t]?).getD [])[s]?.getD []=[];rw [um,if_pos ht];show ((fj p.plays.length ([]:List Lt))[s]?).getD []=[];rw [um,if_pos hs];rfl
theorem Aiz (po:p.ok) (hq:keeps p.plays q):(Sw p).rn q=Sw p:=by
 have fo:=cX po;refine Sg hq.1 (Wd.rn_ok hq fo) fo (λi hi=>?_) rfl rfl λs t hs ht=>?_
 ·rw [Wd.rn_pt hq.1 hi,yO hi,yO (Bf hq.1 hi)];unfold pt0 Pt.rn;simp only [Fd,Ia]
 ·rw [Wd.rn_cell hq.1 hs ht,Zw hs ht,Zw (Bf hq.1 hs) (Bf hq.1 ht)];rfl
theorem Ac1 (w:Wd):dat 58 w.d=true:=by
 have pd:∀ q:Pt,dat 56 q.d=true:=λq=>by kernel_rfl
 have ld:∀ l:Lt,dat 54 (ltD l)=true:=λl=>by kernel_rfl
 refine Qi λx hx=>?_
 simp only [gb,lu,or_false] at hx;rcases hx with rfl|rfl|rfl
 ·exact G3 λx _=>pd x
 ·exact G3 λx _=>G3 λy _=>G3 λz _=>ld z
 ·kernel_rfl
theorem Ai0 {E:List (D×Wd)}(wo:w.ok p) (h:Ends p S w E):∀ d∈E.map enD,∃ y,py mh 59 d=some y:=λd hd=>by
 obtain ⟨e,he,rfl⟩:=di.mp hd;refine yN (n:=59) (Qi λx hx=>?_);simp only [gb,lu,or_false] at hx;rcases hx with rfl|rfl
 ·rcases h.mv he with ⟨a,c,hh,hc,e1⟩|⟨s,t,_,_,_,_,e1⟩|⟨a,_,_,_,e1⟩
  ·obtain ⟨_,_,_,cf⟩:=Ja wo hh hc;rw [e1];refine Qi λx hx=>?_
   simp only [gb,lu,or_false] at hx;rcases hx with rfl|rfl|rfl
   ·kernel_rfl
   ·exact gQ _ _
   ·exact gR (n:=56) cf
  ·rw [e1];kernel_rfl
  ·rw [e1];kernel_rfl
 ·exact Ac1 _
end
noncomputable def depth:Nat:=24
theorem Ads (b:Bool) (mh:MH):intD [.bl b] mh=some (.int (if b=true then 1 else 0),mh):=by cases b <;> rfl
theorem Ai1 {n:Nat}{ds:List D}{lo hi st:Int}{mh:MH}{P:D->MH->Prop}(e:mh[n]?=some (.lst ds)) (h0:st≠0) (h:P (.ref mh.length) (mh++[.lst (Gj ds lo hi st)])):wV (bI (.ref n) (.int lo) (.int hi) (.int st) mh) P:=⟨_,_,by simp only [bI,e,if_pos h0],h⟩
theorem Ai2 {ma ml mu mt:DM D}{loc:DL.Loc}{mh:MH}{P:D->MH->Prop}(h:wD ma loc mh λx h1=>wD ml loc h1 λl h2=>wD mu loc h2 λu h3=>wD mt loc h3 λt h4=>wV (bI x l u t h4) P):wD (Abi ma ml mu mt) loc mh P :=
 Bl (Az h λ_ _ h=>Bl (Az h λ_ _ h=>Bl (Az h λ_ _ h=>Bl (Az h λ_ _ h=>h))))
section
variable {mh:MH}{P:D->MH->Prop}{p:Pg}{w:Wd}{S:List (List Sp)}
theorem U3 (k:Nat) (po:p.ok) (h:∀ m mh',Ext [] mh mh'->mh'[m]?=some (.lst ((gen p.plays p.plays.length).map Bk))->P (.ref m) mh'):wV (Ac (Gk (k+2)) fuel f45 [p.d] mh) P :=
 xT k _ _ _ p.plays mh po.h6 λm h' x _ e=>h m h' x e
theorem yP {k:Nat}(g:Prg p S) (wo:w.ok p) {loc:DL.Loc}(l1:loc[1]?=some (some p.d)) (l2:loc[2]?=some (some w.d)) (f:∀ (E:List (D×Wd)) h',Ends p S w E->Ext [] mh h'->P (.ref h'.length) (h'++[.lst (E.map enD)])):wD (Bp (Cq (Ad (Ac (Gk (k+8)) fuel f89) (Aa (vr 1) (Aa (vr 2) (Zr []))))) [none,none,some 1,some 2] (Ai 1) (Zr true) (Bs (Aa (vr 1) (Aa (Ad (Ac (Gk (k+8)) fuel f92) (Aa (vr 2) (Aa (vr 3) (Aa (vr 1) (Zr []))))) (Zr []))))) loc mh P:=by
 have l7:=cW g wo;refine Gu (Im (Ca (Ax (Be l1 (Ax (Be l2 (Aj ?_)))))));refine Us (k+3) g wo λj h1 x1 gj=>?_
 have gj:h1[j]?=some (.lst (mvL p S w)):=gj;refine ⟨_,src_list gj,mvL p S w,λi acc h=>(∃ E:List (D×Wd),acc=E.map enD/\E.length=i/\E.map (·.1)=(mvL p S w).take i/\∀ e∈E,Nx p S w e.1 e.2/\e.2.ok p)/\Ext [] h1 h,by omega,⟨⟨[],rfl,rfl,rfl,λ_ z=>absurd z (by simp)⟩,Ext.refl⟩,?_,?_,?_,?_⟩
 ·rintro i acc h ⟨_,xh⟩;exact Dk (xh.old _ _ (by simp) gj)
 ·rintro i acc h ⟨⟨E,rfl,le,_⟩,_⟩;rw [ak,le];exact bh _
 ·rintro i m acc h em ⟨⟨E,rfl,le,me,ne⟩,xh⟩;have mv:=O1 (gn em);have ec:Nk [none,none,some 1,some 2] loc=[none,none,some p.d,some w.d]:=by
   unfold Nk;simp only [iu,MF,l1,l2]
  rw [ec];refine Ar ?_;show wD _ [none,some m,some p.d,some w.d] h _;refine Aj ⟨λ_=>?_,λe=>by cases e⟩
  walk_at "x1"
  refine iY k g wo mv λw' h2 o n x2=>?_
  walk_at "x1"
  refine ⟨⟨E++[(m,w')],by rw [ji];rfl,by rw [dg,le];rfl,by rw [ji,me,ql,em];rfl,λe he=>?_⟩,xh.trans x2⟩;rcases jm.mp he with he|he
  ·exact ne e he
  ·rw [ao.mp he];exact ⟨n,o⟩
 ·rintro acc h ⟨⟨E,rfl,le,me,ne⟩,xh⟩;exact f E h ⟨by rw [me,rz],ne⟩ (x1.trans xh)
end
theorem Ai3 (ns:List Int):wV (Ac (Gk (23+1)) fuel mQ [.rol (ns.map D.int)] []) λd _=>d=.bl true:=by
 refine Af (Ach 23) gB.1 gB.2 rfl ?_;show wS (Ah9 23) [some (.rol (ns.map D.int)),none,none,none,none,none,none,none] [] _;unfold Ah9
 walk_at "x1"
 refine nH 17 ns λp S h1 g og x1=>?_
 have h6:p.plays.length<=6:=g.po.h6
 walk_at "x1"
 refine nO 21 g.po ?_
 walk_at "x1"
 refine Fj 22 ns 1 h1 λc1=>?_
 walk_at "x1"
 refine Fj 22 ns 1 h1 λc2=>?_
 walk_at "x1"
 refine Fj 22 ns 1 h1 λc3=>?_
 walk_at "x1"
 generalize hn:h1.length=n;have gst:St3 (h1++[MO.lst [D.int (c1.fdiv 2),D.int (c2.fmod 2),D.int c3]]) n:=⟨_,_,_,by rw [← hn];exact Ak⟩;generalize h1++[MO.lst [D.int (c1.fdiv 2),D.int (c2.fmod 2),D.int c3]]=h2 at gst ⊢;show wS _ [some (.rol (ns.map D.int)),some p.d,some (Sw p).d,some (.ref n),none,none,none,none] h2 _;refine Gm ?_
 walk_at "x1"
 refine U3 21 g.po λm h3 x3 g3=>?_
 refine ⟨_,src_list g3,(gen p.plays p.plays.length).map Bk,λi l h=>(∃ x4,l=[some (.rol (ns.map D.int)),some p.d,some (Sw p).d,some (.ref n),x4,none,none,none])/\Ext [] h3 h,⟨⟨_,rfl⟩,Ext.refl⟩,?_,?_,?_⟩
 ·rintro i l h ⟨_,xh⟩;exact Dk (xh.old _ _ (by simp) g3)
 ·rintro i d l h ed ⟨⟨x4,rfl⟩,xh⟩;obtain ⟨q,hq,rfl⟩:=di.mp (gn ed);have hq:=Uz.mp hq;refine Ar ?_;show wS _ [some (.rol (ns.map D.int)),some p.d,some (Sw p).d,some (.ref n),some (Bk q),none,none,none] h _
  walk_at "x1"
  refine J2 17 g.po hq.1 (cX g.po) λh4 x4=>?_
  rw [Aiz g.po hq]
  walk_at "x1"
  refine tR (eq_self _ (yL _)) ⟨_,rfl,Er (Bh (Ag ?_))⟩
  walk_at "x1"
  exact ⟨⟨_,rfl⟩,xh.trans x4⟩
 rintro l h4 ⟨⟨x4,rfl⟩,xh4⟩;have gst4:St3 h4 n:=gst.ext (x3.trans xh4) (by simp)
 walk_at "x1"
 refine U3 21 g.po λjk h5 x5 g5=>?_
 have gst5:=gst4.ext x5 (by simp);have lk:n < h5.length:=by obtain ⟨_,_,_,e⟩:=gst5;exact Dr e
 walk_at "x1"
 refine Gm ?_
 walk_at "x1"
 refine ⟨_,Fg (B:=5) (by decide),Cg 0 5,λi l h=>(∃ (w:Wd) (x4 x6 x7:Option D),w.ok p/\l=[some (.rol (ns.map D.int)),some p.d,some w.d,some (.ref n),x4,some (.ref jk),x6,x7])/\St3 h n/\h[jk]?=some (.lst ((gen p.plays p.plays.length).map Bk)),⟨⟨_,_,_,_,cX g.po,rfl⟩,gst5,g5⟩,λ_ _ _ _=>⟨rfl,rfl⟩,?_,?_⟩
 ·rintro i dd l h ed ⟨⟨w,x4,x6,x7,wo,rfl⟩,sh,gk⟩;obtain ⟨hi,rfl⟩:=Nf ed;have nk:jk≠n:=λz=>by
   obtain ⟨a,b,c,e⟩:=sh;rw [z,e] at gk;injection gk with gk
   injection gk with gk
   cases eg:gen p.plays p.plays.length with
   | nil=>rw [eg] at gk;cases gk
   | cons y ys=>rw [eg] at gk;cases gk
  refine Ar ?_;show wS _ [some (.rol (ns.map D.int)),some p.d,some w.d,some (.ref n),x4,some (.ref jk),some (.int i),x7] h _;refine Am (Ci ?_);refine yP (k:=15) g wo rfl rfl λE q1 hE y1=>?_
  have ge:(q1++[MO.lst (E.map enD)])[q1.length]?=some (.lst (E.map enD)):=Ak;have y2:Ext [] h (q1++[MO.lst (E.map enD)]):=y1.trans Ext.more;have lj:n < q1.length:=by obtain ⟨_,_,_,e⟩:=sh.ext y1 (by simp);exact Dr e
  generalize q1.length=je at ge lj ⊢;generalize q1++[MO.lst (E.map enD)]=h2 at ge y2 ⊢;have gk2:=y2.old _ _ (by simp) gk;have sh2:=sh.ext y2 (by simp);refine Ar (Ag ?_);show wS _ [some (.rol (ns.map D.int)),some p.d,some w.d,some (.ref n),x4,some (.ref jk),some (.int i),some (.ref je)] h2 _;refine Am (Gm (Im (Ai2 ?_)))
  walk_at "x1"
  refine Bj (by intro z z';cases z') (Eh gk2) ?_
  walk_at "x1"
  refine Ay (Ads _ _) ?_
  walk_at "x1"
  obtain ⟨r4,hr4,e4⟩:=cG (i:Int) 4 (by decide);have e4:(i:Int).fmod 4=(r4:Int):=e4;rw [e4];refine Jt (Or.inl (by omega)) ?_
  walk_at "x1"
  refine Bj (by intro z z';cases z') (Eh gk2) ?_
  walk_at "x1"
  refine Bj (by intro z z';cases z') (Eh gk2) ?_
  walk_at "x1"
  refine Ay (Ads _ _) ?_;refine Jt (Or.inl (by decide)) ?_
  walk_at "x1"
  refine Ai1 gk2 (by split <;> decide) ?_;generalize hpk:Gj ((gen p.plays p.plays.length).map Bk) _ _ _=pk;have all:∀ d∈pk,d∈(gen p.plays p.plays.length).map Bk:=λd hd=>by rw [← hpk] at hd;exact lY hd
  clear hpk
  have gp3:(h2++[MO.lst pk])[h2.length]?=some (.lst pk):=Ak;have y3:Ext [] h2 (h2++[MO.lst pk]):=Ext.more;generalize h2++[MO.lst pk]=h3 at gp3 y3 ⊢;refine ⟨_,src_list gp3,pk,λj l h=>(∃ x4,l=[some (.rol (ns.map D.int)),some p.d,some w.d,some (.ref n),x4,some (.ref jk),some (.int i),some (.ref je)])/\Ext [] h3 h,⟨⟨_,rfl⟩,Ext.refl⟩,?_,?_,?_⟩
  ·rintro j l h ⟨_,xh⟩;exact Dk (xh.old _ _ (by simp) gp3)
  ·rintro j d l h ed ⟨⟨x4,rfl⟩,xh⟩;obtain ⟨q,hq,rfl⟩:=di.mp (all d (gn ed));have hq:=Uz.mp hq;refine Ar ?_;show wS _ [some (.rol (ns.map D.int)),some p.d,some w.d,some (.ref n),some (Bk q),some (.ref jk),some (.int i),some (.ref je)] h _
   walk_at "x1"
   refine nM 14 je g og hq wo hE ((y3.trans xh).old _ _ (by simp) ge) λh4 x4=>?_
   walk_at "x1"
   exact ⟨⟨_,rfl⟩,xh.trans x4⟩
  ·rintro l h ⟨⟨x4,rfl⟩,xh⟩;have y4:=y3.trans xh;have ge4:=y4.old _ _ (by simp) ge;have gk4:=y4.old _ _ (by simp) gk2;have sh4:=sh2.ext y4 (by simp)
   walk_at "x1"
   refine Gv (Ac0 ((Ext.more (W:=[])).old _ _ (by simp) ge4) Ak (Ai0 wo hE)) ⟨_,rfl,λe=>?_,λe=>?_⟩
   ·walk_at "x1"
    rfl
   ·have l7:=cW g wo;have le:E.length=(mvL p S w).length:=by rw [← hE.ms,ak]
    have l0:0 < E.length:=by
     cases E with
     | nil=>cases e
     | cons _ _=>exact Nat.succ_pos _
    have ge5:=(Ext.more (W:=[]) (g:=[MO.lst []])).old _ _ (by simp) ge4;have gk5:=(Ext.more (W:=[]) (g:=[MO.lst []])).old _ _ (by simp) gk4;have sh5:=sh4.ext (Ext.more (W:=[]) (g:=[MO.lst []])) (by simp);generalize h++[MO.lst []]=h5 at ge5 gk5 sh5 ⊢
    walk_at "x1"
    refine Bj (by intro z z';cases z') (Eh ge5) ?_;rw [ak]
    walk_at "x1"
    refine Ba 21 n (E.length:Int) h5 sh5 (by omega) (by omega) λr h6 hr z6 _ s6=>?_
    have ge6:=z6.old _ _ (by intro z;have:=ao.mp z;omega) ge5;have gk6:=z6.old _ _ (by intro z;exact nk (ao.mp z)) gk5;refine Mz ge6 (by rw [ak];omega) λd hd=>?_
    obtain ⟨e,he,rfl⟩:=di.mp hd
    walk_at "x1"
    refine Gp (b:=e.2.d) ?_
    walk_at "x1"
    exact ⟨⟨e.2,_,_,_,(hE.nx e he).2,rfl⟩,s6,gk6⟩
 ·rintro l h ⟨⟨w,x4,x6,x7,wo,rfl⟩,sh,gk⟩
  walk_at "x1"
  rfl
theorem main:∀ ns:List Int,ns.length<=63->∃ mh',Ac (GkN Tt depth) fuel mQ [.rol (ns.map D.int)] []=some (.bl true,mh'):=λns _=>by
 obtain ⟨d,h,e,rfl⟩:=Ai3 ns;exact ⟨h,e⟩
end Lw
open PySem PySem.W PyProof.Rows
namespace PySem.W.Fast
def tw14573279053148867276:Unit:=()
def tw3082344558830092423:Unit:=()
def tw7220693893167016163:Unit:=()
def tw8634006249080540139:Unit:=()
def tw2544641714824853144:Unit:=()
def tw12012119173354460054:Unit:=()
def tw15449135754744026078:Unit:=()
def tw9114095383327949631:Unit:=()
def tw4849828689451440915:Unit:=()
def tw8869888465022406199:Unit:=()
def tw12911948684572446730:Unit:=()
def tw11024394582813045765:Unit:=()
def tw8385956639101956667:Unit:=()
def tw17373668600779038225:Unit:=()
def tw17690908938277223423:Unit:=()
def tw9914304739951469850:Unit:=()
def tw2998544383548203303:Unit:=()
def tw13917256271359750462:Unit:=()
def tw3905510466262375737:Unit:=()
def tw11059054193461124551:Unit:=()
def tw6492244629948424428:Unit:=()
def tw14130616019751738920:Unit:=()
def tw9869863381969850253:Unit:=()
def tw16831284930785657548:Unit:=()
def tw531900845616758279:Unit:=()
def tw16985491572468837475:Unit:=()
def tw2861228302736319624:Unit:=()
def tw2627053742095919433:Unit:=()
def tw17137298333540104781:Unit:=()
def tw2227808329054110991:Unit:=()
def tw11842208555169971416:Unit:=()
def tw17564921987839923775:Unit:=()
def tw10907074277172203276:Unit:=()
def tw5025162750754332383:Unit:=()
def tw11037570163861899924:Unit:=()
def tw10400251112904696995:Unit:=()
def tw5905013691512985529:Unit:=()
def tw3083183141258150756:Unit:=()
def tw7480299708854906470:Unit:=()
def tw16938804252932266586:Unit:=()
def tw1412858028453380107:Unit:=()
def tw1745434048230837468:Unit:=()
def tw5957230103294428137:Unit:=()
def tw13790790855672048476:Unit:=()
def tw10093921697574320644:Unit:=()
def tw16152418062086872083:Unit:=()
def tw3941178894420296963:Unit:=()
def tw13816753975871567938:Unit:=()
def tw17378146146997027931:Unit:=()
def tw10846484882758107879:Unit:=()
def tw2412866234352527413:Unit:=()
def tw15211735250228276086:Unit:=()
def tw5867145835587359685:Unit:=()
def tw16249774598800130191:Unit:=()
def tw1426786858961469831:Unit:=()
def tw5797362105422003658:Unit:=()
def tw14803396380307250741:Unit:=()
def tw9148910496847621725:Unit:=()
def tw17312162318650069611:Unit:=()
def tw9929824636695114287:Unit:=()
def tw16783596432230380681:Unit:=()
def tw6104165674740823713:Unit:=()
def tw6286437731263487361:Unit:=()
def tw5229512410729272942:Unit:=()
def tw2695549016285311484:Unit:=()
def tw14665395951914780888:Unit:=()
def tw13679061904623943936:Unit:=()
def tw6235244389258780601:Unit:=()
def tw502375454234742530:Unit:=()
def tw11421921142165584439:Unit:=()
def tw1097979277835797400:Unit:=()
def tw11626280651080272004:Unit:=()
def tw17649005328338349476:Unit:=()
def tw8616923085154719854:Unit:=()
def tw7016262296654003239:Unit:=()
def tw8661462154203422220:Unit:=()
def tw16586026361353908740:Unit:=()
def tw3814312597565645470:Unit:=()
def tw483364947571095747:Unit:=()
def tw4464813308336371885:Unit:=()
def tw8744719287703193038:Unit:=()
def tw11260497552444428949:Unit:=()
def tw6392072172318828865:Unit:=()
def tw18087677067806232015:Unit:=()
def tw16912115862819635827:Unit:=()
def tw1110136312706173103:Unit:=()
def tw2779043709203760730:Unit:=()
def tw2473555192445727631:Unit:=()
def tw4474290952063794439:Unit:=()
def tw1911362391827343059:Unit:=()
def tw9105513996706461713:Unit:=()
def tw15781093403206686961:Unit:=()
def tw6041251541660328831:Unit:=()
def tw1933190204946295775:Unit:=()
def tw1649726329708169243:Unit:=()
def tw2872829121145466827:Unit:=()
def tw3413650998762992829:Unit:=()
def tw13142662546667813362:Unit:=()
def tw18354561037403587032:Unit:=()
def tw9124623321735889983:Unit:=()
def tw16645165444352678019:Unit:=()
def tw9162394279637992155:Unit:=()
def tw13623733480426971243:Unit:=()
def tw12502532057393467919:Unit:=()
def tw9219231549723989202:Unit:=()
def tw43778482067046177:Unit:=()
def tw12510552507127099188:Unit:=()
def tw12752462366351776407:Unit:=()
def tw17546245484425353309:Unit:=()
def tw17841207112624650880:Unit:=()
def tw1535967765085515632:Unit:=()
def tw7617751471282831879:Unit:=()
def tw16466281861340952656:Unit:=()
def tw2245109344297666481:Unit:=()
def tw15685972595844871851:Unit:=()
def tw1610553856979706556:Unit:=()
def tw13904588949279200255:Unit:=()
def tw5021106655100514648:Unit:=()
def tw2515891902501674826:Unit:=()
def tw5618927070794679071:Unit:=()
def tw6550634578556816347:Unit:=()
def tw13639656833987130321:Unit:=()
def tw9868200653388687807:Unit:=()
def tw16043227182354051617:Unit:=()
def tw4693433896611644250:Unit:=()
def tw18194975365841667632:Unit:=()
def tw568879555109165094:Unit:=()
def tw14382917008235440176:Unit:=()
def tw9334207911694437150:Unit:=()
def tw2219735824151389817:Unit:=()
def tw17575515379116100162:Unit:=()
def tw17780524319179883142:Unit:=()
def tw12024985997049429093:Unit:=()
def tw1396118314154481766:Unit:=()
def tw7165815603633766191:Unit:=()
def tw4439668141020568210:Unit:=()
def tw2190065955260582059:Unit:=()
def tw18026144165860706459:Unit:=()
def tw3124181520763990222:Unit:=()
def tw1840532944185156401:Unit:=()
def tw1458298728916506315:Unit:=()
def tw1847272731991665917:Unit:=()
def tw16326233791089453916:Unit:=()
def tw11528910959153513673:Unit:=()
def tw18358217245353537118:Unit:=()
def tw12484584871860513573:Unit:=()
def tw867456844042155237:Unit:=()
def tw16028046299950794442:Unit:=()
def tw5566170089939370002:Unit:=()
def tw8596977480869965257:Unit:=()
def tw11348212560296220043:Unit:=()
def tw8937812780393176263:Unit:=()
def tw11921082425256268279:Unit:=()
def tw2560012289614276182:Unit:=()
def tw17426067659768832028:Unit:=()
def tw4738576984143976280:Unit:=()
def tw9893849933684894821:Unit:=()
def tw7504809429976891044:Unit:=()
def tw10623448650967609207:Unit:=()
def tw99183379422790922:Unit:=()
def tw13797622560070360562:Unit:=()
def tw15933767264001671010:Unit:=()
def tw3305182235058444328:Unit:=()
def tw5930023552104156152:Unit:=()
def tw11533433895627496854:Unit:=()
def tw4240182479817622802:Unit:=()
def tw10378308993213049936:Unit:=()
def tw3311448824736246223:Unit:=()
def tw229862817090401628:Unit:=()
def tw6501991715276192360:Unit:=()
def tw10239777246296559371:Unit:=()
def tw14537864431151646565:Unit:=()
def tw8979152594094724903:Unit:=()
def tw6806362568462060701:Unit:=()
def tw10571715589827093660:Unit:=()
def tw7654040177508441521:Unit:=()
def tw13154357042181845373:Unit:=()
def tw13528667695238628803:Unit:=()
def tw2043290230004632874:Unit:=()
def tw2099990355345926636:Unit:=()
def tw2917388634464767813:Unit:=()
def tw13808521662449234349:Unit:=()
def tw2216296994860412334:Unit:=()
def tw17439797584782564434:Unit:=()
def tw8924271332633437346:Unit:=()
def tw12116512734285611118:Unit:=()
def tw7460919373017514434:Unit:=()
def tw5494410323797472287:Unit:=()
def tw716258282020566819:Unit:=()
def tw6403638627066581861:Unit:=()
def tw12462632771331315785:Unit:=()
def tw6540357958104877350:Unit:=()
def tw2717470383126235823:Unit:=()
def tw7519353856564431516:Unit:=()
def tw18115660303965260479:Unit:=()
def tw7864945348349586837:Unit:=()
def tw16681235051451808946:Unit:=()
def tw7518935963916338957:Unit:=()
def tw13867027241741110870:Unit:=()
def tw114754681996997813:Unit:=()
def tw567874076840815600:Unit:=()
def tw16970722615540992296:Unit:=()
def tw7714347270300736438:Unit:=()
def tw5150565592423434526:Unit:=()
def tw5443754243646237022:Unit:=()
def tw4809766496008099531:Unit:=()
def tw7466880418449124875:Unit:=()
def tw14309706239662705930:Unit:=()
def tw11582466223025573055:Unit:=()
def tw1084601995690595166:Unit:=()
def tw2231671976168487430:Unit:=()
def tw4638454659923332567:Unit:=()
def tw366608804531031061:Unit:=()
def tw8240392003280248900:Unit:=()
def tw3975469006916782104:Unit:=()
def tw15079163255865800377:Unit:=()
def tw16249418382730532975:Unit:=()
def tw10446234364756632812:Unit:=()
def tw7791746466886850512:Unit:=()
def tw8731524995120665253:Unit:=()
def tw14867615495553984688:Unit:=()
def tw13317057789530661672:Unit:=()
def tw7257691985421840053:Unit:=()
def tw11832066127083390303:Unit:=()
def tw15895424738625855154:Unit:=()
def tw1199429411206372736:Unit:=()
def tw18115691390623178461:Unit:=()
def tw9847488569058195979:Unit:=()
def tw714265405078363067:Unit:=()
def tw5360175194967422553:Unit:=()
def tw10578702144769522028:Unit:=()
def tw13553292380655010189:Unit:=()
def tw5462709685530907115:Unit:=()
def tw15952740148553809369:Unit:=()
def tw16037154309672800381:Unit:=()
def tw6507602347222456084:Unit:=()
def tw8144287331793562307:Unit:=()
def tw15968409524035720223:Unit:=()
def tw3129204201055779581:Unit:=()
def tw3079272087643142250:Unit:=()
def tw17544056171990339192:Unit:=()
def tw5262687242440543034:Unit:=()
def tw5041909285820725566:Unit:=()
def tw12618525171447890944:Unit:=()
def tw10255401983607434071:Unit:=()
def tw5316781211852847702:Unit:=()
def tw9701448247275455731:Unit:=()
def tw6226450924805849840:Unit:=()
def tw2805519373765028:Unit:=()
def tw12546184236130118094:Unit:=()
def tw7643154648916637772:Unit:=()
def tw2355698502021650199:Unit:=()
def tw16932861125746180670:Unit:=()
def tw2851039756964353699:Unit:=()
def tw6494010664041694636:Unit:=()
def tw8311315769274117621:Unit:=()
def tw9672276955467232701:Unit:=()
def tw11413440508444953985:Unit:=()
def tw2879857708720363479:Unit:=()
def tw6437104559612051390:Unit:=()
def tw17740524254808062754:Unit:=()
def tw566536327849994865:Unit:=()
def tw5585205834434370798:Unit:=()
def tw5028149019463623913:Unit:=()
def tw3823866830853350118:Unit:=()
def tw2174763022772438468:Unit:=()
def tw207866535975872457:Unit:=()
def tw14638125433325235046:Unit:=()
def tw13806256362116282769:Unit:=()
def tw10995246885907400328:Unit:=()
def tw10474615395959926307:Unit:=()
def tw10309911041269805248:Unit:=()
def tw16554684480140298849:Unit:=()
def tw8735740867126658658:Unit:=()
def tw11224585917831143667:Unit:=()
def tw2481086896292222445:Unit:=()
def tw2134886265128387338:Unit:=()
def tw7121673004033551720:Unit:=()
def tw9642646823352597366:Unit:=()
def tw8858026136994047130:Unit:=()
def tw7895655008135587739:Unit:=()
def tw7489026263032673148:Unit:=()
def tw6221503503869051119:Unit:=()
def tw4108596779198944411:Unit:=()
def tw3832485985921526088:Unit:=()
def tw3251211233610721961:Unit:=()
def tw2689620400039414577:Unit:=()
def tw2394181472784781144:Unit:=()
def tw2229164732985401917:Unit:=()
def tw1999489372969542683:Unit:=()
def tw1951985667159680723:Unit:=()
def tw16116283550112223457:Unit:=()
def tw16080889616291990752:Unit:=()
def tw15338942473503607322:Unit:=()
def tw15174978187970570712:Unit:=()
def tw14893644000274642445:Unit:=()
def tw12930416980762130296:Unit:=()
def tw11137617582357894407:Unit:=()
def tw10119660938258867525:Unit:=()
def tw13512838910129927334:Unit:=()
def tw9129549171968338567:Unit:=()
def tw8718030357946353880:Unit:=()
def tw8621176935429646838:Unit:=()
def tw8069669416554147534:Unit:=()
def tw8027099976141472742:Unit:=()
def tw7885537414480024789:Unit:=()
def tw7561501010473235429:Unit:=()
def tw708737178043598630:Unit:=()
def tw6624671157846634901:Unit:=()
def tw6520161260043154290:Unit:=()
def tw6108175311139622118:Unit:=()
def tw5718385545907776853:Unit:=()
def tw5704367591997990413:Unit:=()
def tw5437497504198025451:Unit:=()
def tw4653109456208639234:Unit:=()
def tw4415037135955580075:Unit:=()
def tw3263658524623295689:Unit:=()
def tw1865443905870122804:Unit:=()
def tw18069469187695475477:Unit:=()
def tw16072563910375292391:Unit:=()
def tw15441968714323814254:Unit:=()
def tw14919911638921513319:Unit:=()
def tw14503448430736225866:Unit:=()
def tw14399427741231070801:Unit:=()
def tw14209671344368996877:Unit:=()
def tw1317048251003545739:Unit:=()
def tw12322607842924401832:Unit:=()
def tw11901338974624974537:Unit:=()
def tw11604305992641211971:Unit:=()
def tw10943535816451417906:Unit:=()
def tw10421677122740588448:Unit:=()
def tw6442217200898714353:Unit:=()
def tw17260760472519269017:Unit:=()
def tw10214234499078996035:Unit:=()
def tw9085838676725808217:Unit:=()
def tw4704543147321358089:Unit:=()
def tw13393936113287089652:Unit:=()
def tw13294755664291268886:Unit:=()
def tw13211035231959655419:Unit:=()
def tw2307407396125711597:Unit:=()
def tw1914921624695141227:Unit:=()
def tw15823406579089822689:Unit:=()
def tw676325926121723623:Unit:=()
def tw336280788853976230:Unit:=()
def tw3035945675132303157:Unit:=()
def tw17087368255522841507:Unit:=()
def tw12647340466987801029:Unit:=()
def tw11340110145348754476:Unit:=()
def tw15441216526035927036:Unit:=()
def tw4051568039287493471:Unit:=()
def tw13679746836369760799:Unit:=()
def tw11338995574935688056:Unit:=()
def tw5890715807051350563:Unit:=()
def tw18329074200461692430:Unit:=()
def tw9865007985918463333:Unit:=()
def tw9730161751435974437:Unit:=()
def tw9550426449952332874:Unit:=()
def tw7822093514724066799:Unit:=()
def tw7499943165434676865:Unit:=()
def tw707811557323566912:Unit:=()
def tw6534322282600463591:Unit:=()
def tw6277544623546129611:Unit:=()
def tw513488849912988890:Unit:=()
def tw2026052261252590234:Unit:=()
def tw15259724773344403590:Unit:=()
def tw15254382392223380975:Unit:=()
def tw1323434508171933697:Unit:=()
def tw13125921376726990725:Unit:=()
def tw11500857590442163402:Unit:=()
def tw8213957856544095953:Unit:=()
def tw18126200914211021571:Unit:=()
def tw1608959625899329549:Unit:=()
def tw8444216859780841309:Unit:=()
def tw18136870470379979899:Unit:=()
def tw4879888025132354927:Unit:=()
end PySem.W.Fast
set_option maxRecDepth 100000 in
set_option maxHeartbeats 0 in
theorem PySem.Challenge.cw_letterall_k41_whole_renamed_worlds_move_holds : PySem.Challenge.rw_letterall_k41_whole_renamed_worlds_move.Holds := by
 w_on; o_law; z_head; (case hw => w_witness2)
 k_fill
 refine DL.sE (λ_ => by kernel_rfl) (DL.walk (l := PySem.Challenge.rw_letterall_k41_whole_renamed_worlds_move) (Tt := Lw.Tt) (I := Lw.mQ) (x := "_law_script") Lw.depth rfl rfl (λw h Y => Y) ⟨rfl, by decide, by decide⟩ (by kernel_rfl) (by decide +kernel) ?T Lw.main)
 case T =>
  intro w mg h KX G;refine' Lw.Amp KX G ?rf ?rb ?rc ?C33a ?C33b ?C33c ?C33d ?C33e ?C33f ?a33_1 ?b33_1 ?l33_1 ?c33_1 ?k33_1 ?a33_0 ?b33_0 ?l33_0 ?c33_0 ?k33_0 ?C33m ?C33k
  (case rf => (repeat (apply DL.sG; (focus k_is); (focus k_is); (focus k_is); (focus k_is))); exact trivial)
  (case rb => (repeat (apply DL.sJ; (focus k_is))); exact trivial)
  (case rc => (repeat (apply DL.sI; (focus k_is); (focus kernel_rfl))); exact trivial)
  (case C33a | C33b | C33c | C33d | C33e | C33f | a33_1 | b33_1 | l33_1 | c33_1 | k33_1 | a33_0 | b33_0 | l33_0 | c33_0 | k33_0 | C33m | C33k => k_is)
#print axioms PySem.Challenge.cw_letterall_k41_whole_renamed_worlds_move_holds
