import PyProof.Rows.All
import Wide.All
import OpenK.AllK
import Wide.FinOn
import Lean
import PyProof.EqAt
import PyProof.EqKinds
import PyProof.TupleCall
import KE.BitLaws
import PySem.Challenge.RW_letterall_k53_pairs_reckoned
set_option Elab.async false
set_option linter.all false
set_option maxRecDepth 100000
set_option maxHeartbeats 8000000
namespace L2
open PySem PySem.Spec PyProof.Rows
noncomputable abbrev Key := Sum Int Str
noncomputable def keyIs : Key → Value → Bool
  | .inl k, v => Value.isInt k v
  | .inr x, v => Value.isStrOf x v
noncomputable def keyH (w : World) : Key → Int
  | .inl k => hashInt k
  | .inr x => hashStr w x
theorem keyIs_shape : ∀ {k : Key} {v : Value}, keyIs k v = true → (∃ i t, k = Sum.inl i ∧ v = Value.int i t) ∨ (∃ x t, k = Sum.inr x ∧ v = Value.str x t)
  | .inl i, v, h => by
    obtain ⟨t, e⟩ := Value.isInt_shape (k := i) (v := v) h
    exact .inl ⟨i, t, rfl, e⟩
  | .inr x, v, h => by
    obtain ⟨t, e⟩ := Value.isStrOf_shape (x := x) (v := v) h
    exact .inr ⟨x, t, rfl, e⟩
theorem key_ll (a b : Int) : decide ((Sum.inl a : Key) = Sum.inl b) = (a == b) := by
  by_cases e : a = b
  · subst e; simp
  · have h : ¬ (Sum.inl a : Key) = Sum.inl b := fun q => e (Sum.inl.inj q)
    rw [decide_eq_false h]
    exact (beq_eq_false_iff_ne.mpr e).symm
theorem key_rr (a b : Str) : decide ((Sum.inr a : Key) = Sum.inr b) = decide (a = b) := by
  by_cases e : a = b
  · subst e; simp
  · have h : ¬ (Sum.inr a : Key) = Sum.inr b := fun q => e (Sum.inr.inj q)
    rw [decide_eq_false h, decide_eq_false e]
theorem key_lr (a : Int) (b : Str) : decide ((Sum.inl a : Key) = Sum.inr b) = false := decide_eq_false (fun q => nomatch q)
theorem key_rl (a : Str) (b : Int) : decide ((Sum.inr a : Key) = Sum.inl b) = false := decide_eq_false (fun q => nomatch q)
noncomputable def mixKind (prog : Program) (w : World) : PySem.KeyKind prog w Key where
  is := keyIs
  hash := keyH w
  inj := fun v a b ha hb => by
    rcases keyIs_shape ha with ⟨i, t, rfl, rfl⟩ | ⟨x, t, rfl, rfl⟩
    · rcases keyIs_shape hb with ⟨j, u, rfl, e⟩ | ⟨y, u, rfl, e⟩
      · injection e with e1 _; rw [e1]
      · exact nomatch e
    · rcases keyIs_shape hb with ⟨j, u, rfl, e⟩ | ⟨y, u, rfl, e⟩
      · exact nomatch e
      · injection e with e1 _; rw [e1]
  byValue := fun k v h => by
    rcases keyIs_shape h with ⟨i, t, rfl, rfl⟩ | ⟨x, t, rfl, rfl⟩ <;> rfl
  pyHash := fun hv h => by
    rcases keyIs_shape hv with ⟨i, t, rfl, rfl⟩ | ⟨x, t, rfl, rfl⟩
    · exact wpAny_pyHash_int h
    · exact wpAny_pyHash_str h
  eqBool := fun hu hv h => by
    rcases keyIs_shape hu with ⟨i, t, rfl, rfl⟩ | ⟨x, t, rfl, rfl⟩
    · rcases keyIs_shape hv with ⟨j, u, rfl, rfl⟩ | ⟨y, u, rfl, rfl⟩
      · rw [key_ll] at h; exact wpAny_eqBool_int h
      · rw [key_lr] at h; exact SeqAt.EqAt.int_str i t y u _ _ _ _ h
    · rcases keyIs_shape hv with ⟨j, u, rfl, rfl⟩ | ⟨y, u, rfl, rfl⟩
      · rw [key_rl] at h; exact SeqAt.EqAt.str_int x t j u _ _ _ _ h
      · rw [key_rr] at h; exact wpAny_eqBool_str h
  «strs» := fun k x t v h => by
    rcases keyIs_shape h with ⟨i, u, rfl, e⟩ | ⟨y, u, rfl, e⟩
    · exact nomatch e
    · injection e with e1 _
      subst e1
      cases v <;> rfl
inductive V where
  | non | bl (b : Bool) | int (i : Int) | str (x : Str) | byt (b : Array UInt8) | flt (b : UInt64) | ref (a : Addr) | ty (n : String)
  deriving DecidableEq
noncomputable def RelV : V → Value → Prop
  | .non, u => u = Value.none
  | .bl b, u => u = Value.bool b
  | .int i, u => ∃ t, u = Value.int i t
  | .str x, u => ∃ t, u = Value.str x t
  | .byt b, u => ∃ t, u = Value.bytes b t
  | .flt b, u => ∃ t, u = Value.float b t
  | .ref a, u => u = Value.ref a
  | .ty n, u => u = Value.type n
noncomputable abbrev Vals : List V → List Value → Prop := Paired RelV
theorem Vals.length {xs : List V} {us : List Value} (r : Vals xs us) : xs.length = us.length := Paired.length r
theorem Vals.get : ∀ {xs : List V} {us : List Value} {i : Nat} {x : V}, Vals xs us → xs[i]? = some x → ∃ u, us[i]? = some u ∧ RelV x u
  | _, _, _, _, .nil, e => by simp at e
  | _, _, 0, _, .cons r _, e => by simp at e; subst e; exact ⟨_, rfl, r⟩
  | _, _, i + 1, x, .cons _ t, e => by
    obtain ⟨u, h1, h2⟩ := Vals.get (i := i) (x := x) t (by simpa using e)
    exact ⟨u, by simpa using h1, h2⟩
theorem Vals.set {x : V} {u : Value} (r : RelV x u) : ∀ {xs : List V} {us : List Value} (i : Nat), Vals xs us → Vals (xs.set i x) (us.set i u)
  | _, _, _, .nil => .nil
  | _, _, 0, .cons _ t => .cons r t
  | _, _, i + 1, .cons q t => .cons q (Vals.set r i t)
theorem Vals.append : ∀ {xs ys : List V} {us ws : List Value}, Vals xs us → Vals ys ws → Vals (xs ++ ys) (us ++ ws)
  | _, _, _, _, .nil, s => s
  | _, _, _, _, .cons r t, s => .cons r (Vals.append t s)
theorem Vals.take : ∀ {xs : List V} {us : List Value} (n : Nat), Vals xs us → Vals (xs.take n) (us.take n)
  | _, _, 0, _ => .nil
  | _, _, _ + 1, .nil => .nil
  | _, _, n + 1, .cons r t => .cons r (Vals.take n t)
theorem Vals.drop : ∀ {xs : List V} {us : List Value} (n : Nat), Vals xs us → Vals (xs.drop n) (us.drop n)
  | _, _, 0, r => r
  | _, _, _ + 1, .nil => .nil
  | _, _, n + 1, .cons _ t => Vals.drop n t
theorem Vals.none_of : ∀ {xs : List V} {us : List Value} {i : Nat}, Vals xs us → xs[i]? = none → us[i]? = none := fun {xs us i} r e => by
  have h1 := r.length
  have h2 : xs.length ≤ i := List.getElem?_eq_none_iff.mp e
  exact List.getElem?_eq_none_iff.mpr (by omega)
noncomputable def RelO : Option V → Option Value → Prop
  | some v, some u => RelV v u
  | none, none => True
  | _, _ => False
noncomputable def KV {κ : Type} : List (κ × V) → List (κ × Value) → Prop := Paired fun (p : κ × V) (q : κ × Value) => p.1 = q.1 ∧ RelV p.2 q.2
noncomputable def kV : Key → V
  | .inl i => .int i
  | .inr x => .str x
inductive HO where
  | lst (xs : List V)
  | tup (xs : List V)
  | dK (kvs : List (Key × V)) | dT (kvs : List (List Key × V))
  | set (S : Int → Bool) (n : Nat)
  | ins (C dx : Addr) (fs : List (Str × V))
  | own (x : Addr)
  | xd (fs : List (Str × V))
  | met (f x : Addr)
  | rng (lo hi : Int)
  | frz (o : Obj) (u : HO)
  | tbl (ps : Array Value)
  | ext (φ : Heap → Prop)
noncomputable abbrev Hp := Addr → Option HO
noncomputable def upd (H : Hp) (a : Addr) (o : HO) : Hp := fun b => if b = a then some o else H b
theorem upd_same {H : Hp} {a : Addr} {o : HO} : upd H a o a = some o := by unfold upd; rw [if_pos rfl]
theorem upd_ne {H : Hp} {a b : Addr} {o : HO} (h : b ≠ a) : upd H a o b = H b := by unfold upd; rw [if_neg h]
theorem upd_upd {H : Hp} {a : Addr} {o u : HO} : upd (upd H a o) a u = upd H a u := by
  funext b; unfold upd; split <;> rfl
theorem ne_of {H : Hp} {a b : Addr} {o u : HO} (h : H a = some o) (h' : H b = some u) (d : o ≠ u) : a ≠ b := by
  intro e; subst e; rw [h] at h'; exact d (Option.some.inj h')
theorem ne_of_none {H : Hp} {a b : Addr} {o : HO} (h : H a = some o) (h' : H b = none) : a ≠ b := by
  intro e; subst e; rw [h] at h'; cases h'
section
variable (P : Program) (w : World)
noncomputable def TupP (h : Heap) (a : Addr) (its : Array Value) : Prop := ∃ o, h.get? a = some o ∧ o.cls = .type "tuple" ∧ o.dict = none ∧ ∃ n, o.data = .seq its n
theorem TupP.to {h : Heap} {a : Addr} {its : Array Value} (x : TupP h a its) : IsTup h a its := let ⟨o, e, c, _, n, d⟩ := x; ⟨o, e, c, n, d⟩
theorem TupP.new (h : Heap) (its : Array Value) : TupP (h.push { cls := .type "tuple", data := .seq its }) h.objs.size its := ⟨_, Heap.get?_push_size _ rfl, rfl, rfl, _, rfl⟩
noncomputable def ObjOk (H : Hp) (h : Heap) (a : Addr) : HO → Prop
  | .lst xs => xs.length ≤ sizeLine ∧ ∃ (its : List Value) (n : Nat), Vals xs its ∧ h.get? a = some { cls := .type "list", data := .seq its.toArray n }
  | .tup xs => xs.length ≤ sizeLine ∧ ∃ its : List Value, Vals xs its ∧ TupP h a its.toArray
  | .dK kvs => kvs.length ≤ sizeLine ∧ (a == sysModules) = false ∧ ∃ vs, KV kvs vs ∧ h.DictOf (mixKind P w) a vs
  | .dT kvs => kvs.length ≤ sizeLine ∧ (a == sysModules) = false ∧ ∃ xs : List (List Key × Addr × Value),
      Paired (fun (p : List Key × V) (q : List Key × Addr × Value) => p.1 = q.1 ∧ H q.2.1 = some (.tup (p.1.map kV)) ∧ RelV p.2 q.2.2) kvs xs ∧
      ∃ o es ep, h.get? a = some o ∧ o.ExactDict ∧ o.data = .dict es ep ∧ es.toList = xs.map (entryOfKey (tupleKind (mixKind P w))) ∧ (xs.map (·.1)).Nodup
  | .set S n => h.SetOf (intKind P w) a S n
  | .ins C dx fs => H dx = some (.own a) ∧ fs.length ≤ 1000 ∧ dx ≠ a ∧ h.get? a = some (PySem.W.instObj C dx) ∧
      ∃ mA, h.Ns1 dx mA ∧ (∀ f, RelO (fs.lookup f) (mA f)) ∧ PySem.Within mA (fs.map (·.1))
  | .own _ => ∃ o, h.get? a = some o
  | .xd fs => ∃ mA, h.Ns1 a mA ∧ ∀ f, RelO (fs.lookup f) (mA f)
  | .rng lo hi => ∃ t u v, h.get? a = some { cls := .type "range", data := .fields #[.int lo t, .int hi u, .int 1 v] }
  | .frz o u => h.get? a = some o ∧ ObjOk H h a u
  | .tbl ps => h.get? a = some { cls := .none, data := .fields ps }
  | .met f x => h.get? a = some (PySem.W.methodObj (.ref f) (.ref x))
  | .ext φ => φ h ∧ (∃ o, h.get? a = some o) ∧ ∀ h1 h2 : Heap, φ h1 → (∀ o, h1.get? a = some o → h2.get? a = some o) → φ h2
noncomputable def HOk (H : Hp) (h : Heap) : Prop := ∀ a o, H a = some o → ObjOk P w H h a o
end
section
variable {P : Program} {w : World} {H H' : Hp} {h h' : Heap} {a : Addr} {o : HO}
theorem ObjOk.lt (x : ObjOk P w H h a o) : a < h.objs.size := by
  cases o with
  | lst xs => obtain ⟨_, _, _, _, e⟩ := x; exact Heap.lt_size e
  | tup xs => obtain ⟨_, _, _, p⟩ := x; exact p.to.lt
  | dK kvs => obtain ⟨_, _, _, _, o, _, _, e, _⟩ := x; exact Heap.lt_size e
  | dT kvs => obtain ⟨_, _, _, _, o, _, _, e, _⟩ := x; exact Heap.lt_size e
  | set S n => obtain ⟨o, _, _, _, e, _⟩ := x; exact Heap.lt_size e
  | ins C dx fs => obtain ⟨_, _, _, e, _⟩ := x; exact Heap.lt_size e
  | own y => obtain ⟨_, e⟩ := x; exact Heap.lt_size e
  | xd fs => obtain ⟨_, ⟨_, _, _, e, _⟩, _⟩ := x; exact Heap.lt_size e
  | rng lo hi => obtain ⟨_, _, _, e⟩ := x; exact Heap.lt_size e
  | frz ob u => obtain ⟨e, _⟩ := x; exact Heap.lt_size e
  | tbl ps => exact Heap.lt_size (show h.get? a = some _ from x)
  | met f y => exact Heap.lt_size (show h.get? a = some _ from x)
  | ext φ => obtain ⟨_, ⟨_, e⟩, _⟩ := x; exact Heap.lt_size e
theorem Paired.mapP {α β : Type} {F G : α → β → Prop} : ∀ {l₁ : List α} {l₂ : List β}, Paired F l₁ l₂ → (∀ a b, F a b → G a b) → Paired G l₁ l₂
  | _, _, .nil, _ => .nil
  | _, _, .cons r t, f => .cons (f _ _ r) (Paired.mapP t f)
theorem ObjOk.stay (x : ObjOk P w H h a o) (k : ∀ b u, (b = a ∨ H b = some (.own a)) → h.get? b = some u → h'.get? b = some u)
    (ho : ∀ b, H b = some (.own a) → H' b = some (.own a)) (ht : ∀ b xs, H b = some (.tup xs) → H' b = some (.tup xs)) : ObjOk P w H' h' a o := by
  induction o with
  | lst xs => obtain ⟨z, its, n, r, e⟩ := x; exact ⟨z, its, n, r, k _ _ (.inl rfl) e⟩
  | tup xs => obtain ⟨z, its, r, ob, e, c⟩ := x; exact ⟨z, its, r, ob, k _ _ (.inl rfl) e, c⟩
  | dK kvs => obtain ⟨z, y, vs, r, ob, es, ep, e, c⟩ := x; exact ⟨z, y, vs, r, ob, es, ep, k _ _ (.inl rfl) e, c⟩
  | dT kvs =>
    obtain ⟨z, y, xs, r, ob, es, ep, e, c⟩ := x
    exact ⟨z, y, xs, Paired.mapP r fun p q z => ⟨z.1, ht _ _ z.2.1, z.2.2⟩, ob, es, ep, k _ _ (.inl rfl) e, c⟩
  | set S n => obtain ⟨ob, es, ep, t, e, c⟩ := x; exact ⟨ob, es, ep, t, k _ _ (.inl rfl) e, c⟩
  | ins C dx fs =>
    obtain ⟨d, z, ne, e, mA, ⟨od, es, ep, e2, c⟩, r⟩ := x
    exact ⟨ho _ d, z, ne, k _ _ (.inl rfl) e, mA, ⟨od, es, ep, k _ _ (.inr d) e2, c⟩, r⟩
  | own y => obtain ⟨ob, e⟩ := x; exact ⟨ob, k _ _ (.inl rfl) e⟩
  | xd fs => obtain ⟨mA, ⟨od, es, ep, e, c⟩, r⟩ := x; exact ⟨mA, ⟨od, es, ep, k _ _ (.inl rfl) e, c⟩, r⟩
  | rng lo hi => obtain ⟨t, u, v, e⟩ := x; exact ⟨t, u, v, k _ _ (.inl rfl) e⟩
  | frz ob u ih => obtain ⟨e, q⟩ := x; exact ⟨k _ _ (.inl rfl) e, ih q⟩
  | tbl ps =>
    have e : h.get? a = some { cls := .none, data := .fields ps } := x
    show h'.get? a = some { cls := .none, data := .fields ps }
    exact k a _ (.inl rfl) e
  | met f y =>
    have e : h.get? a = some (PySem.W.methodObj (.ref f) (.ref y)) := x
    show h'.get? a = some (PySem.W.methodObj (.ref f) (.ref y))
    exact k a _ (.inl rfl) e
  | ext φ => obtain ⟨p, ⟨o, e⟩, st⟩ := x; exact ⟨st _ _ p fun o q => k _ _ (.inl rfl) q, ⟨o, k _ _ (.inl rfl) e⟩, st⟩
theorem HOk.lt (x : HOk P w H h) (e : H a = some o) : a < h.objs.size := (x a o e).lt
theorem HOk.fresh (x : HOk P w H h) (e : h.objs.size ≤ a) : H a = none := by
  cases q : H a with
  | none => rfl
  | some u => exact absurd (Nat.lt_of_lt_of_le (x.lt q) e) (Nat.lt_irrefl _)
theorem HOk.kept (x : HOk P w H h) (k : ∀ b u, h.get? b = some u → h'.get? b = some u) : HOk P w H h' := fun a o e =>
  (x a o e).stay (fun b u _ q => k b u q) (fun _ q => q) fun _ _ q => q
theorem HOk.laid (x : HOk P w H h) (k : ∀ b u, h.get? b = some u → h'.get? b = some u) (hp : h.objs.size ≤ a) (new : ObjOk P w (upd H a o) h' a o) : HOk P w (upd H a o) h' := fun b u e => by
  have hn := x.fresh hp
  by_cases hb : b = a
  · subst hb; rw [upd_same] at e; cases e; exact new
  · rw [upd_ne hb] at e
    exact (x b u e).stay (fun c v _ q => k c v q) (fun c q => by rw [upd_ne (ne_of_none q hn)]; exact q) fun c xs q => by rw [upd_ne (ne_of_none q hn)]; exact q
end
noncomputable def Rd (H : Hp) (a : Addr) (u : HO) : Prop := H a = some u ∨ ∃ o, H a = some (.frz o u)
theorem Rd.of {H : Hp} {a : Addr} {u : HO} (h : H a = some u) : Rd H a u := .inl h
theorem Rd.ok {P : Program} {w : World} {H : Hp} {h : Heap} {a : Addr} {u : HO} (r : Rd H a u) (x : HOk P w H h) : ObjOk P w H h a u := by
  rcases r with r | ⟨o, r⟩
  · exact x a u r
  · obtain ⟨_, q⟩ := x a _ r
    exact q
noncomputable def Mut : Option HO → Prop
  | some (.lst _) => True
  | some (.dK _) => True
  | some (.dT _) => True
  | some (.set _ _) => True
  | some (.ins _ _ _) => True
  | some (.ext _) => True
  | _ => False
section
variable {P : Program} {w : World} {H : Hp} {h h' : Heap} {x e : Addr} {o' : HO}
theorem HOk.write (ok : HOk P w H h) (mu : Mut (H x)) (he : e = x ∨ H e = some (.own x)) (k : ∀ b u, b ≠ e → h.get? b = some u → h'.get? b = some u) (heo : ∃ u, h'.get? e = some u)
    (new : ObjOk P w (upd H x o') h' x o') : HOk P w (upd H x o') h' := fun b u q => by
  have nown : ∀ c y, H c = some (.own y) → c ≠ x := fun c y r z => by subst z; rw [r] at mu; exact mu
  have ntup : ∀ c xs, H c = some (.tup xs) → c ≠ x := fun c xs r z => by subst z; rw [r] at mu; exact mu
  by_cases hb : b = x
  · subst hb; rw [upd_same] at q; cases q; exact new
  · rw [upd_ne hb] at q
    by_cases hbe : b = e
    · have q' : H b = some (.own x) := by
        rcases he with z | z
        · exact absurd (hbe.trans z) hb
        · rw [hbe]; exact z
      rw [q] at q'; cases q'
      obtain ⟨v, hv⟩ := heo
      exact ⟨v, by rw [hbe]; exact hv⟩
    · refine (ok b u q).stay (fun c v hc r => k c v ?_ r) (fun c r => by rw [upd_ne (nown c b r)]; exact r) fun c xs r => by rw [upd_ne (ntup c xs r)]; exact r
      rcases hc with rfl | hc
      · exact hbe
      · rintro rfl
        rcases he with z | z
        · exact nown c b hc z
        · rw [hc] at z; cases z; exact hb rfl
end
structure Un (fs ex : List Addr) (H H' : Hp) (h h' : Heap) : Prop where
  keep : ∀ b o, h.get? b = some o → H b = none → b ∉ fs → b ∉ ex → h'.get? b = some o
  slot : ∀ b o, h.get? b = some o → H b = none → b ∈ fs → b ∉ ex → ∃ sl, h'.get? b = some { o with slots := sl }
  free : ∀ b o, h.get? b = some o → H b = none → b ∉ ex → H' b = none
  there : ∀ b o, h.get? b = some o → b ∉ ex → ∃ o', h'.get? b = some o'
  tups : ∀ b xs, H b = some (.tup xs) → H' b = some (.tup xs)
  frzs : ∀ b o u, H b = some (.frz o u) → H' b = some (.frz o u)
  tbls : ∀ b ps, H b = some (.tbl ps) → ∃ more, H' b = some (.tbl (ps ++ more))
section
variable {fs fs' ex ex' : List Addr} {H H1 H2 : Hp} {h h1 h2 h' : Heap} {a x e : Addr} {o : HO}
theorem Un.any (u : Un fs ex H H1 h h1) {b : Addr} {ob : Obj} (q : h.get? b = some ob) (n : H b = none) (hx : b ∉ ex) : ∃ sl, h1.get? b = some { ob with slots := sl } := by
  by_cases hb : b ∈ fs
  · exact u.slot b ob q n hb hx
  · exact ⟨ob.slots, u.keep b ob q n hb hx⟩
theorem Un.trans (a : Un fs ex H H1 h h1) (b : Un fs ex H1 H2 h1 h2) : Un fs ex H H2 h h2 where
  keep := fun c ob q n hc hx => b.keep c ob (a.keep c ob q n hc hx) (a.free c ob q n hx) hc hx
  slot := fun c ob q n hc hx => by
    obtain ⟨sl, e1⟩ := a.slot c ob q n hc hx
    obtain ⟨sl', e2⟩ := b.slot c _ e1 (a.free c ob q n hx) hc hx
    exact ⟨sl', e2⟩
  free := fun c ob q n hx => by
    obtain ⟨o', e1⟩ := a.there c ob q hx
    exact b.free c o' e1 (a.free c ob q n hx) hx
  there := fun c ob q hx => by
    obtain ⟨o', e1⟩ := a.there c ob q hx
    exact b.there c o' e1 hx
  tups := fun c xs q => b.tups c xs (a.tups c xs q)
  frzs := fun c ob xs q => b.frzs c ob xs (a.frzs c ob xs q)
  tbls := fun c ps q => by
    obtain ⟨m1, e1⟩ := a.tbls c ps q
    obtain ⟨m2, e2⟩ := b.tbls c _ e1
    exact ⟨m1 ++ m2, by rw [e2, Array.append_assoc]⟩
theorem Un.kept (k : ∀ b u, h.get? b = some u → h'.get? b = some u) : Un fs ex H H h h' :=
  ⟨fun b ob q _ _ _ => k b ob q, fun b ob q _ _ _ => ⟨ob.slots, k b ob q⟩, fun _ _ _ n _ => n, fun b ob q _ => ⟨ob, k b ob q⟩, fun _ _ q => q, fun _ _ _ q => q, fun _ ps q => ⟨#[], by rw [q]; simp⟩⟩
theorem Un.refl : Un fs ex H H h h := Un.kept fun _ _ q => q
theorem Un.laid (k : ∀ b u, h.get? b = some u → h'.get? b = some u) (hp : h.objs.size ≤ a) (hn : H a = none) : Un fs ex H (upd H a o) h h' where
  keep := fun b u q _ _ _ => k b u q
  slot := fun b u q _ _ _ => ⟨u.slots, k b u q⟩
  free := fun b u q n _ => by rw [upd_ne (Nat.ne_of_lt (Nat.lt_of_lt_of_le (Heap.lt_size q) hp))]; exact n
  there := fun b u q _ => ⟨u, k b u q⟩
  tups := fun b xs q => by rw [upd_ne (ne_of_none q hn)]; exact q
  frzs := fun b u xs q => by rw [upd_ne (ne_of_none q hn)]; exact q
  tbls := fun b ps q => ⟨#[], by rw [upd_ne (ne_of_none q hn), q]; simp⟩
theorem Un.write (mu : Mut (H x)) (he : e = x ∨ H e = some (.own x)) (k : ∀ b u, b ≠ e → h.get? b = some u → h'.get? b = some u) (heo : ∃ u, h'.get? e = some u) : Un fs ex H (upd H x o) h h' := by
  have hx : ∀ b, H b = none → b ≠ x := fun b n z => by subst z; rw [n] at mu; exact mu
  have hb : ∀ b, H b = none → b ≠ e := fun b n z => by
    subst z
    rcases he with r | r
    · exact hx b n r
    · rw [n] at r; cases r
  have hm : ∀ b u, H b = some u → ¬ Mut (some u) → b ≠ x := fun b u q nm z => by subst z; rw [q] at mu; exact nm mu
  refine ⟨fun b u q n _ _ => k b u (hb b n) q, fun b u q n _ _ => ⟨u.slots, k b u (hb b n) q⟩, fun b u q n _ => by rw [upd_ne (hx b n)]; exact n, fun b u q _ => ?_,
    fun b xs q => by rw [upd_ne (hm b _ q fun z => z)]; exact q, fun b u xs q => by rw [upd_ne (hm b _ q fun z => z)]; exact q, fun b ps q => ⟨#[], by rw [upd_ne (hm b _ q fun z => z), q]; simp⟩⟩
  by_cases hbe : b = e
  · subst hbe; exact heo
  · exact ⟨u, k b u hbe q⟩
theorem Un.mono (u : Un fs ex H H1 h h1) (hs : ∀ b ∈ fs, b ∈ fs') (hx : ∀ b ∈ ex, b ∈ ex') : Un fs' ex' H H1 h h1 :=
  ⟨fun b ob q n hb he => u.keep b ob q n (fun z => hb (hs b z)) fun z => he (hx b z), fun _ _ q n _ he => u.any q n fun z => he (hx _ z), fun b ob q n he => u.free b ob q n fun z => he (hx b z), fun b ob q he => u.there b ob q fun z => he (hx b z), u.tups, u.frzs, u.tbls⟩
end
noncomputable def trk (h : Heap) (H : Hp) : List Addr := (List.range h.objs.size).filter fun a => (H a).isSome
noncomputable def hidT (h : Heap) (H : Hp) : Heap := PySem.W.hideAll h (trk h H)
theorem hidT_size (h : Heap) (H : Hp) : (hidT h H).objs.size = h.objs.size := PySem.W.hideAll_size _ _
theorem hidT_get {h : Heap} {H : Hp} {b : Addr} {o : Obj} (e : h.get? b = some o) (n : H b = none) : (hidT h H).get? b = some o :=
  PySem.W.hideAll_get _ e fun hm => by
    have q : (H b).isSome = true := (List.mem_filter.mp hm).2
    rw [n] at q; simp at q
theorem of_hidT {h : Heap} {H : Hp} {b : Addr} {o : Obj} (e : (hidT h H).get? b = some o) : h.get? b = some o ∧ H b = none := by
  have e' : h.get? b = some o := PySem.W.of_hideAll (trk h H) e
  refine ⟨e', ?_⟩
  cases q : H b with
  | none => rfl
  | some x =>
    have hm : b ∈ trk h H := List.mem_filter.mpr ⟨List.mem_range.mpr (Heap.lt_size e'), by simp [q]⟩
    have z : (hidT h H).get? b = none := PySem.W.hideAll_none (trk h H) hm
    rw [z] at e; cases e
noncomputable def allNews (g h : Heap) (L : Addr) : List (Addr × Obj) := (List.range h.objs.size).filterMap fun a => if a = L ∨ (g.get? a).isSome = true then none else (h.get? a).map fun o => (a, o)
noncomputable def rest (g h : Heap) (L d : Addr) : List (Addr × Obj) := (allNews g h L).filter fun p => decide (p.1 ≠ d)
structure Mod (K : PySem.W.Frag) (mg : Str → Option Value) (base : Heap) : Prop where
  kin : K.In base
  glob : base.Ns mainGlobals mg
  blt : ∃ mb, base.Ns builtinsNs mb ∧ ∀ x : Str, x ≠ "__name__" → mb x = bootBuiltins x
  nolimit : base.NoLimit
structure Cx where
  prog : Program
  w : World
  K : PySem.W.Frag
  mg : Str → Option Value
  base : Heap
  A : Around
  N : List Str
  s₀ : Shared
  H₀ : Hp
  env : Env
  outer : List Env
  stack : List Env
  ex : List Addr
  fn : Str → Bool
  calm : Bool
  pn : List (Addr × Obj)
  xe : Value → Shared → Prop
noncomputable def frs (l : List Env) : List Addr := l.filterMap (·.frame)
noncomputable abbrev Cx.fs (X : Cx) : List Addr := frs X.outer
noncomputable def Vis (sc : Scope) (x : Str) : Prop := sc.names.lookup x = some .local ∨ sc.names.lookup x = some .cell ∨ sc.names.lookup x = some .free
noncomputable def Loc (sc : Scope) (x : Str) : Prop := sc.names.lookup x = some .local ∨ sc.names.lookup x = some .cell
noncomputable def Look (env : Env) (h : Heap) (m : Str → Option Value) (x : Str) (u : Value) : Prop :=
  (env.kindOf x = some .local ∧ m x = some u) ∨ ((env.kindOf x = some .cell ∨ env.kindOf x = some .free) ∧ ∃ c, env.cells.lookup x = some c ∧ h.IsCell c (some u))
structure Cx.Ok (X : Cx) : Prop where
  mod : Mod X.K X.mg X.base
  kind : X.env.scope.kind = .function
  glob : X.env.globals = mainGlobals
  blt : X.env.builtins = builtinsNs
  above : X.s₀.heap.objs.size ≤ X.env.locals
  inj : ∀ x y c, X.env.cells.lookup x = some c → X.env.cells.lookup y = some c → x = y
  has : ∀ x, (X.env.kindOf x = some .cell ∨ X.env.kindOf x = some .free) → ∃ c, X.env.cells.lookup x = some c
  cab : ∀ x c, X.fn x = true → X.env.cells.lookup x = some c → X.s₀.heap.objs.size ≤ c
  hd : X.calm = true → X.A.handled = none
  frames : X.A.frames = some X.stack
  stk : X.stack = X.outer ∨ (X.stack = X.env :: X.outer ∧ X.env.frame = some X.env.locals)
  exf : ∀ b ∈ X.ex, b ≠ X.env.locals ∧ ∀ x c, X.env.cells.lookup x = some c → c ≠ b
  bs : ∀ b o, X.base.get? b = some o → X.s₀.heap.get? b = some o ∧ X.H₀ b = none
  bsz : X.base.objs.size ≤ X.s₀.heap.objs.size
  noex : ∀ b o, X.base.get? b = some o → b ∉ X.ex
  exfs : ∀ b ∈ X.ex, b ∉ X.fs
  funs : X.s₀.heap.FunFrames X.base X.outer
  frf : ∀ b ∈ X.fs, X.H₀ b = none
structure Inv (X : Cx) (pins : List (Addr × Obj)) (σ : List (Option V)) (H : Hp) (s : Shared) : Prop where
  ok : X.Ok
  os : s.os = X.s₀.os
  bare : AllBare s.gens
  base : Un X.fs X.ex X.H₀ H X.s₀.heap s.heap
  loc : ∃ m, s.heap.Ns X.env.locals m ∧ ∀ (i : Nat) (x : Str) (v : V), X.N[i]? = some x → σ[i]? = some (some v) → Vis X.env.scope x → ∃ u, RelV v u ∧ Look X.env s.heap m x u
  cell : ∀ x c, X.env.cells.lookup x = some c → ∃ v, s.heap.IsCell c v
  free : H X.env.locals = none
  freeC : ∀ x c, X.env.cells.lookup x = some c → H c = none
  pin : ∀ p ∈ X.pn ++ pins, s.heap.get? p.1 = some p.2 ∧ H p.1 = none ∧ p.1 ≠ X.env.locals ∧ p.1 ∉ X.fs ∧ ∀ v, p.2.data ≠ .cell v
  hok : HOk X.prog X.w H s.heap
  len : σ.length = X.N.length
section
variable {X : Cx} {pins : List (Addr × Obj)} {σ : List (Option V)} {H H' : Hp} {s : Shared} {h' : Heap}
theorem Cx.Ok.nofr (ok : X.Ok) {b : Addr} {o : Obj} (e : X.base.get? b = some o) : b ∉ X.fs := fun hb => by
  have := (ok.funs.mem hb).1
  rw [e] at this; cases this
theorem Inv.bs (I : Inv X pins σ H s) : ∀ b o, X.base.get? b = some o → s.heap.get? b = some o ∧ H b = none := fun b o e =>
  ⟨I.base.keep b o (I.ok.bs b o e).1 (I.ok.bs b o e).2 (I.ok.nofr e) (I.ok.noex b o e), I.base.free b o (I.ok.bs b o e).1 (I.ok.bs b o e).2 (I.ok.noex b o e)⟩
theorem Inv.bk (I : Inv X pins σ H s) : ∀ b o, X.base.get? b = some o → s.heap.get? b = some o := fun b o e => (I.bs b o e).1
theorem Inv.mod (I : Inv X pins σ H s) : Mod X.K X.mg X.base := I.ok.mod
theorem Inv.kIn (I : Inv X pins σ H s) : X.K.In s.heap := I.ok.mod.kin.keeps I.bk
theorem Inv.nolimit (I : Inv X pins σ H s) : s.heap.NoLimit := I.ok.mod.nolimit.keeps I.bk
theorem Inv.fr (I : Inv X pins σ H s) : ∃ m, Fr X.base X.env.locals s.heap m :=
  let ⟨m, hn, _⟩ := I.loc
  ⟨m, hn, I.bk, Nat.le_trans I.ok.bsz I.ok.above⟩
theorem Inv.lt (I : Inv X pins σ H s) : X.env.locals < s.heap.objs.size := let ⟨_, hn, _⟩ := I.loc; hn.lt
theorem Inv.sz (I : Inv X pins σ H s) : X.s₀.heap.objs.size ≤ s.heap.objs.size := Nat.le_trans I.ok.above (Nat.le_of_lt I.lt)
theorem Inv.nofs (I : Inv X pins σ H s) {a : Addr} (h : s.heap.objs.size ≤ a) : a ∉ X.fs := fun hb => by
  obtain ⟨_, o, ho, _⟩ := I.ok.funs.mem hb
  exact absurd (Nat.lt_of_lt_of_le (Heap.lt_size ho) (Nat.le_trans I.sz h)) (Nat.lt_irrefl _)
theorem Inv.cne (I : Inv X pins σ H s) : ∀ x c, X.env.cells.lookup x = some c → c ≠ X.env.locals := fun x c e z => by
  obtain ⟨v, o, ho, hd⟩ := I.cell x c e
  obtain ⟨m, ⟨o', es, ep, ho', hd', _⟩, _⟩ := I.loc
  rw [z, ho'] at ho; cases ho; rw [hd'] at hd; cases hd
theorem Inv.funs (I : Inv X pins σ H s) : s.heap.FunFrames X.base X.outer := by
  have all : ∀ (l : List Env), (∀ b ∈ frs l, b ∈ X.fs) → X.s₀.heap.FunFrames X.base l → s.heap.FunFrames X.base l := by
    intro l
    induction l with
    | nil => intro _ _; trivial
    | cons env r ih =>
      intro hs hl
      obtain ⟨hk, ⟨L, o, hf, hn, ho, hd⟩, hr⟩ := hl
      have hL : L ∈ X.fs := hs L (by unfold frs; rw [List.filterMap_cons, hf]; exact List.mem_cons_self)
      obtain ⟨sl, e⟩ := I.base.slot L o ho (I.ok.frf L hL) hL fun z => I.ok.exfs L z hL
      exact ⟨hk, ⟨L, _, hf, hn, e, hd⟩, ih (fun b hb => hs b (by unfold frs; rw [List.filterMap_cons, hf]; exact List.mem_cons_of_mem _ hb)) hr⟩
  exact all X.outer (fun _ hb => hb) I.ok.funs
theorem Inv.stack (I : Inv X pins σ H s) : s.heap.FunFrames X.base X.stack := by
  rcases I.ok.stk with e | ⟨e, hf⟩
  · rw [e]; exact I.funs
  · rw [e]
    obtain ⟨m, hn, _⟩ := I.loc
    refine .cons (by rw [I.ok.kind]; decide) hf hn ?_ I.funs
    exact Heap.get?_none_of_le (Nat.le_trans I.ok.bsz I.ok.above)
theorem Inv.stkSub (I : Inv X pins σ H s) : ∀ b ∈ frs X.stack, b ∈ X.env.locals :: X.fs := fun b hb => by
  rcases I.ok.stk with e | ⟨e, hf⟩
  · rw [e] at hb; exact List.mem_cons_of_mem _ hb
  · rw [e] at hb
    unfold frs at hb
    rw [List.filterMap_cons, hf] at hb
    exact hb
theorem Inv.stkFree (I : Inv X pins σ H s) : ∀ b ∈ frs X.stack, H b = none := fun b hb => by
  rcases List.mem_cons.mp (I.stkSub b hb) with e | hb
  · rw [e]; exact I.free
  · obtain ⟨_, o, ho, _⟩ := I.ok.funs.mem hb
    exact I.base.free b o ho (I.ok.frf b hb) fun z => I.ok.exfs b z hb
theorem Inv.step {g' : Array GenState} {t' : Nat} {d' : Drawn} {ch : List Addr} (I : Inv X pins σ H s)
    (hch : ∀ b ∈ ch, (b ∈ X.ex ∨ X.s₀.heap.objs.size ≤ b) ∧ b ≠ X.env.locals ∧ (∀ x c, X.env.cells.lookup x = some c → c ≠ b) ∧ ∀ p ∈ X.pn ++ pins, p.1 ≠ b)
    (keep : ∀ b o, b ≠ X.env.locals → b ∉ X.fs → b ∉ ch → s.heap.get? b = some o → H b = none → h'.get? b = some o)
    (slot : ∀ b o, b ≠ X.env.locals → b ∈ X.fs → b ∉ ch → s.heap.get? b = some o → H b = none → ∃ sl, h'.get? b = some { o with slots := sl }) (free : ∀ b o, b ∉ ch → s.heap.get? b = some o → H b = none → H' b = none)
    (there : ∀ b o, b ∉ ch → s.heap.get? b = some o → ∃ o', h'.get? b = some o')
    (tups : ∀ b xs, H b = some (.tup xs) → H' b = some (.tup xs)) (frzs : ∀ b o u, H b = some (.frz o u) → H' b = some (.frz o u)) (tbls : ∀ b ps, H b = some (.tbl ps) → ∃ more, H' b = some (.tbl (ps ++ more)))
    (ns : ∀ m, s.heap.Ns X.env.locals m → h'.Ns X.env.locals m) (hok : HOk X.prog X.w H' h') (hg : AllBare g') :
    Inv X pins σ H' { s with heap := h', gens := g', drawn := d', toks := t' } := by
  have neL : ∀ b o, X.s₀.heap.get? b = some o → b ≠ X.env.locals := fun b o e => Nat.ne_of_lt (Nat.lt_of_lt_of_le (Heap.lt_size e) I.ok.above)
  have neC : ∀ b o, X.s₀.heap.get? b = some o → b ∉ X.ex → b ∉ ch := fun b o e hx hb => by
    rcases (hch b hb).1 with z | z
    · exact hx z
    · exact absurd (Nat.lt_of_lt_of_le (Heap.lt_size e) z) (Nat.lt_irrefl _)
  have cellK : ∀ x c, X.env.cells.lookup x = some c → ∀ v, s.heap.IsCell c v → h'.IsCell c v := by
    rintro x c e v ⟨o, ho, hd⟩
    have nch : c ∉ ch := fun z => (hch c z).2.2.1 x c e rfl
    by_cases hc : c ∈ X.fs
    · obtain ⟨sl, q⟩ := slot c o (I.cne x c e) hc nch ho (I.freeC x c e)
      exact ⟨_, q, hd⟩
    · exact ⟨o, keep c o (I.cne x c e) hc nch ho (I.freeC x c e), hd⟩
  refine ⟨I.ok, I.os, hg, ⟨fun b o e n hb hx => ?_, fun b o e n hb hx => ?_, fun b o e n hx => ?_, fun b o e hx => ?_, fun b xs e => tups b xs (I.base.tups b xs e), fun b o xs e => frzs b o xs (I.base.frzs b o xs e), fun b ps e => ?_⟩, ?_, fun x c e => ?_, ?_, fun x c e => ?_, fun p hp => ?_, hok, I.len⟩
  · exact keep b o (neL b o e) hb (neC b o e hx) (I.base.keep b o e n hb hx) (I.base.free b o e n hx)
  · obtain ⟨sl, e1⟩ := I.base.slot b o e n hb hx
    obtain ⟨sl', e2⟩ := slot b _ (neL b o e) hb (neC b o e hx) e1 (I.base.free b o e n hx)
    exact ⟨sl', e2⟩
  · obtain ⟨o', e1⟩ := I.base.there b o e hx
    exact free b o' (neC b o e hx) e1 (I.base.free b o e n hx)
  · obtain ⟨o', e1⟩ := I.base.there b o e hx
    exact there b o' (neC b o e hx) e1
  · obtain ⟨m1, e1⟩ := I.base.tbls b ps e
    obtain ⟨m2, e2⟩ := tbls b _ e1
    exact ⟨m1 ++ m2, by rw [e2, Array.append_assoc]⟩
  · obtain ⟨m, hn, hl⟩ := I.loc
    refine ⟨m, ns m hn, fun i x v e1 e2 e3 => ?_⟩
    obtain ⟨u, r, l⟩ := hl i x v e1 e2 e3
    refine ⟨u, r, ?_⟩
    rcases l with l | ⟨k, c, e, z⟩
    · exact .inl l
    · exact .inr ⟨k, c, e, cellK x c e _ z⟩
  · obtain ⟨v, z⟩ := I.cell x c e
    exact ⟨v, cellK x c e v z⟩
  · obtain ⟨m, ⟨o, _, _, ho, _⟩, _⟩ := I.loc
    exact free _ o (fun z => (hch _ z).2.1 rfl) ho I.free
  · obtain ⟨v, o, ho, hd⟩ := I.cell x c e
    exact free c o (fun z => (hch c z).2.2.1 x c e rfl) ho (I.freeC x c e)
  · obtain ⟨e, n, ne, nf, d⟩ := I.pin p hp
    have nch : p.1 ∉ ch := fun z => (hch p.1 z).2.2.2 p hp rfl
    exact ⟨keep p.1 p.2 ne nf nch e n, free p.1 p.2 nch e n, ne, nf, d⟩
theorem Inv.un {t' : Nat} (I : Inv X pins σ H s) (u : Un X.fs [] H H' s.heap h') (hok : HOk X.prog X.w H' h') : Inv X pins σ H' { s with heap := h', toks := t' } := by
  obtain ⟨m, ⟨o, es, ep, ho, r⟩, _⟩ := id I.loc
  obtain ⟨sl, hL⟩ := u.any ho I.free (by simp)
  exact I.step (g' := s.gens) (d' := s.drawn) (ch := []) (fun _ z => nomatch z) (fun b o _ hb _ e n => u.keep b o e n hb (by simp)) (fun b o _ hb _ e n => u.slot b o e n hb (by simp)) (fun b o _ e n => u.free b o e n (by simp)) (fun b o _ e => u.there b o e (by simp)) u.tups u.frzs u.tbls (fun m' hm => by
    obtain ⟨o', es', ep', ho', r'⟩ := hm
    rw [ho] at ho'; cases ho'
    exact ⟨_, es', ep', hL, r'⟩) hok I.bare
theorem Inv.call {g' : Array GenState} {t' : Nat} {d' : Drawn} {ch : List Addr} (I : Inv X pins σ H s) (u : Un (frs X.stack) ch H H' s.heap h') (hok : HOk X.prog X.w H' h') (hg : AllBare g')
    (hch : ∀ b ∈ ch, (b ∈ X.ex ∨ X.s₀.heap.objs.size ≤ b) ∧ b ≠ X.env.locals ∧ (∀ x c, X.env.cells.lookup x = some c → c ≠ b) ∧ ∀ p ∈ X.pn ++ pins, p.1 ≠ b) :
    Inv X pins σ H' { s with heap := h', gens := g', drawn := d', toks := t' } := by
  obtain ⟨m, ⟨o, es, ep, ho, r⟩, _⟩ := id I.loc
  obtain ⟨sl, hL⟩ := u.any ho I.free fun z => (hch _ z).2.1 rfl
  exact I.step (ch := ch) hch (fun b o hL hb hc e n => u.keep b o e n (fun z => (List.mem_cons.mp (I.stkSub b z)).elim hL hb) hc) (fun b o _ _ hc e n => u.any e n hc) (fun b o hc e n => u.free b o e n hc) (fun b o hc e => u.there b o e hc) u.tups u.frzs u.tbls (fun m' hm => by
    obtain ⟨o', es', ep', ho', r'⟩ := hm
    rw [ho] at ho'; cases ho'
    exact ⟨_, es', ep', hL, r'⟩) hok hg
theorem Inv.turned {t' : Nat} {it : Addr} (I : Inv X pins σ H s) (k : ∀ b o, b ≠ it → s.heap.get? b = some o → h'.get? b = some o) (hn : H it = none) (hL : it ≠ X.env.locals)
    (h1 : it ∈ X.ex ∨ X.s₀.heap.objs.size ≤ it) (h2 : ∀ x c, X.env.cells.lookup x = some c → c ≠ it) (h3 : ∀ p ∈ X.pn ++ pins, p.1 ≠ it) : Inv X pins σ H { s with heap := h', toks := t' } := by
  have nit : ∀ b u, H b = some u → b ≠ it := fun b u e z => by rw [z, hn] at e; cases e
  refine I.step (g' := s.gens) (d' := s.drawn) (ch := [it]) (fun b hb => ?_) (fun b o _ _ hc e _ => k b o (fun z => hc (by simp [z])) e) (fun b o _ _ hc e _ => ⟨o.slots, k b o (fun z => hc (by simp [z])) e⟩) (fun _ _ _ _ n => n)
    (fun b o hc e => ⟨o, k b o (fun z => hc (by simp [z])) e⟩) (fun _ _ e => e) (fun _ _ _ e => e) (fun b ps e => ⟨#[], by rw [e]; simp⟩) (fun m hm => ?_) (fun b u e => ?_) I.bare
  · have e : b = it := by simpa using hb
    subst e
    exact ⟨h1, hL, h2, h3⟩
  · obtain ⟨o, es, ep, ho, r⟩ := hm
    exact ⟨o, es, ep, k _ o (Ne.symm hL) ho, r⟩
  · refine (I.hok b u e).stay (fun c v hc q => k c v ?_ q) (fun _ q => q) fun _ _ q => q
    rcases hc with z | z
    · rw [z]; exact nit b u e
    · exact nit c _ z
theorem Inv.tok (I : Inv X pins σ H s) (t : Nat) : Inv X pins σ H { s with toks := t } := I.un (h' := s.heap) (t' := t) Un.refl I.hok
theorem Inv.kept {t' : Nat} (I : Inv X pins σ H s) (k : ∀ b u, s.heap.get? b = some u → h'.get? b = some u) : Inv X pins σ H { s with heap := h', toks := t' } := I.un (Un.kept k) (I.hok.kept k)
theorem Inv.laid {a : Addr} {o : HO} {t' : Nat} (I : Inv X pins σ H s) (k : ∀ b u, s.heap.get? b = some u → h'.get? b = some u) (hp : s.heap.objs.size ≤ a) (new : ObjOk X.prog X.w (upd H a o) h' a o) :
    Inv X pins σ (upd H a o) { s with heap := h', toks := t' } := I.un (Un.laid k hp (I.hok.fresh hp)) (I.hok.laid k hp new)
theorem Inv.write {x e : Addr} {o : HO} {t' : Nat} (I : Inv X pins σ H s) (mu : Mut (H x)) (he : e = x ∨ H e = some (.own x)) (k : ∀ b u, b ≠ e → s.heap.get? b = some u → h'.get? b = some u) (heo : ∃ u, h'.get? e = some u)
    (new : ObjOk X.prog X.w (upd H x o) h' x o) : Inv X pins σ (upd H x o) { s with heap := h', toks := t' } := I.un (Un.write mu he k heo) (I.hok.write mu he k heo new)
theorem Inv.weak {σ' : List (Option V)} (I : Inv X pins σ H s) (hl : σ'.length = σ.length) (w : ∀ (i : Nat) v, σ'[i]? = some (some v) → σ[i]? = some (some v)) : Inv X pins σ' H s :=
  ⟨I.ok, I.os, I.bare, I.base, let ⟨m, hn, hl'⟩ := I.loc; ⟨m, hn, fun i x v e1 e2 e3 => hl' i x v e1 (w i v e2) e3⟩, I.cell, I.free, I.freeC, I.pin, I.hok, hl.trans I.len⟩
theorem Inv.pins_of {pins' : List (Addr × Obj)} (I : Inv X pins σ H s) (h : ∀ p ∈ pins', s.heap.get? p.1 = some p.2 ∧ H p.1 = none ∧ p.1 ≠ X.env.locals ∧ p.1 ∉ X.fs ∧ ∀ v, p.2.data ≠ .cell v) : Inv X pins' σ H s :=
  ⟨I.ok, I.os, I.bare, I.base, I.loc, I.cell, I.free, I.freeC, fun p hp => (List.mem_append.mp hp).elim (fun z => I.pin p (List.mem_append_left _ z)) (h p), I.hok, I.len⟩
theorem nodup_ix {N : List Str} (hN : N.Nodup) {i j : Nat} {x : Str} (a : N[i]? = some x) (b : N[j]? = some x) : i = j := by
  obtain ⟨h1, e1⟩ := List.getElem?_eq_some_iff.mp a
  obtain ⟨h2, e2⟩ := List.getElem?_eq_some_iff.mp b
  exact (List.getElem_inj hN).mp (e1.trans e2.symm)
theorem store_ok2 {M : Model} {A : Around} {E : Value → Shared → Prop} {i : Nat} {x : Str} {v : V} {u : Value} {Q : Unit → Shared → Prop} (I : Inv X pins σ H s) (hN : X.N.Nodup) (hi : X.N[i]? = some x) (hx : Loc X.env.scope x) (r : RelV v u)
    (h : ∀ s', Inv X pins (σ.set i (some v)) H s' → (∃ a, Heap.SameBut a s.heap s'.heap ∧ (a = X.env.locals ∨ X.env.cells.lookup x = some a)) → Q () s') (hf : X.fn x = true ∨ X.env.scope.names.lookup x = some .local := by first | exact .inl rfl | exact .inr rfl | assumption) : wpAny M A (storeName X.env x u) Q E s := by
  obtain ⟨m, hn, hl⟩ := id I.loc
  have hcls : (X.env.scope.kind == .class || (X.env.scope.kind == .module && X.env.locals != X.env.globals)) = false := by rw [I.ok.kind]; rfl
  have hiσ : i < σ.length := by rw [I.len]; exact (List.getElem?_eq_some_iff.mp hi).1
  have cne := I.cne
  have tracked : ∀ {a : Addr} {h' : Heap}, (∃ o, s.heap.get? a = some o ∧ H a = none) → Heap.SameBut a s.heap h' → HOk X.prog X.w H h' := fun {a h'} ha hs b ob e => by
    obtain ⟨_, _, hfree⟩ := ha
    refine (I.hok b ob e).stay (fun c w' hc q => (hs.2 c ?_).trans q) (fun _ q => q) fun _ _ q => q
    rintro rfl
    rcases hc with rfl | hc
    · rw [hfree] at e; cases e
    · rw [hfree] at hc; cases hc
  rcases hx with hk | hk
  · refine wpAny_storeName_local hk hn (fun h' hn' hs => ?_) hcls
    obtain ⟨oL, _, _, hoL, _⟩ := id hn
    refine h _ ⟨I.ok, I.os, I.bare, ⟨fun b o e n hb hx => ?_, fun b o e n hb hx => ?_, I.base.free, fun b o e hx => ?_, I.base.tups, I.base.frzs, I.base.tbls⟩, ⟨_, hn', fun j y v' e1 e2 e3 => ?_⟩, fun y c e => ?_, I.free, I.freeC, fun p hp => ?_, tracked ⟨oL, hoL, I.free⟩ hs, by simpa using I.len⟩ ⟨_, hs, .inl rfl⟩
    · exact (hs.2 b (Nat.ne_of_lt (Nat.lt_of_lt_of_le (Heap.lt_size e) I.ok.above))).trans (I.base.keep b o e n hb hx)
    · obtain ⟨sl, e1⟩ := I.base.slot b o e n hb hx
      exact ⟨sl, (hs.2 b (Nat.ne_of_lt (Nat.lt_of_lt_of_le (Heap.lt_size e) I.ok.above))).trans e1⟩
    · obtain ⟨o', e1⟩ := I.base.there b o e hx
      exact ⟨o', (hs.2 b (Nat.ne_of_lt (Nat.lt_of_lt_of_le (Heap.lt_size e) I.ok.above))).trans e1⟩
    · by_cases hj : j = i
      · subst hj
        rw [hi] at e1; cases e1
        rw [List.getElem?_set_self hiσ] at e2
        cases e2
        exact ⟨u, r, .inl ⟨hk, by simp⟩⟩
      · rw [List.getElem?_set_ne (Ne.symm hj)] at e2
        obtain ⟨u', r', q⟩ := hl j y v' e1 e2 e3
        refine ⟨u', r', ?_⟩
        rcases q with ⟨k, e⟩ | ⟨k, c, e, z⟩
        · refine .inl ⟨k, ?_⟩
          have : y ≠ x := fun e => hj (nodup_ix hN e1 (e ▸ hi))
          simp [this, e]
        · exact .inr ⟨k, c, e, z.sameBut hs (cne y c e)⟩
    · obtain ⟨w', z⟩ := I.cell y c e
      exact ⟨w', z.sameBut hs (cne y c e)⟩
    · obtain ⟨e, n, ne, nf, d⟩ := I.pin p hp
      exact ⟨(hs.2 p.1 ne).trans e, n, ne, nf, d⟩
  · have hfn : X.fn x = true := by
      rcases hf with z | z
      · exact z
      · rw [z] at hk; cases hk
    obtain ⟨c, hc⟩ := I.ok.has x (.inl hk)
    obtain ⟨w', z⟩ := I.cell x c hc
    refine wpAny_storeName_cell I.ok.kind hk hc z (fun h' hc' hs => ?_)
    obtain ⟨oc, hoc, hocd⟩ := id z
    refine h { s with heap := h' } ⟨I.ok, I.os, I.bare, ⟨fun b o e n hb hx => ?_, fun b o e n hb hx => ?_, I.base.free, fun b o e hx => ?_, I.base.tups, I.base.frzs, I.base.tbls⟩, ⟨m, hn.sameBut hs (Ne.symm (cne x c hc)), fun j y v' e1 e2 e3 => ?_⟩, fun y c' e => ?_, I.free, I.freeC, fun p hp => ?_, tracked ⟨oc, hoc, I.freeC x c hc⟩ hs, by simpa using I.len⟩ ⟨c, hs, .inr hc⟩
    · exact (hs.2 b (Nat.ne_of_lt (Nat.lt_of_lt_of_le (Heap.lt_size e) (I.ok.cab x c hfn hc)))).trans (I.base.keep b o e n hb hx)
    · obtain ⟨sl, e1⟩ := I.base.slot b o e n hb hx
      exact ⟨sl, (hs.2 b (Nat.ne_of_lt (Nat.lt_of_lt_of_le (Heap.lt_size e) (I.ok.cab x c hfn hc)))).trans e1⟩
    · obtain ⟨o', e1⟩ := I.base.there b o e hx
      exact ⟨o', (hs.2 b (Nat.ne_of_lt (Nat.lt_of_lt_of_le (Heap.lt_size e) (I.ok.cab x c hfn hc)))).trans e1⟩
    · by_cases hj : j = i
      · subst hj
        rw [hi] at e1; cases e1
        rw [List.getElem?_set_self hiσ] at e2
        cases e2
        exact ⟨u, r, .inr ⟨.inl hk, c, hc, hc'⟩⟩
      · rw [List.getElem?_set_ne (Ne.symm hj)] at e2
        obtain ⟨u', r', q⟩ := hl j y v' e1 e2 e3
        refine ⟨u', r', ?_⟩
        rcases q with q | ⟨k, c', e, z'⟩
        · exact .inl q
        · refine .inr ⟨k, c', e, z'.sameBut hs ?_⟩
          rintro rfl
          exact hj (nodup_ix hN e1 (I.ok.inj _ _ _ e hc ▸ hi))
    · by_cases hcc : c' = c
      · subst hcc; exact ⟨_, hc'⟩
      · obtain ⟨w2, z2⟩ := I.cell y c' e
        exact ⟨w2, z2.sameBut hs hcc⟩
    · obtain ⟨e, n, ne, nf, d⟩ := I.pin p hp
      refine ⟨(hs.2 p.1 ?_).trans e, n, ne, nf, d⟩
      intro q
      rw [q, hoc] at e
      have q' : oc = p.2 := Option.some.inj e
      exact d w' (by rw [← q']; exact hocd)
theorem store_ok {M : Model} {A : Around} {E : Value → Shared → Prop} {i : Nat} {x : Str} {v : V} {u : Value} {Q : Unit → Shared → Prop} (I : Inv X pins σ H s) (hN : X.N.Nodup) (hi : X.N[i]? = some x) (hx : Loc X.env.scope x) (r : RelV v u)
    (h : ∀ s', Inv X pins (σ.set i (some v)) H s' → Q () s') (hf : X.fn x = true ∨ X.env.scope.names.lookup x = some .local := by first | exact .inl rfl | exact .inr rfl | assumption) : wpAny M A (storeName X.env x u) Q E s :=
  store_ok2 I hN hi hx r (fun s' I' _ => h s' I') hf
theorem Inv.call' {s' : Shared} {ch : List Addr} (I : Inv X pins σ H s) (ho : s'.os = s.os) (u : Un (frs X.stack) ch H H' s.heap s'.heap) (hok : HOk X.prog X.w H' s'.heap) (hg : AllBare s'.gens)
    (hch : ∀ b ∈ ch, (b ∈ X.ex ∨ X.s₀.heap.objs.size ≤ b) ∧ b ≠ X.env.locals ∧ (∀ x c, X.env.cells.lookup x = some c → c ≠ b) ∧ ∀ p ∈ X.pn ++ pins, p.1 ≠ b) : Inv X pins σ H' s' := by
  obtain ⟨h', g', d', t', o'⟩ := s'
  have e : o' = s.os := ho
  subst e
  exact I.call (g' := g') (t' := t') (d' := d') u hok hg hch
end
noncomputable abbrev XK := Value → Option Addr → Hp → Prop
noncomputable abbrev St := List (Option V)
noncomputable abbrev VK := V → Hp → Prop
noncomputable abbrev TE := St → Hp → VK → Prop
noncomputable abbrev TT := St → Hp → (Bool → Hp → Prop) → Prop
noncomputable abbrev TA := St → Hp → (List V → Hp → Prop) → Prop
structure Ends where
  nx : St → Hp → Prop
  rt : VK
  bk : St → Hp → Prop := fun _ _ => False
  ct : St → Hp → Prop := fun _ _ => False
noncomputable abbrev TS := Ends → St → Hp → Prop
noncomputable def EP (X : Cx) (pins : List (Addr × Obj)) (σ : St) (Q : VK) (u : Value) (s' : Shared) : Prop := ∃ v H', Inv X pins σ H' s' ∧ RelV v u ∧ Q v H'
noncomputable def TP (X : Cx) (pins : List (Addr × Obj)) (σ : St) (Q : Bool → Hp → Prop) (b : Bool) (s' : Shared) : Prop := ∃ H', Inv X pins σ H' s' ∧ Q b H'
noncomputable def AP (X : Cx) (pins : List (Addr × Obj)) (σ : St) (Q : List V → Hp → Prop) (us : List Value) (s' : Shared) : Prop := ∃ vs H', Inv X pins σ H' s' ∧ Vals vs us ∧ Q vs H'
noncomputable def SP (X : Cx) (pins : List (Addr × Obj)) (D : Ends) (f : Flow) (s' : Shared) : Prop :=
  match f with
  | .next => ∃ σ' H', Inv X pins σ' H' s' ∧ D.nx σ' H'
  | .brk => ∃ σ' H', Inv X pins σ' H' s' ∧ D.bk σ' H'
  | .cont => ∃ σ' H', Inv X pins σ' H' s' ∧ D.ct σ' H'
  | .ret u => ∃ v σ' H', Inv X pins σ' H' s' ∧ RelV v u ∧ D.rt v H'
noncomputable def PE (X : Cx) (e : Expr) (t : TE) : Prop :=
  ∀ (pins : List (Addr × Obj)) (s : Shared) (σ : St) (H : Hp) (Q : VK), Inv X pins σ H s → t σ H Q → wpAny (model X.prog X.w) X.A (eval e X.env) (EP X pins σ Q) X.xe s
noncomputable def PT (X : Cx) (e : Expr) (t : TT) : Prop :=
  ∀ (pins : List (Addr × Obj)) (s : Shared) (σ : St) (H : Hp) (Q : Bool → Hp → Prop), Inv X pins σ H s → t σ H Q → wpAny (model X.prog X.w) X.A (isTrue e X.env (eval e X.env)) (TP X pins σ Q) X.xe s
noncomputable def PW (X : Cx) (e : Expr) (t : TT) : Prop :=
  ∀ (whole : Sem Value) (pins : List (Addr × Obj)) (s : Shared) (σ : St) (H : Hp) (Q : Bool → Hp → Prop), Inv X pins σ H s → t σ H Q → wpAny (model X.prog X.w) X.A (isTrue e X.env whole) (TP X pins σ Q) X.xe s
theorem PW.pt {X : Cx} {e : Expr} {t : TT} (h : PW X e t) : PT X e t := h _
noncomputable def PA (X : Cx) (es : List Expr) (t : TA) : Prop :=
  ∀ (pos : Pos) (pins : List (Addr × Obj)) (s : Shared) (σ : St) (H : Hp) (Q : List V → Hp → Prop), Inv X pins σ H s → t σ H Q → wpAny (model X.prog X.w) X.A (spliced (backTo pos (starEach es X.env))) (AP X pins σ Q) X.xe s
noncomputable def PS (X : Cx) (st : Stmt) (t : TS) : Prop :=
  ∀ (pins : List (Addr × Obj)) (s : Shared) (σ : St) (H : Hp) (D : Ends), Inv X pins σ H s → t D σ H → wpAny (model X.prog X.w) X.A (exec st X.env) (SP X pins D) X.xe s
noncomputable def PSs (X : Cx) (st : List Stmt) (t : TS) : Prop :=
  ∀ (pins : List (Addr × Obj)) (s : Shared) (σ : St) (H : Hp) (D : Ends), Inv X pins σ H s → t D σ H → wpAny (model X.prog X.w) X.A (execs st X.env) (SP X pins D) X.xe s
theorem thn {α : Type} {t : Sem α} {Q Q' : α → Shared → Prop} {M : Model} {A : Around} {E : Value → Shared → Prop} {s : Shared} (h : wpAny M A t Q E s) (hQ : ∀ a s, Q a s → Q' a s) : wpAny M A t Q' E s := wpAny_mono h hQ fun _ _ x => x
section
variable {X : Cx}
noncomputable def tVar (i : Nat) : TE := fun σ H Q => ∃ v, σ[i]? = some (some v) ∧ Q v H
noncomputable def tC (v : V) : TE := fun _ H Q => Q v H
theorem pe_var {i : Nat} {x : Str} {pos : Pos} (hN : X.N[i]? = some x) (hv : Vis X.env.scope x) (hd : (x == ("__debug__" : Str)) = false := by decide) (hcd : (x == ("__classdict__" : Str)) = false := by decide) : PE X (.Name x pos) (tVar i) := by
  intro pins s σ H Q I h
  obtain ⟨v, e, h⟩ := h
  obtain ⟨m, hn, hl⟩ := I.loc
  obtain ⟨u, r, l⟩ := hl i x v hN e hv
  have fin : EP X pins σ Q u s := ⟨v, H, I, r, h⟩
  rcases l with ⟨hk, hm⟩ | ⟨hk, c, hc, hcell⟩
  · exact wpAny_Name (wpAny_loadName_local I.ok.kind hk hn hm fin) hd
  · rcases hk with hk | hk
    · exact wpAny_Name (wpAny_loadName_cell I.ok.kind hk hc hcell fin) hd
    · exact wpAny_Name (wpAny_loadName_free I.ok.kind hk hc hcell fin hcd) hd
theorem pe_int {i j pos} : PE X (.Constant (.int i) j pos) (tC (.int i)) := fun _ _ _ H _ I h => wpAny_Constant_int ⟨.int i, H, I.tok _, ⟨_, rfl⟩, h⟩
theorem pe_bl {b j pos} : PE X (.Constant (.bool b) j pos) (tC (.bl b)) := fun _ _ _ H _ I h => Constant_bool ⟨.bl b, H, I, rfl, h⟩
theorem pe_non {j pos} : PE X (.Constant .none j pos) (tC .non) := fun _ _ _ H _ I h => Constant_none ⟨.non, H, I, rfl, h⟩
theorem pe_str {x j pos} : PE X (.Constant (.str x) j pos) (tC (.str x)) := fun _ _ _ H _ I h => Calls.Constant_str ⟨.str x, H, I.tok _, ⟨_, rfl⟩, h⟩
noncomputable def Gl (X : Cx) (x : Str) : Prop := X.env.kindOf x = some .globalImplicit
theorem ld_glob {E : Value → Shared → Prop} {pins : List (Addr × Obj)} {s : Shared} {σ : St} {H : Hp} {x : Str} {u : Value} {pos : Pos} {Q : Value → Shared → Prop} (I : Inv X pins σ H s) (hg : Gl X x) (hm : X.mg x = some u) (h : Q u s)
    (hd : (x == ("__debug__" : Str)) = false := by decide) : wpAny (model X.prog X.w) X.A (eval (.Name x pos) X.env) Q E s :=
  Calls.Name_function_global I.ok.kind hg (Calls.loadGlobal_global (by rw [I.ok.glob]; exact I.mod.glob.keeps I.bk) hm h) hd
theorem ld_blt {E : Value → Shared → Prop} {pins : List (Addr × Obj)} {s : Shared} {σ : St} {H : Hp} {x : Str} {u : Value} {pos : Pos} {Q : Value → Shared → Prop} (I : Inv X pins σ H s) (hg : Gl X x) (hm : X.mg x = none) (hv : bootBuiltins x = some u) (h : Q u s)
    (hn : x ≠ "__name__" := by decide) (hd : (x == ("__debug__" : Str)) = false := by decide) : wpAny (model X.prog X.w) X.A (eval (.Name x pos) X.env) Q E s := by
  obtain ⟨mb, h1, h2⟩ := I.mod.blt
  exact Calls.Name_function_global I.ok.kind hg (Calls.loadGlobal_builtin (by rw [I.ok.glob]; exact I.mod.glob.keeps I.bk) hm (by rw [I.ok.blt]; exact h1.keeps I.bk) ((h2 x hn).trans hv) h) hd
theorem pe_glob {x : Str} {v : V} {u : Value} {pos : Pos} (hg : Gl X x) (hm : X.mg x = some u) (r : RelV v u) (hd : (x == ("__debug__" : Str)) = false := by decide) : PE X (.Name x pos) (tC v) :=
  fun _ _ _ H _ I h => ld_glob I hg hm ⟨v, H, I, r, h⟩ hd
variable {a b : Expr} {ta tb : TE} {pos : Pos}
theorem RelV.none_iff {x : V} {v : Value} (r : RelV x v) : (v == Value.none) = decide (x = .non) := by
  cases x with
  | non => cases r; rfl
  | bl _ => cases r; rfl
  | int _ => obtain ⟨t, rfl⟩ := r; rfl
  | str _ => obtain ⟨t, rfl⟩ := r; rfl
  | byt _ => obtain ⟨t, rfl⟩ := r; rfl
  | flt _ => obtain ⟨t, rfl⟩ := r; rfl
  | ref _ => cases r; rfl
  | ty _ => cases r; rfl
variable {tA tB' : TT} {rest : List Expr}
noncomputable def tAnd (t u : TT) : TT := fun σ H Q => t σ H fun c H1 => if c = true then u σ H1 Q else Q false H1
noncomputable def tOr (t u : TT) : TT := fun σ H Q => t σ H fun c H1 => if c = true then Q true H1 else u σ H1 Q
noncomputable def tNot (t : TT) : TT := fun σ H Q => t σ H fun c H1 => Q (!c) H1
theorem pw_and1 (ha : PT X a tA) : PW X (.BoolOp .And [a] pos) tA := by
  intro wh pins s σ H Q I h
  refine isTrue_and (thn (ha pins s σ H Q I h) fun c s1 e => ?_)
  cases c with
  | true => exact isTrue_and_nil e
  | false => exact e
theorem pw_or1 (ha : PT X a tA) : PW X (.BoolOp .Or [a] pos) tA := by
  intro wh pins s σ H Q I h
  refine isTrue_or (thn (ha pins s σ H Q I h) fun c s1 e => ?_)
  cases c with
  | false => exact isTrue_or_nil e
  | true => exact e
theorem pw_and (ha : PT X a tA) (hb : PW X (.BoolOp .And (b :: rest) pos) tB') : PW X (.BoolOp .And (a :: b :: rest) pos) (tAnd tA tB') := by
  intro wh pins s σ H Q I h
  refine isTrue_and (thn (ha pins s σ H _ I h) ?_)
  rintro c s1 ⟨H1, I1, q1⟩
  cases c with
  | true => exact hb wh pins s1 σ H1 Q I1 q1
  | false => exact ⟨H1, I1, q1⟩
theorem pw_or (ha : PT X a tA) (hb : PW X (.BoolOp .Or (b :: rest) pos) tB') : PW X (.BoolOp .Or (a :: b :: rest) pos) (tOr tA tB') := by
  intro wh pins s σ H Q I h
  refine isTrue_or (thn (ha pins s σ H _ I h) ?_)
  rintro c s1 ⟨H1, I1, q1⟩
  cases c with
  | true => exact ⟨H1, I1, q1⟩
  | false => exact hb wh pins s1 σ H1 Q I1 q1
theorem pt_not (ha : PT X a tA) : PT X (.UnaryOp .Not a pos) (tNot tA) := by
  intro pins s σ H Q I h
  exact isTrue_not (ha pins s σ H (fun c H1 => Q (!c) H1) I h)
noncomputable def tAndV (ta tb : TE) : TE := fun σ H Q => ta σ H fun x H1 => ∃ c, x = .bl c ∧ if c = true then tb σ H1 Q else Q (.bl false) H1
noncomputable def tOrV (ta tb : TE) : TE := fun σ H Q => ta σ H fun x H1 => ∃ c, x = .bl c ∧ if c = true then Q (.bl true) H1 else tb σ H1 Q
noncomputable def tNotV (ta : TE) : TE := fun σ H Q => ta σ H fun x H1 => ∃ c, x = .bl c ∧ Q (.bl (!c)) H1
theorem pe_one {op} {t : TE} (h : PE X a t) : PE X (.BoolOp op [a] pos) t := fun pins s σ H Q I hw => BoolOp_one (h pins s σ H Q I hw)
theorem pe_and (ha : PE X a ta) (hb : PE X (.BoolOp .And (b :: rest) pos) tb) : PE X (.BoolOp .And (a :: b :: rest) pos) (tAndV ta tb) := by
  intro pins s σ H Q I h
  refine BoolOp_and (thn (ha pins s σ H _ I h) ?_)
  rintro v s1 ⟨x, H1, I1, r1, q1⟩
  obtain ⟨c, rfl, q1⟩ := q1
  cases r1
  refine wpAny_truthy_bool ?_
  cases c with
  | true => exact hb pins s1 σ H1 Q I1 q1
  | false => exact ⟨.bl false, H1, I1, rfl, q1⟩
theorem pe_or (ha : PE X a ta) (hb : PE X (.BoolOp .Or (b :: rest) pos) tb) : PE X (.BoolOp .Or (a :: b :: rest) pos) (tOrV ta tb) := by
  intro pins s σ H Q I h
  refine BoolOp_or (thn (ha pins s σ H _ I h) ?_)
  rintro v s1 ⟨x, H1, I1, r1, q1⟩
  obtain ⟨c, rfl, q1⟩ := q1
  cases r1
  refine wpAny_truthy_bool ?_
  cases c with
  | false => exact hb pins s1 σ H1 Q I1 q1
  | true => exact ⟨.bl true, H1, I1, rfl, q1⟩
theorem pe_not (ha : PE X a ta) : PE X (.UnaryOp .Not a pos) (tNotV ta) := by
  intro pins s σ H Q I h
  refine UnaryOp_ (thn (ha pins s σ H _ I h) ?_)
  rintro v s1 ⟨x, H1, I1, r1, q1⟩
  obtain ⟨c, rfl, q1⟩ := q1
  cases r1
  exact not_of (wpAny_truthy_bool ⟨.bl (!c), H1, I1, rfl, q1⟩)
noncomputable def tIf (t : TT) (ta tb : TE) : TE := fun σ H Q => t σ H fun c H1 => if c = true then ta σ H1 Q else tb σ H1 Q
theorem pe_ifExp {c : Expr} (hc : PT X c tA) (ha : PE X a ta) (hb : PE X b tb) : PE X (.IfExp c a b pos) (tIf tA ta tb) := by
  intro pins s σ H Q I h
  refine wpAny_IfExp (thn (hc pins s σ H _ I h) ?_)
  rintro d s1 ⟨H1, I1, q1⟩
  cases d with
  | true => exact ha pins s1 σ H1 Q I1 q1
  | false => exact hb pins s1 σ H1 Q I1 q1
end
noncomputable def SqL (K : PySem.W.Frag) (H : Hp) (a : Addr) (xs : List V) : Prop :=
  Rd H a (.lst xs) ∨
    ∃ (o : Obj) (its : Array Value) (n : Nat), K.lookup a = some o ∧ o.cls = .type "list" ∧ o.dict = none ∧ o.data = .seq its n ∧ its.size ≤ sizeLine ∧ Vals xs its.toList
noncomputable def SqT (K : PySem.W.Frag) (H : Hp) (a : Addr) (xs : List V) : Prop :=
  Rd H a (.tup xs) ∨
    ∃ (o : Obj) (its : Array Value) (n : Nat), K.lookup a = some o ∧ o.cls = .type "tuple" ∧ o.dict = none ∧ o.data = .seq its n ∧ its.size ≤ sizeLine ∧ Vals xs its.toList
noncomputable def absV : Value → Option V
  | .none => some .non
  | .bool b => some (.bl b)
  | .int i _ => some (.int i)
  | .str x _ => some (.str x)
  | .bytes b _ => some (.byt b)
  | .float b _ => some (.flt b)
  | .ref a => some (.ref a)
  | .type n => some (.ty n)
  | _ => none
theorem RelV.abs {x : V} {u : Value} (r : RelV x u) : absV u = some x := by
  cases x with
  | non => cases r; rfl
  | bl _ => cases r; rfl
  | int _ => obtain ⟨t, rfl⟩ := r; rfl
  | str _ => obtain ⟨t, rfl⟩ := r; rfl
  | byt _ => obtain ⟨t, rfl⟩ := r; rfl
  | flt _ => obtain ⟨t, rfl⟩ := r; rfl
  | ref _ => cases r; rfl
  | ty _ => cases r; rfl
theorem RelV.inj {x y : V} {u : Value} (r : RelV x u) (q : RelV y u) : x = y := Option.some.inj (r.abs.symm.trans q.abs)
theorem Vals.inj {xs ys : List V} {us : List Value} (a : Vals xs us) (b : Vals ys us) : xs = ys := by
  induction a generalizing ys with
  | nil => cases b; rfl
  | cons r t ih =>
    cases b with
    | cons r' t' => rw [r.inj r', ih t']
section
variable {X : Cx} {pins : List (Addr × Obj)} {σ : St} {H : Hp} {s : Shared} {a : Addr} {xs ys : List V}
theorem SqL.of {K : PySem.W.Frag} (h : H a = some (.lst xs)) : SqL K H a xs := .inl (.inl h)
theorem SqT.of {K : PySem.W.Frag} (h : H a = some (.tup xs)) : SqT K H a xs := .inl (.inl h)
theorem Inv.list (I : Inv X pins σ H s) (h : SqL X.K H a xs) : ∃ its : List Value, Vals xs its ∧ PlainL s.heap a its.toArray ∧ xs.length ≤ sizeLine := by
  rcases h with h | ⟨o, its, n, hk, hc, hd, hs, hz, r⟩
  · obtain ⟨z, its, n, r, e⟩ := h.ok I.hok
    exact ⟨its, r, ⟨_, n, e, rfl, rfl, rfl⟩, z⟩
  · refine ⟨its.toList, r, ⟨o, n, I.kIn a o hk, hc, hd, by simpa using hs⟩, ?_⟩
    have e := r.length
    simp only [Array.length_toList] at e
    omega
theorem Inv.tuple (I : Inv X pins σ H s) (h : SqT X.K H a xs) : ∃ its : List Value, Vals xs its ∧ IsTup s.heap a its.toArray ∧ xs.length ≤ sizeLine := by
  rcases h with h | ⟨o, its, n, hk, hc, hd, hs, hz, r⟩
  · obtain ⟨z, its, r, p⟩ := h.ok I.hok
    exact ⟨its, r, p.to, z⟩
  · refine ⟨its.toList, r, ⟨o, I.kIn a o hk, hc, n, by simpa using hs⟩, ?_⟩
    have e := r.length
    simp only [Array.length_toList] at e
    omega
theorem Inv.tupleP (I : Inv X pins σ H s) (h : SqT X.K H a xs) : ∃ its : List Value, Vals xs its ∧ TupP s.heap a its.toArray ∧ xs.length ≤ sizeLine := by
  rcases h with h | ⟨o, its, n, hk, hc, hd, hs, hz, r⟩
  · obtain ⟨z, its, r, p⟩ := h.ok I.hok
    exact ⟨its, r, p, z⟩
  · refine ⟨its.toList, r, ⟨o, I.kIn a o hk, hc, hd, n, by simpa using hs⟩, ?_⟩
    have e := r.length
    simp only [Array.length_toList] at e
    omega
theorem Inv.list_inj (I : Inv X pins σ H s) (h : SqL X.K H a xs) (h' : SqL X.K H a ys) : xs = ys := by
  obtain ⟨its, r, ⟨o, n, e, _, _, d⟩, _⟩ := I.list h
  obtain ⟨its', r', ⟨o', n', e', _, _, d'⟩, _⟩ := I.list h'
  rw [e] at e'; cases e'
  rw [d] at d'
  injection d' with d1 _
  have : its = its' := by simpa using congrArg Array.toList d1
  subst this
  exact r.inj r'
theorem Inv.tuple_inj (I : Inv X pins σ H s) (h : SqT X.K H a xs) (h' : SqT X.K H a ys) : xs = ys := by
  obtain ⟨its, r, ⟨o, e, _, n, d⟩, _⟩ := I.tuple h
  obtain ⟨its', r', ⟨o', e', _, n', d'⟩, _⟩ := I.tuple h'
  rw [e] at e'; cases e'
  rw [d] at d'
  injection d' with d1 _
  have : its = its' := by simpa using congrArg Array.toList d1
  subst this
  exact r.inj r'
end
noncomputable abbrev Cx.wish (X : Cx) (E : Value → Shared → Prop) : Cx := { X with xe := E }
noncomputable abbrev Cx.nox (X : Cx) : Cx := X.wish fun _ _ => False
theorem Cx.Ok.wish {X : Cx} (ok : X.Ok) (E : Value → Shared → Prop) : (X.wish E).Ok :=
  ⟨ok.mod, ok.kind, ok.glob, ok.blt, ok.above, ok.inj, ok.has, ok.cab, ok.hd, ok.frames, ok.stk, ok.exf, ok.bs, ok.bsz, ok.noex, ok.exfs, ok.funs, ok.frf⟩
theorem Cx.Ok.unwish {X : Cx} {E : Value → Shared → Prop} (ok : (X.wish E).Ok) : X.Ok :=
  ⟨ok.mod, ok.kind, ok.glob, ok.blt, ok.above, ok.inj, ok.has, ok.cab, ok.hd, ok.frames, ok.stk, ok.exf, ok.bs, ok.bsz, ok.noex, ok.exfs, ok.funs, ok.frf⟩
section
variable {X : Cx} {pins : List (Addr × Obj)} {σ : St} {H : Hp} {s : Shared} {E : Value → Shared → Prop}
theorem Inv.wish (I : Inv X pins σ H s) (E : Value → Shared → Prop) : Inv (X.wish E) pins σ H s := ⟨I.ok.wish E, I.os, I.bare, I.base, I.loc, I.cell, I.free, I.freeC, I.pin, I.hok, I.len⟩
theorem Inv.unwish (I : Inv (X.wish E) pins σ H s) : Inv X pins σ H s := ⟨I.ok.unwish, I.os, I.bare, I.base, I.loc, I.cell, I.free, I.freeC, I.pin, I.hok, I.len⟩
theorem SP.unwish {D : Ends} {f : Flow} {s' : Shared} (h : SP (X.wish E) pins D f s') : SP X pins D f s' := by
  cases f with
  | next => obtain ⟨σ', H', I, q⟩ := h; exact ⟨σ', H', I.unwish, q⟩
  | brk => obtain ⟨σ', H', I, q⟩ := h; exact ⟨σ', H', I.unwish, q⟩
  | cont => obtain ⟨σ', H', I, q⟩ := h; exact ⟨σ', H', I.unwish, q⟩
  | ret u => obtain ⟨v, σ', H', I, r, q⟩ := h; exact ⟨v, σ', H', I.unwish, r, q⟩
theorem PE.nox {e : Expr} {t : TE} (h : PE X.nox e t) : PE X e t := fun pins s σ H Q I hw =>
  wpAny_mono (h pins s σ H Q (I.wish _) hw) (fun _ _ ⟨v, H', I', r, q⟩ => ⟨v, H', I'.unwish, r, q⟩) fun _ _ z => False.elim z
theorem PT.nox {e : Expr} {t : TT} (h : PT X.nox e t) : PT X e t := fun pins s σ H Q I hw =>
  wpAny_mono (h pins s σ H Q (I.wish _) hw) (fun _ _ ⟨H', I', q⟩ => ⟨H', I'.unwish, q⟩) fun _ _ z => False.elim z
theorem PSs.nox {st : List Stmt} {t : TS} (h : PSs X.nox st t) : PSs X st t := fun pins s σ H D I hw =>
  wpAny_mono (h pins s σ H D (I.wish _) hw) (fun _ _ q => q.unwish) fun _ _ z => False.elim z
end
section
variable {X : Cx} {st : Stmt} {rest : List Stmt} {t u : TS} {e : Expr} {te : TE} {pos : Pos}
noncomputable def tNext : TS := fun D σ H => D.nx σ H
noncomputable def tSeq (t u : TS) : TS := fun D σ H => t { D with nx := u D } σ H
theorem pss_nil : PSs X [] tNext := fun _ _ σ H _ I h => wpAny_execs_nil ⟨σ, H, I, h⟩
theorem pss_cons (h1 : PS X st t) (h2 : PSs X rest u) : PSs X (st :: rest) (tSeq t u) := by
  intro pins s σ H D I h
  refine wpAny_execs_cons (thn (h1 pins s σ H { D with nx := u D } I h) fun f s1 q => ?_)
  cases f with
  | next =>
    obtain ⟨σ', H', I', q⟩ := q
    exact h2 pins s1 σ' H' D I' q
  | ret v => exact q
  | brk => exact q
  | cont => exact q
theorem pss_one (h1 : PS X st t) : PSs X [st] t := by
  intro pins s σ H D I h
  refine wpAny_execs_cons (thn (h1 pins s σ H D I h) fun f s1 q => ?_)
  cases f with
  | next => exact wpAny_execs_nil q
  | ret v => exact q
  | brk => exact q
  | cont => exact q
noncomputable def tBreak : TS := fun D σ H => D.bk σ H
noncomputable def tCont : TS := fun D σ H => D.ct σ H
theorem ps_pass : PS X (.Pass pos) tNext := fun _ _ σ H _ I h => wpAny_Pass ⟨σ, H, I, h⟩
theorem ps_break : PS X (.Break pos) tBreak := fun _ _ σ H _ I h => wpAny_Break ⟨σ, H, I, h⟩
theorem ps_continue : PS X (.Continue pos) tCont := fun _ _ σ H _ I h => wpAny_Continue ⟨σ, H, I, h⟩
theorem Inv.quiet {pins : List (Addr × Obj)} {σ : St} {H : Hp} {s : Shared} (I : Inv X pins σ H s) : interactive X.env = false := by simp [interactive, I.ok.kind]
noncomputable def tDrop (te : TE) : TS := fun D σ H => te σ H fun _ H1 => D.nx σ H1
theorem ps_expr (he : PE X e te) (hs : swapsWith e none pos.line X.env = pure false := by rfl) : PS X (.Expr e pos) (tDrop te) := by
  intro pins s σ H D I h
  exact wpAny_Expr_any (thn (he pins s σ H _ I h) fun v s1 ⟨x, H1, I1, r1, q1⟩ => ⟨σ, H1, I1, q1⟩) I.quiet hs
noncomputable def tRet (te : TE) : TS := fun D σ H => te σ H D.rt
theorem ps_ret (he : PE X e te) : PS X (.Return (some e) pos) (tRet te) := by
  intro pins s σ H D I h
  refine wpAny_Return_some (thn (he pins s σ H _ I h) ?_)
  rintro v s1 ⟨x, H1, I1, r1, q1⟩
  exact ⟨x, σ, H1, I1, r1, q1⟩
noncomputable def tRetN : TS := fun D _ H => D.rt .non H
theorem ps_retN : PS X (.Return none pos) tRetN := fun _ _ σ H _ I h => wpAny_Return_none ⟨.non, σ, H, I, rfl, h⟩
noncomputable def tIfS (c : TT) (t u : TS) : TS := fun D σ H => c σ H fun b H1 => if b = true then t D σ H1 else u D σ H1
theorem ps_if {c : Expr} {a b : List Stmt} {tc : TT} (hc : PT X c tc) (ha : PSs X a t) (hb : PSs X b u) : PS X (.If c a b pos) (tIfS tc t u) := by
  intro pins s σ H D I h
  refine wpAny_If (thn (hc pins s σ H _ I h) ?_)
  rintro d s1 ⟨H1, I1, q1⟩
  cases d with
  | true => exact ha pins s1 σ H1 D I1 q1
  | false => exact hb pins s1 σ H1 D I1 q1
end
noncomputable abbrev TG := V → St → Hp → (St → Hp → Prop) → Prop
noncomputable abbrev TGs := List V → St → Hp → (St → Hp → Prop) → Prop
noncomputable def PG (X : Cx) (target : Expr) (t : TG) : Prop :=
  ∀ (pins : List (Addr × Obj)) (s : Shared) (σ : St) (H : Hp) (v : V) (u : Value) (Q : St → Hp → Prop), Inv X pins σ H s → RelV v u → t v σ H Q →
    wpAny (model X.prog X.w) X.A (assign target X.env u) (fun _ s' => ∃ σ' H', Inv X pins σ' H' s' ∧ Q σ' H') X.xe s
noncomputable def PGs (X : Cx) (ts : List Expr) (t : TGs) : Prop :=
  ∀ (pins : List (Addr × Obj)) (s : Shared) (σ : St) (H : Hp) (vs : List V) (us : List Value) (Q : St → Hp → Prop), Inv X pins σ H s → Vals vs us → t vs σ H Q →
    wpAny (model X.prog X.w) X.A (assignInOrder ((assignEach ts X.env).map (·.2)) us) (fun _ s' => ∃ σ' H', Inv X pins σ' H' s' ∧ Q σ' H') X.xe s
noncomputable abbrev TSet := V → V → V → Hp → (Hp → Prop) → Prop
noncomputable def PSet (X : Cx) (t : TSet) : Prop :=
  ∀ (pins : List (Addr × Obj)) (s : Shared) (σ : St) (H : Hp) (o i v : V) (ov iv u : Value) (Q : Hp → Prop), Inv X pins σ H s → RelV o ov → RelV i iv → RelV v u → t o i v H Q →
    wpAny (model X.prog X.w) X.A (setItem ov iv u) (fun _ s' => ∃ H', Inv X pins σ H' s' ∧ Q H') X.xe s
section
variable {X : Cx} {pos : Pos}
noncomputable def gName (i : Nat) : TG := fun v σ H Q => Q (σ.set i (some v)) H
theorem pg_name {i : Nat} {x : Str} (hN : X.N.Nodup) (hi : X.N[i]? = some x) (hx : Loc X.env.scope x) (hf : X.fn x = true ∨ X.env.scope.names.lookup x = some .local := by first | exact .inl rfl | exact .inr rfl | assumption) : PG X (.Name x pos) (gName i) := by
  intro pins s σ H v u Q I r h
  exact wpAny_assign_Name (store_ok I hN hi hx r (fun s' I' => ⟨_, H, I', h⟩) hf)
noncomputable def gNil : TGs := fun vs σ H Q => vs = [] ∧ Q σ H
noncomputable def gCons (t : TG) (u : TGs) : TGs := fun vs σ H Q => ∃ v r, vs = v :: r ∧ t v σ H fun σ' H' => u r σ' H' Q
theorem pgs_nil : PGs X [] gNil := by
  intro pins s σ H vs us Q I r h
  obtain ⟨e, h⟩ := h
  subst e
  cases r
  exact assignInOrder_nil ⟨σ, H, I, h⟩
theorem pgs_cons {e : Expr} {es : List Expr} {t : TG} {u : TGs} (h1 : PG X e t) (h2 : PGs X es u)
    (hs : (assignEach (e :: es) X.env).map (·.2) = assign e X.env :: (assignEach es X.env).map (·.2) := by rfl) : PGs X (e :: es) (gCons t u) := by
  intro pins s σ H vs us Q I r h
  obtain ⟨v, vr, e1, h⟩ := h
  subst e1
  cases r with
  | cons r rr =>
    rw [hs]
    refine assignInOrder_cons (thn (h1 pins s σ H _ _ _ I r h) ?_)
    rintro _ s1 ⟨σ1, H1, I1, q1⟩
    exact h2 pins s1 σ1 H1 _ _ Q I1 rr q1
noncomputable def gTup (K : PySem.W.Frag) (n : Nat) (t : TGs) : TG := fun v σ H Q => ∃ a xs, v = .ref a ∧ SqT K H a xs ∧ xs.length = n ∧ t xs σ H Q
theorem pg_tup {es : List Expr} {k : Nat} {t : TGs} {n : Nat} (hc : X.calm = true) (h : PGs X es t)
    (hn : (assignEach es X.env).length = n := by rfl) (hst : (assignEach es X.env).findIdx? (·.1) = none := by rfl) : PG X (.Tuple es k pos) (gTup X.K n t) := by
  intro pins s σ H v u Q I r hw
  obtain ⟨a, xs, e1, hq, hl, hw⟩ := hw
  subst e1
  cases r
  obtain ⟨its, rv, ht, hz⟩ := I.tuple hq
  refine assign_Tuple_tuple (I.ok.hd hc) ht (by simp [hn, ← hl, rv.length]) hst fun h' hx => ?_
  have I1 : Inv X pins σ H { s with heap := h' } := I.kept (t' := s.toks) fun b o e => hx b o (Nat.ne_of_lt (Heap.lt_size e)) e
  exact h pins _ σ H xs _ Q I1 (by simpa using rv) hw
noncomputable def gSub (to ti : TE) (t : TSet) : TG := fun v σ H Q => to σ H fun o H1 => ti σ H1 fun i H2 => t o i v H2 fun H3 => Q σ H3
theorem pg_sub {o i : Expr} {to ti : TE} {t : TSet} (ho : PE X o to) (hi : PE X i ti) (hs : PSet X t)
    (ha : ∀ v, assign (.Subscript o i pos) X.env v = (do
      let ov ← holding [v] (eval o X.env)
      let iv ← holding [v, ov] (eval i X.env)
      standAt pos
      holding [v, ov, iv] (setItem ov iv v)
      release [v, ov, iv] []) := by intro _; rfl) : PG X (.Subscript o i pos) (gSub to ti t) := by
  intro pins s σ H v u Q I r h
  rw [ha]
  refine wpAny_bind (wpAny_holding (thn (ho pins s σ H _ I h) ?_))
  rintro ov s1 ⟨x, H1, I1, r1, q1⟩
  refine wpAny_bind (wpAny_holding (thn (hi pins s1 σ H1 _ I1 q1) ?_))
  rintro iv s2 ⟨y, H2, I2, r2, q2⟩
  refine wpAny_bind (wpAny_standAt (wpAny_bind (wpAny_holding (thn (hs pins s2 σ H2 x y v ov iv u _ I2 r1 r2 r q2) ?_))))
  rintro _ s3 ⟨H3, I3, q3⟩
  exact wpAny_release ⟨σ, H3, I3, q3⟩
noncomputable def tAsg (te : TE) (g : TG) : TS := fun D σ H => te σ H fun x H1 => g x σ H1 D.nx
theorem ps_asg {tg e : Expr} {te : TE} {g : TG} (he : PE X e te) (hg : PG X tg g) (hs : swapsWithSole [tg] e pos.line X.env = pure false := by rfl) (hw : swappedStores [tg] e X.env = pure none := by rfl)
    (h1 : (assignEach [tg] X.env).map (·.2) = [assign tg X.env] := by rfl) : PS X (.Assign [tg] e pos) (tAsg te g) := by
  intro pins s σ H D I h
  refine wpAny_Assign_stores (thn (he pins s σ H _ I h) ?_) hs hw
  rintro v s1 ⟨x, H1, I1, r1, q1⟩
  rw [h1]
  exact thn (hg pins s1 σ H1 x v _ I1 r1 q1) fun _ s2 q => q
noncomputable def tPar (i j : Nat) (ta : TA) : TS := fun D σ H => ta σ H fun vs H1 => ∃ v w, vs = [v, w] ∧ D.nx ((σ.set i (some v)).set j (some w)) H1
theorem ps_par {i j : Nat} {x y : Str} {a b : Expr} {ta : TA} {px py pt : Pos} {kt k2 pt2} (hc : X.calm = true) (hN : X.N.Nodup) (hi : X.N[i]? = some x) (hj : X.N[j]? = some y) (hij : i ≠ j)
    (hx : X.env.scope.names.lookup x = some .local) (hy : X.env.scope.names.lookup y = some .local) (ha : PA X [a, b] ta)
    (hw : swappedStores [.Tuple [.Name x px, .Name y py] kt pt] (.Tuple [a, b] k2 pt2) X.env = pure (some [x, y]))
    (hs : swapsWithSole [.Tuple [.Name x px, .Name y py] kt pt] (.Tuple [a, b] k2 pt2) pos.line X.env = pure false := by rfl) :
    PS X (.Assign [.Tuple [.Name x px, .Name y py] kt pt] (.Tuple [a, b] k2 pt2) pos) (tPar i j ta) := by
  intro pins s σ H D I h
  rw [exec_Assign_arm]
  refine wpAny_bind (wpAny_standAt ?_)
  rw [hs]
  refine wpAny_bind (wpAny_pure ?_)
  rw [if_neg (by decide)]
  refine wpAny_bind (Tuple_ (thn (ha _ pins s σ H _ I h) ?_))
  rintro us s1 ⟨vs, H1, I1, r1, q1⟩
  obtain ⟨v, w, e1, q1⟩ := q1
  subst e1
  obtain ⟨u1, u2, rfl, rv, rw'⟩ : ∃ u1 u2, us = [u1, u2] ∧ RelV v u1 ∧ RelV w u2 := by
    cases r1 with
    | cons p q =>
      cases q with
      | cons p' q' =>
        cases q'
        exact ⟨_, _, rfl, p, p'⟩
  refine wpAny_newObj_type ?_ (by show 2 ≤ sizeLine; decide)
  have I2 : Inv X pins σ H1 { s1 with heap := s1.heap.push { cls := .type "tuple", data := .seq [u1, u2].toArray } } := I1.kept (t' := s1.toks) fun b o e => Heap.get?_push_of_some _ e
  rw [hw]
  refine wpAny_bind (wpAny_pure ?_)
  show wpAny (model X.prog X.w) X.A (do rule "assign.swapped-stores"; let items ← unpackItems (.ref s1.heap.objs.size) 2 none; assignInOrder [fun v => bindName X.env y v, fun v => bindName X.env x v] items.reverse; pure Flow.next) _ _ _
  refine wpAny_bind (wpAny_rule (wpAny_bind (unpackItems_tuple (items := #[u1, u2]) (I.ok.hd hc) (IsTup.new s1.heap _) fun h' hx' => ?_)))
  have I3 := I2.kept (h' := h') (t' := s1.toks) fun b o e => hx' b o (Nat.ne_of_lt (Heap.lt_size e)) e
  show wpAny _ _ (assignInOrder [fun v => bindName X.env y v, fun v => bindName X.env x v] [u2, u1] >>= fun _ => pure Flow.next) _ _ _
  refine wpAny_bind (assignInOrder_cons (wpAny_bindName (store_ok I3 hN hj (.inl hy) rw' (fun s2 I4 => ?_) (.inr hy))))
  refine assignInOrder_cons (wpAny_bindName (store_ok I4 hN hi (.inl hx) rv (fun s3 I5 => assignInOrder_nil (wpAny_pure ?_)) (.inr hx)))
  rw [List.set_comm _ _ (Ne.symm hij)] at I5
  exact ⟨_, H1, I5, q1⟩
end
section
variable {X : Cx} {pos : Pos}
end
structure It where
  go : Nat → Hp → Prop
  yld : Nat → Hp → V → Hp → Prop
  stop : Nat → Hp → Prop
noncomputable def FpOk (X : Cx) (pins : List (Addr × Obj)) (H : Hp) (b : Addr) : Prop :=
  H b = none ∧ b ≠ X.env.locals ∧ b ∉ X.fs ∧ (b ∈ X.ex ∨ X.s₀.heap.objs.size ≤ b) ∧ (∀ x c, X.env.cells.lookup x = some c → c ≠ b) ∧ ∀ p ∈ X.pn ++ pins, p.1 ≠ b
theorem Inv.fpOk {X : Cx} {pins : List (Addr × Obj)} {σ : St} {H H' : Hp} {s : Shared} {b : Addr} (I : Inv X pins σ H s) (hb : s.heap.objs.size ≤ b) (hn : H' b = none) : FpOk X pins H' b := by
  refine ⟨hn, Nat.ne_of_gt (Nat.lt_of_lt_of_le I.lt hb), I.nofs hb, .inr (Nat.le_trans I.sz hb), fun x c e z => ?_, fun p hp z => ?_⟩
  · obtain ⟨v, q⟩ := I.cell x c e
    exact absurd (Nat.lt_of_lt_of_le q.lt (by rw [z]; exact hb)) (Nat.lt_irrefl _)
  · exact absurd (Nat.lt_of_lt_of_le (Heap.lt_size (I.pin p hp).1) (by rw [z]; exact hb)) (Nat.lt_irrefl _)
structure Turn (P : Program) (w : World) (K : PySem.W.Frag) (tg : Expr) (J : It) (fp : List Addr) (it : Addr) (tn : Nat → Heap → Prop) : Prop where
  mem : it ∈ fp
  obj : ∀ i h, tn i h → ∀ b ∈ fp, ∃ o, h.get? b = some o ∧ ∀ v, o.data ≠ .cell v
  keep : ∀ i h h', tn i h → (∀ b ∈ fp, ∀ o, h.get? b = some o → h'.get? b = some o) → tn i h'
  item : ∀ (X : Cx), X.prog = P → X.w = w → X.K = K → X.calm = true → ∀ (i : Nat) (pins : List (Addr × Obj)) (s : Shared) (σ : St) (H : Hp) (E : Value → Shared → Prop), Inv X pins σ H s → (∀ b ∈ fp, FpOk X pins H b) → tn i s.heap → J.go i H →
    wpAny (model P w) X.A (pyNext (.ref it)) (fun r s1 => ∃ u, r = some u ∧
      wpAny (model P w) X.A (letOwnedTupleGo tg (.ref it) u) (fun _ s2 => ∃ x H', Inv X pins σ H' s2 ∧ RelV x u ∧ J.yld i H x H' ∧ tn (i + 1) s2.heap ∧ ∀ b ∈ fp, H' b = none) E s1) E s
  done : ∀ (X : Cx), X.prog = P → X.w = w → X.K = K → X.calm = true → ∀ (i : Nat) (pins : List (Addr × Obj)) (s : Shared) (σ : St) (H : Hp) (E : Value → Shared → Prop), Inv X pins σ H s → (∀ b ∈ fp, FpOk X pins H b) → tn i s.heap → J.stop i H →
    wpAny (model P w) X.A (pyNext (.ref it)) (fun r s1 => r = none ∧ Inv X pins σ H s1) E s
  self : ∀ (A : Around) (i : Nat) (s : Shared) (Q : Value → Shared → Prop) (E : Value → Shared → Prop), tn i s.heap → Q (.ref it) s → wpAny (model P w) A (pyIter (.ref it)) Q E s
noncomputable abbrev TI := St → Hp → (It → Hp → Prop) → Prop
noncomputable def PIE (X : Cx) (pins : List (Addr × Obj)) (σ : St) (tg : Expr) (R : It → Hp → Prop) (itv : Value) (s2 : Shared) : Prop :=
  ∃ (it : Addr) (fp : List Addr) (tn : Nat → Heap → Prop) (J : It) (H' : Hp), itv = .ref it ∧ Inv X pins σ H' s2 ∧ Turn X.prog X.w X.K tg J fp it tn ∧ tn 0 s2.heap ∧ (∀ b ∈ fp, FpOk X pins H' b) ∧ R J H'
noncomputable def PI (X : Cx) (tg iter : Expr) (wi : TI) : Prop :=
  ∀ (pins : List (Addr × Obj)) (s : Shared) (σ : St) (H : Hp) (R : It → Hp → Prop), Inv X pins σ H s → wi σ H R →
    wpAny (model X.prog X.w) X.A (eval iter X.env) (fun v s1 => wpAny (model X.prog X.w) X.A (pyIter v) (PIE X pins σ tg R) X.xe s1) X.xe s
theorem go_of {M : Model} {A : Around} {E : Value → Shared → Prop} {s : Shared} {tg : Expr} {it : Addr} {u : Value} {o : Obj} {n : String} {vs : Array Value} {Q : Unit → Shared → Prop} (ho : s.heap.get? it = some o) (hc : o.cls = .type n) (hd : o.data = .fields vs)
    (hn : ["enumerate", "zip", "dict_itemiterator", "dict_reverseitemiterator", "odict_iterator", "itertools.zip_longest", "itertools.pairwise"].contains n = false) (hQ : Q () s) : wpAny M A (letOwnedTupleGo tg (.ref it) u) Q E s := by
  unfold letOwnedTupleGo
  cases tg <;> first
    | exact wpAny_pure hQ
    | (cases u <;> first
        | exact wpAny_pure hQ
        | (refine wpAny_bind (wpAny_load ho ?_)
           rw [hc, hd]
           show wpAny M A (if (["enumerate", "zip", "dict_itemiterator", "dict_reverseitemiterator", "odict_iterator", "itertools.zip_longest", "itertools.pairwise"].contains n && vs[0]? == some (rawInt _)) = true then _ else _) Q E s
           rw [if_neg (by intro h; rw [hn, Bool.false_and] at h; cases h)]
           exact wpAny_pure hQ))
noncomputable def Itl (K : PySem.W.Frag) (a : Addr) : It :=
  ⟨fun i H => ∃ xs x, SqL K H a xs ∧ xs[i]? = some x, fun i H x H' => H' = H ∧ ∀ xs, SqL K H a xs → xs[i]? = some x, fun i H => ∃ xs, SqL K H a xs ∧ xs.length ≤ i⟩
noncomputable def Itt (K : PySem.W.Frag) (a : Addr) : It :=
  ⟨fun i H => ∃ xs x, SqT K H a xs ∧ xs[i]? = some x, fun i H x H' => H' = H ∧ ∀ xs, SqT K H a xs → xs[i]? = some x, fun i H => ∃ xs, SqT K H a xs ∧ xs.length ≤ i⟩
noncomputable def Itr (lo : Int) (n : Nat) : It := ⟨fun i _ => i < n, fun i H x H' => H' = H ∧ x = .int (lo + i), fun i _ => n ≤ i⟩
theorem turn_list {P : Program} {w : World} {K : PySem.W.Frag} {tg : Expr} (a it : Addr) : Turn P w K tg (Itl K a) [it] it (fun i h => h.IsListIter it a i) where
  mem := by simp
  obj := fun i h st b hb => by
    have e : b = it := by simpa using hb
    subst e
    obtain ⟨o, e, c, d⟩ := st
    exact ⟨o, e, fun v z => by rw [d] at z; cases z⟩
  keep := fun i h h' st k => st.at fun o e => k it (by simp) o e
  item := by
    intro X hP hw hK hc i pins s σ H E I hf st hg
    subst hP hw hK
    obtain ⟨xs, x, hq, hx⟩ := hg
    obtain ⟨its, rv, p, hz⟩ := I.list hq
    obtain ⟨u, hu, ru⟩ := rv.get hx
    obtain ⟨f0, f1, f2, f3, f4, f5⟩ := hf it (by simp)
    refine wpAny_pyNext_list_item st p.isList (x := u) (by simpa using hu) fun h' st' sb => ?_
    have I1 : Inv X pins σ H { s with heap := h' } := I.turned (t' := s.toks) (fun b o hb e => (sb.2 b hb).trans e) f0 f1 f3 f4 f5
    obtain ⟨o, e, c, d⟩ := id st'
    exact ⟨u, rfl, go_of (s := { s with heap := h' }) e c d (by decide) ⟨x, H, I1, ru, ⟨rfl, fun ys hy => by rw [I.list_inj hy hq]; exact hx⟩, st', fun b hb => (hf b hb).1⟩⟩
  done := by
    intro X hP hw hK hc i pins s σ H E I hf st hg
    subst hP hw hK
    obtain ⟨xs, hq, hx⟩ := hg
    obtain ⟨its, rv, p, hz⟩ := I.list hq
    obtain ⟨f0, f1, f2, f3, f4, f5⟩ := hf it (by simp)
    have hl := rv.length
    exact wpAny_pyNext_list_end (I.ok.hd hc) st p.isList (by simp; omega) fun h' eb => ⟨rfl, I.turned (t' := s.toks) (fun b o hb e => eb b o hb e) f0 f1 f3 f4 f5⟩
  self := fun _ _ _ _ _ st h => wpAny_pyIter_listiter st h
theorem turn_tuple {P : Program} {w : World} {K : PySem.W.Frag} {tg : Expr} (a it : Addr) : Turn P w K tg (Itt K a) [it] it (fun i h => h.IsTupleIter it a i) where
  mem := by simp
  obj := fun i h st b hb => by
    have e : b = it := by simpa using hb
    subst e
    obtain ⟨o, e, c, d⟩ := st
    exact ⟨o, e, fun v z => by rw [d] at z; cases z⟩
  keep := fun i h h' st k => st.at fun o e => k it (by simp) o e
  item := by
    intro X hP hw hK hc i pins s σ H E I hf st hg
    subst hP hw hK
    obtain ⟨xs, x, hq, hx⟩ := hg
    obtain ⟨its, rv, p, hz⟩ := I.tuple hq
    obtain ⟨u, hu, ru⟩ := rv.get hx
    obtain ⟨f0, f1, f2, f3, f4, f5⟩ := hf it (by simp)
    refine wpAny_pyNext_tuple_item st (show s.heap.IsTuple a its.toArray from p) (x := u) (by simpa using hu) fun h' st' sb => ?_
    have I1 : Inv X pins σ H { s with heap := h' } := I.turned (t' := s.toks) (fun b o hb e => (sb.2 b hb).trans e) f0 f1 f3 f4 f5
    obtain ⟨o, e, c, d⟩ := id st'
    exact ⟨u, rfl, go_of (s := { s with heap := h' }) e c d (by decide) ⟨x, H, I1, ru, ⟨rfl, fun ys hy => by rw [I.tuple_inj hy hq]; exact hx⟩, st', fun b hb => (hf b hb).1⟩⟩
  done := by
    intro X hP hw hK hc i pins s σ H E I hf st hg
    subst hP hw hK
    obtain ⟨xs, hq, hx⟩ := hg
    obtain ⟨its, rv, p, hz⟩ := I.tuple hq
    obtain ⟨f0, f1, f2, f3, f4, f5⟩ := hf it (by simp)
    have hl := rv.length
    exact wpAny_pyNext_tuple_end (I.ok.hd hc) st (show s.heap.IsTuple a its.toArray from p) (by simp; omega) fun h' eb => ⟨rfl, I.turned (t' := s.toks) (fun b o hb e => eb b o hb e) f0 f1 f3 f4 f5⟩
  self := fun _ _ _ _ _ st h => wpAny_pyIter_tupleiter st h
theorem turn_range {P : Program} {w : World} {K : PySem.W.Frag} {tg : Expr} (it : Addr) (lo : Int) (n : Nat) : Turn P w K tg (Itr lo n) [it] it (fun i h => IsRangeIter h it (lo + (i : Nat) * 1) ((n : Int) - (i : Nat)) 1) where
  mem := by simp
  obj := fun i h st b hb => by
    have e : b = it := by simpa using hb
    subst e
    exact ⟨_, st, fun v z => by
      have z' : Data.fields _ = Data.cell v := z
      cases z'⟩
  keep := fun i h h' st k => k it (by simp) _ st
  item := by
    intro X hP hw hK hc i pins s σ H E I hf st hg
    subst hP hw hK
    obtain ⟨f0, f1, f2, f3, f4, f5⟩ := hf it (by simp)
    have W := Walks.range (prog := X.prog) (w := X.w) (I.ok.hd hc) it lo 1 n
    refine W.item i s _ _ hg st fun v h' tk hv st' kk => ?_
    obtain ⟨t, rfl⟩ := hv
    have I1 : Inv X pins σ H { s with heap := h', toks := tk } := I.turned (fun b o hb e => kk b o (by simpa using hb) e) f0 f1 f3 f4 f5
    refine ⟨_, rfl, go_of (s := { s with heap := h', toks := tk }) (n := "range_iterator") st' rfl rfl (by decide) ⟨.int (lo + i), H, I1, ⟨t, ?_⟩, ⟨rfl, rfl⟩, st', fun b hb => (hf b hb).1⟩⟩
    rw [Int.mul_one]
  done := by
    intro X hP hw hK hc i pins s σ H E I hf st hg
    subst hP hw hK
    obtain ⟨f0, f1, f2, f3, f4, f5⟩ := hf it (by simp)
    exact wpAny_pyNext_range_end (I.ok.hd hc) st (by have : n ≤ i := hg; omega) fun h' eb => ⟨rfl, I.turned (t' := s.toks) (fun b o hb e => eb b o hb e) f0 f1 f3 f4 f5⟩
  self := fun _ _ _ _ _ st h => wpAny_pyIter_rangeiter st h
section
variable {X : Cx} {tg : Expr}
noncomputable def iList (K : PySem.W.Frag) (tl : TE) : TI := fun σ H R => tl σ H fun x H1 => ∃ a, x = .ref a ∧ (∃ xs, SqL K H1 a xs) ∧ R (Itl K a) H1
noncomputable def iTup (K : PySem.W.Frag) (tl : TE) : TI := fun σ H R => tl σ H fun x H1 => ∃ a, x = .ref a ∧ (∃ xs, SqT K H1 a xs) ∧ R (Itt K a) H1
theorem pi_list {l : Expr} {tl : TE} (hl : PE X l tl) : PI X tg l (iList X.K tl) := by
  intro pins s σ H R I h
  refine thn (hl pins s σ H _ I h) ?_
  rintro v s1 ⟨x, H1, I1, r1, q1⟩
  obtain ⟨a, e, ⟨xs, hq⟩, q⟩ := q1
  subst e
  cases r1
  obtain ⟨its, rv, p, hz⟩ := I1.list hq
  refine wpAny_pyIter_list p.isList ?_
  refine ⟨s1.heap.objs.size, [s1.heap.objs.size], _, _, H1, rfl, I1.kept (t' := s1.toks) fun b o e => Heap.get?_push_of_some _ e, turn_list a _, ⟨_, Heap.get?_push_size _ rfl, rfl, rfl⟩, fun b hb => ?_, q⟩
  have e : b = s1.heap.objs.size := by simpa using hb
  subst e
  exact I1.fpOk (Nat.le_refl _) (I1.hok.fresh (Nat.le_refl _))
theorem pi_tup {l : Expr} {tl : TE} (hl : PE X l tl) : PI X tg l (iTup X.K tl) := by
  intro pins s σ H R I h
  refine thn (hl pins s σ H _ I h) ?_
  rintro v s1 ⟨x, H1, I1, r1, q1⟩
  obtain ⟨a, e, ⟨xs, hq⟩, q⟩ := q1
  subst e
  cases r1
  obtain ⟨its, rv, p, hz⟩ := I1.tuple hq
  refine wpAny_pyIter_tuple (show s1.heap.IsTuple a its.toArray from p) ?_
  refine ⟨s1.heap.objs.size, [s1.heap.objs.size], _, _, H1, rfl, I1.kept (t' := s1.toks) fun b o e => Heap.get?_push_of_some _ e, turn_tuple a _, ⟨_, Heap.get?_push_size _ rfl, rfl, rfl⟩, fun b hb => ?_, q⟩
  have e : b = s1.heap.objs.size := by simpa using hb
  subst e
  exact I1.fpOk (Nat.le_refl _) (I1.hok.fresh (Nat.le_refl _))
theorem range_it {pins : List (Addr × Obj)} {σ : St} {H : Hp} {s : Shared} {R : It → Hp → Prop} {E : Value → Shared → Prop} {lo hi : Int} {t u v : Tok} {tk : Nat} (I : Inv X pins σ H s) (h1 : -(2 ^ 62) ≤ lo) (h2 : lo < 2 ^ 62) (h3 : -(2 ^ 62) ≤ hi) (h4 : hi < 2 ^ 62)
    (q : R (Itr lo (hi - lo).toNat) H) : wpAny (model X.prog X.w) X.A (pyIter (.ref s.heap.objs.size)) (PIE X pins σ tg R) E { s with heap := s.heap.push { cls := .type "range", data := .fields #[.int lo t, .int hi u, .int 1 v] }, toks := tk } := by
  refine wpAny_pyIter_range (IsRange.new ..) (small_one h1 h2 h3 h4) ?_
  have I1 : Inv X pins σ H { s with heap := s.heap.push { cls := .type "range", data := .fields #[.int lo t, .int hi u, .int 1 v] }, toks := tk } := I.kept fun b o e => Heap.get?_push_of_some _ e
  refine ⟨(s.heap.push { cls := .type "range", data := .fields #[.int lo t, .int hi u, .int 1 v] }).objs.size, [(s.heap.push { cls := .type "range", data := .fields #[.int lo t, .int hi u, .int 1 v] }).objs.size], _, _, H, rfl,
    I1.kept (t' := tk) fun b o e => Heap.get?_push_of_some _ e, turn_range _ lo (hi - lo).toNat, ?_, fun b hb => ?_, q⟩
  · have e1 : lo + ((0 : Nat) : Int) * 1 = lo := by simp
    have e2 : (((hi - lo).toNat : Nat) : Int) - ((0 : Nat) : Int) = Builtin.Range.rangeSize lo hi 1 := by rw [rangeSize_one]; split <;> omega
    show IsRangeIter _ _ (lo + ((0 : Nat) : Int) * 1) ((((hi - lo).toNat : Nat) : Int) - ((0 : Nat) : Int)) 1
    rw [e1, e2]
    exact Heap.get?_push_size _ rfl
  · have e : b = (s.heap.push { cls := .type "range", data := .fields #[.int lo t, .int hi u, .int 1 v] }).objs.size := by simpa using hb
    subst e
    exact I1.fpOk (Nat.le_refl _) (I1.hok.fresh (Nat.le_refl _))
noncomputable def iRng1 (ta : TA) : TI := fun σ H R => ta σ H fun vs H1 => ∃ j : Int, vs = [.int j] ∧ -(2 ^ 62) ≤ j ∧ j < 2 ^ 62 ∧ R (Itr 0 j.toNat) H1
theorem pi_range1 {a : Expr} {ta : TA} {p pos : Pos} (hg : Gl X "range") (hm : X.mg "range" = none) (ha : PA X [a] ta) (hs : starEach [a] X.env = [(false, eval a X.env)] := by rfl) : PI X tg (.Call (.Name "range" p) [a] [] pos) (iRng1 ta) := by
  intro pins s σ H R I h
  refine Call_ (ld_blt I hg hm boot_range (PyProof.Rows.callWith_type1 (thn (ha pos pins s σ H _ I h) ?_) hs rfl))
  rintro us s1 ⟨vs, H1, I1, r1, q1⟩
  obtain ⟨j, e, q1, q2, q⟩ := q1
  subst e
  cases r1 with
  | cons r rr =>
    cases rr
    obtain ⟨t, rfl⟩ := r
    exact call_range_1 (range_it I1 (by omega) (by omega) q1 q2 (by simpa using q))
noncomputable def tFor (wi : TI) (g : TG) (tb : TS) : TS := fun D σ H => wi σ H fun J H1 => ∃ W : Nat → Nat → St → Hp → Prop, (∃ m, W 0 m σ H1) ∧ ∀ i m σ H, W i m σ H →
  (J.stop i H ∧ D.nx σ H) ∨ (J.go i H ∧ ∃ N : St → Hp → Prop, (∀ σ' H', N σ' H' → ∃ m', m' < m ∧ W (i + 1) m' σ' H') ∧ ∀ x H', J.yld i H x H' → g x σ H' fun σ2 H2 => tb { D with nx := N, ct := N, bk := D.nx } σ2 H2)
noncomputable def pinsAt (fp : List Addr) (h : Heap) : List (Addr × Obj) := fp.filterMap fun b => (h.get? b).map fun o => (b, o)
theorem mem_pinsAt {fp : List Addr} {h : Heap} {b : Addr} {o : Obj} (hb : b ∈ fp) (e : h.get? b = some o) : (b, o) ∈ pinsAt fp h := List.mem_filterMap.mpr ⟨b, hb, by rw [e]; rfl⟩
theorem of_pinsAt {fp : List Addr} {h : Heap} {p : Addr × Obj} (hp : p ∈ pinsAt fp h) : p.1 ∈ fp ∧ h.get? p.1 = some p.2 := by
  obtain ⟨b, hb, e⟩ := List.mem_filterMap.mp hp
  cases q : h.get? b with
  | none => rw [q] at e; cases e
  | some o =>
    rw [q] at e
    have e' : (b, o) = p := Option.some.inj e
    subst e'
    exact ⟨hb, q⟩
theorem Inv.pinned {pins : List (Addr × Obj)} {σ : St} {H : Hp} {s : Shared} {fp : List Addr} (I : Inv X pins σ H s) (hf : ∀ b ∈ fp, FpOk X pins H b) (ho : ∀ b ∈ fp, ∃ o, s.heap.get? b = some o ∧ ∀ v, o.data ≠ .cell v) : Inv X (pins ++ pinsAt fp s.heap) σ H s :=
  I.pins_of fun p hp => (List.mem_append.mp hp).elim (fun z => I.pin p (List.mem_append_right _ z)) fun z => by
    obtain ⟨hb, e⟩ := of_pinsAt z
    obtain ⟨f0, f1, f2, _⟩ := hf p.1 hb
    obtain ⟨o, e', d⟩ := ho p.1 hb
    rw [e] at e'; cases e'
    exact ⟨e, f0, f1, f2, d⟩
theorem Inv.unpinned {pins pl : List (Addr × Obj)} {σ : St} {H : Hp} {s : Shared} (I : Inv X (pins ++ pl) σ H s) : Inv X pins σ H s := I.pins_of fun p hp => I.pin p (List.mem_append_right _ (List.mem_append_left _ hp))
theorem ps_for {iter : Expr} {body : List Stmt} {wi : TI} {g : TG} {tb : TS} {pos : Pos} (hp : PassesOwn (model X.prog X.w) X.A X.env X.xe) (hc : X.calm = true) (hi : PI X tg iter wi) (hg : PG X tg g) (hb : PSs X body tb)
    (hs : ∀ x, foldedSetIterable iter X.env x = pure x := by intro _; rfl) : PS X (.For tg iter body [] pos) (tFor wi g tb) := by
  intro pins s σ H D I h
  refine wpAny_For (thn (hi pins s σ H _ I h) fun v s1 h1 => thn h1 fun itv s2 h2 => ?_) hs
  obtain ⟨it, fp, tn, J, H2, e, I2, T, st2, f2, W, ⟨m0, w0⟩, turn⟩ := h2
  subst e
  -- what stays true of the iterator's objects through the loop
  have stat : ∀ {H' : Hp}, (∀ b ∈ fp, H' b = none) → ∀ b ∈ fp, FpOk X pins H' b := fun hn b hb => ⟨hn b hb, (f2 b hb).2⟩
  refine codeAny_forLoop_any (fun n s' => ∃ i σ' H', Inv X pins σ' H' s' ∧ tn i s'.heap ∧ (∀ b ∈ fp, H' b = none) ∧ W i n σ' H') ?_ m0 ⟨0, σ, H2, I2, st2, fun b hb => (f2 b hb).1, w0⟩
  rintro n s3 ⟨i, σ3, H3, I3, st3, fr3, w3⟩
  rcases turn i n σ3 H3 w3 with ⟨stop, qn⟩ | ⟨go, N, hN, step⟩
  · refine wpAny_passesOwn hp (thn (T.done X rfl rfl rfl hc i pins s3 σ3 H3 X.xe I3 (stat fr3) st3 stop) ?_)
    rintro r s4 ⟨hr, I4⟩
    subst hr
    exact wpAny_execs_nil ⟨σ3, H3, I4, qn⟩
  · refine wpAny_passesOwn hp (thn (T.item X rfl rfl rfl hc i pins s3 σ3 H3 X.xe I3 (stat fr3) st3 go) ?_)
    rintro r s4 ⟨u, hr, h4⟩
    subst hr
    refine wpAny_passesOwn hp (thn h4 ?_)
    rintro _ s5 ⟨x, H5, I5, r5, y5, st5, fr5⟩
    have I5' := I5.pinned (stat fr5) (T.obj _ _ st5)
    refine wpAny_passesOwn hp (thn (hg _ s5 σ3 H5 x u _ I5' r5 (step x H5 y5)) ?_)
    rintro _ s6 ⟨σ6, H6, I6, q6⟩
    refine wpAny_passesOwn hp (thn (hb _ s6 σ6 H6 _ I6 q6) fun f s7 q7 => ?_)
    have again : ∀ {σ7 : St} {H7 : Hp}, Inv X (pins ++ pinsAt fp s5.heap) σ7 H7 s7 → N σ7 H7 → ∃ m, m < n ∧ ∃ i σ' H', Inv X pins σ' H' s7 ∧ tn i s7.heap ∧ (∀ b ∈ fp, H' b = none) ∧ W i m σ' H' := fun {σ7 H7} I7 n7 => by
      obtain ⟨m', hm, w7⟩ := hN σ7 H7 n7
      refine ⟨m', hm, i + 1, σ7, H7, I7.unpinned, T.keep _ _ _ st5 fun b hb o e => (I7.pin (b, o) (List.mem_append_right _ (List.mem_append_right _ (mem_pinsAt hb e)))).1, fun b hb => ?_, w7⟩
      obtain ⟨o, e, d⟩ := T.obj _ _ st5 b hb
      exact (I7.pin (b, o) (List.mem_append_right _ (List.mem_append_right _ (mem_pinsAt hb e)))).2.1
    cases f with
    | next => obtain ⟨σ7, H7, I7, n7⟩ := q7; exact again I7 n7
    | cont => obtain ⟨σ7, H7, I7, n7⟩ := q7; exact again I7 n7
    | brk => obtain ⟨σ7, H7, I7, q7⟩ := q7; exact ⟨σ7, H7, I7.unpinned, q7⟩
    | ret v => obtain ⟨x7, σ7, H7, I7, r7, q7⟩ := q7; exact ⟨x7, σ7, H7, I7.unpinned, r7, q7⟩
end
noncomputable abbrev R2 := V → V → Hp → VK → Prop
noncomputable def OpR (X : Cx) (f : Value → Value → Sem Value) (r : R2) : Prop :=
  ∀ (pins : List (Addr × Obj)) (s : Shared) (σ : St) (H : Hp) (x y : V) (v u : Value) (Q : VK), Inv X pins σ H s → RelV x v → RelV y u → r x y H Q →
    wpAny (model X.prog X.w) X.A (f v u) (EP X pins σ Q) X.xe s
noncomputable def UnR (X : Cx) (f : Value → Sem Value) (r : V → Hp → VK → Prop) : Prop :=
  ∀ (pins : List (Addr × Obj)) (s : Shared) (σ : St) (H : Hp) (x : V) (v : Value) (Q : VK), Inv X pins σ H s → RelV x v → r x H Q →
    wpAny (model X.prog X.w) X.A (f v) (EP X pins σ Q) X.xe s
noncomputable def CallR (X : Cx) (f : Value) (r : List V → Hp → VK → Prop) : Prop :=
  ∀ (pins : List (Addr × Obj)) (s : Shared) (σ : St) (H : Hp) (xs : List V) (us : List Value) (Q : VK), Inv X pins σ H s → Vals xs us → r xs H Q →
    wpAny (model X.prog X.w) X.A (call f us) (EP X pins σ Q) X.xe s
noncomputable def TruR (X : Cx) (r : V → Hp → (Bool → Hp → Prop) → Prop) : Prop :=
  ∀ (pins : List (Addr × Obj)) (s : Shared) (σ : St) (H : Hp) (x : V) (v : Value) (Q : Bool → Hp → Prop), Inv X pins σ H s → RelV x v → r x H Q →
    wpAny (model X.prog X.w) X.A (truthy v) (TP X pins σ Q) X.xe s
noncomputable def tOp (r : R2) (ta tb : TE) : TE := fun σ H Q => ta σ H fun x H1 => tb σ H1 fun y H2 => r x y H2 Q
noncomputable def tUn (r : V → Hp → VK → Prop) (ta : TE) : TE := fun σ H Q => ta σ H fun x H1 => r x H1 Q
noncomputable def rI (C : Int → Int → Prop) (g : Int → Int → V) : R2 := fun x y H Q => ∃ i j, x = .int i ∧ y = .int j ∧ C i j ∧ Q (g i j) H
noncomputable def rI0 (g : Int → Int → V) : R2 := fun x y H Q => ∃ i j, x = .int i ∧ y = .int j ∧ Q (g i j) H
noncomputable def rU (g : Int → V) : V → Hp → VK → Prop := fun x H Q => ∃ i, x = .int i ∧ Q (g i) H
section
variable {X : Cx} {a b c : Expr} {ta tb tc : TE} {pos : Pos}
theorem binT (ha : PE X a ta) (hb : PE X b tb) {pins : List (Addr × Obj)} {s : Shared} {σ : St} {H : Hp} {R : V → V → Hp → Prop} (I : Inv X pins σ H s)
    (h : ta σ H fun x H1 => tb σ H1 fun y H2 => R x y H2) {Q : Value → Shared → Prop} {f : Value → Value → Sem Value}
    (hf : ∀ v u s2 x y H2, Inv X pins σ H2 s2 → RelV x v → RelV y u → R x y H2 → wpAny (model X.prog X.w) X.A (f v u) Q X.xe s2) :
    wpAny (model X.prog X.w) X.A (eval a X.env) (fun v s₁ => wpAny (model X.prog X.w) X.A (eval b X.env) (fun u s₂ => wpAny (model X.prog X.w) X.A (f v u) Q X.xe s₂) X.xe s₁) X.xe s := by
  refine thn (ha pins s σ H _ I h) ?_
  rintro v s1 ⟨x, H1, I1, r1, q1⟩
  refine thn (hb pins s1 σ H1 _ I1 q1) ?_
  rintro u s2 ⟨y, H2, I2, r2, q2⟩
  exact hf v u s2 x y H2 I2 r1 r2 q2
theorem pe_op {op : Operator} {r : R2} (ho : OpR X (binaryOp op) r) (ha : PE X a ta) (hb : PE X b tb) : PE X (.BinOp a op b pos) (tOp r ta tb) := by
  intro pins s σ H Q I h
  exact wpAny_BinOp (binT ha hb I h fun v u s2 x y H2 I2 rx ry q => ho pins s2 σ H2 x y v u Q I2 rx ry q)
theorem pe_un {op : UnaryOp} {r : V → Hp → VK → Prop} (ho : UnR X (unaryOp op) r) (ha : PE X a ta) : PE X (.UnaryOp op a pos) (tUn r ta) := by
  intro pins s σ H Q I h
  refine UnaryOp_ (thn (ha pins s σ H _ I h) ?_)
  rintro v s1 ⟨x, H1, I1, r1, q1⟩
  exact ho pins s1 σ H1 x v Q I1 r1 q1
theorem opI {f : Value → Value → Sem Value} {C : Int → Int → Prop} {g : Int → Int → Int}
    (rule : ∀ (i j : Int) (t u : Tok) (s : Shared) (Q : Value → Shared → Prop) (E : Value → Shared → Prop), C i j → Q (.int (g i j) s.toks) { s with toks := s.toks + 1 } → wpAny (model X.prog X.w) X.A (f (.int i t) (.int j u)) Q E s) :
    OpR X f (rI C fun i j => .int (g i j)) := by
  intro pins s σ H x y v u Q I rx ry h
  obtain ⟨i, j, rfl, rfl, hc, q⟩ := h
  obtain ⟨t, rfl⟩ := rx
  obtain ⟨t', rfl⟩ := ry
  exact rule i j t t' s _ _ hc ⟨.int (g i j), H, I.tok _, ⟨_, rfl⟩, q⟩
theorem opI0 {f : Value → Value → Sem Value} {g : Int → Int → Int}
    (rule : ∀ (i j : Int) (t u : Tok) (s : Shared) (Q : Value → Shared → Prop) (E : Value → Shared → Prop), Q (.int (g i j) s.toks) { s with toks := s.toks + 1 } → wpAny (model X.prog X.w) X.A (f (.int i t) (.int j u)) Q E s) :
    OpR X f (rI0 fun i j => .int (g i j)) := by
  intro pins s σ H x y v u Q I rx ry h
  obtain ⟨i, j, rfl, rfl, q⟩ := h
  obtain ⟨t, rfl⟩ := rx
  obtain ⟨t', rfl⟩ := ry
  exact rule i j t t' s _ _ ⟨.int (g i j), H, I.tok _, ⟨_, rfl⟩, q⟩
theorem opB0 {f : Value → Value → Sem Value} {g : Int → Int → Bool}
    (rule : ∀ (i j : Int) (t u : Tok) (s : Shared) (Q : Value → Shared → Prop) (E : Value → Shared → Prop), Q (.bool (g i j)) s → wpAny (model X.prog X.w) X.A (f (.int i t) (.int j u)) Q E s) :
    OpR X f (rI0 fun i j => .bl (g i j)) := by
  intro pins s σ H x y v u Q I rx ry h
  obtain ⟨i, j, rfl, rfl, q⟩ := h
  obtain ⟨t, rfl⟩ := rx
  obtain ⟨t', rfl⟩ := ry
  exact rule i j t t' s _ _ ⟨.bl (g i j), H, I, rfl, q⟩
noncomputable def CPow (i j : Int) : Prop := 0 ≤ j ∧ j ≤ 1000000 ∧ i.natAbs < 2 ^ 64
noncomputable def CMul (i j : Int) : Prop := (-(2 ^ 64) < i ∧ i < 2 ^ 64) ∨ (-(2 ^ 64) < j ∧ j < 2 ^ 64)
theorem CMul.ok {i j : Int} (h : CMul i j) : IntMulOk i j := by
  rcases h with ⟨h1, h2⟩ | ⟨h1, h2⟩
  · exact .of_left (intBits_le_64 h1 h2)
  · exact .of_right (intBits_le_64 h1 h2)
theorem op_add : OpR X (binaryOp .Add) (rI0 fun i j => .int (i + j)) := opI0 fun _ _ _ _ _ _ _ q => add_int q
theorem op_sub : OpR X (binaryOp .Sub) (rI0 fun i j => .int (i - j)) := opI0 fun _ _ _ _ _ _ _ q => sub_int q
theorem op_mul : OpR X (binaryOp .Mult) (rI CMul fun i j => .int (i * j)) := opI fun _ _ _ _ _ _ _ hc q => mul_int q hc.ok
theorem op_modN : OpR X (binaryOp .Mod) (rI (fun _ j => j ≠ 0) fun i j => .int (i.fmod j)) := opI fun _ _ _ _ _ _ _ hc q => mod_int' hc q
theorem op_pow : OpR X (binaryOp .Pow) (rI CPow fun i j => .int (i ^ j.toNat)) := opI fun _ _ _ _ _ _ _ hc q => pow_int_small hc.1 hc.2.1 hc.2.2 q
theorem unI {f : Value → Sem Value} {g : Int → Int}
    (rule : ∀ (i : Int) (t : Tok) (s : Shared) (Q : Value → Shared → Prop) (E : Value → Shared → Prop), Q (.int (g i) s.toks) { s with toks := s.toks + 1 } → wpAny (model X.prog X.w) X.A (f (.int i t)) Q E s) :
    UnR X f (rU fun i => .int (g i)) := by
  intro pins s σ H x v Q I rx h
  obtain ⟨i, rfl, q⟩ := h
  obtain ⟨t, rfl⟩ := rx
  exact rule i t s _ _ ⟨.int (g i), H, I.tok _, ⟨_, rfl⟩, q⟩
theorem un_neg : UnR X (unaryOp .USub) (rU fun i => .int (-i)) := unI fun _ _ _ _ _ q => neg_int q
end
section
variable {X : Cx} {a b c : Expr} {ta tb tc : TE} {pos : Pos}
theorem op_lt : OpR X (compareOp .Lt) (rI0 fun i j => .bl (decide (i < j))) := opB0 fun _ _ _ _ _ _ _ q => lt_int q
theorem op_le : OpR X (compareOp .LtE) (rI0 fun i j => .bl (decide (i ≤ j))) := opB0 fun _ _ _ _ _ _ _ q => le_int q
theorem op_gt : OpR X (compareOp .Gt) (rI0 fun i j => .bl (decide (j < i))) := opB0 fun _ _ _ _ _ _ _ q => gt_int q
theorem op_ge : OpR X (compareOp .GtE) (rI0 fun i j => .bl (decide (j ≤ i))) := opB0 fun _ _ _ _ _ _ _ q => ge_int q
theorem OpR.or {f : Value → Value → Sem Value} {r r' : R2} (h : OpR X f r) (h' : OpR X f r') : OpR X f (fun x y H Q => r x y H Q ∨ r' x y H Q) := by
  intro pins s σ H x y v u Q I rx ry q
  rcases q with q | q
  · exact h pins s σ H x y v u Q I rx ry q
  · exact h' pins s σ H x y v u Q I rx ry q
theorem nomark (b : Expr) {op : CmpOp} (h : op ≠ .In := by decide) (h2 : op ≠ .NotIn := by decide) : behindInMarks op b = false := by
  have e1 : (op == CmpOp.In) = false := by cases op <;> first | rfl | exact absurd rfl h
  have e2 : (op == CmpOp.NotIn) = false := by cases op <;> first | rfl | exact absurd rfl h2
  cases b <;> simp [behindInMarks, e1, e2]
theorem pe_cmpR {op : CmpOp} {r : R2} (ho : OpR X (compareOp op) r) (ha : PE X a ta) (hb : PE X b tb) (hm : behindInMarks op b = false) : PE X (.Compare a [op] [b] pos) (tOp r ta tb) := by
  intro pins s σ H Q I h
  exact wpAny_Compare1 (binT ha hb I h fun v u s2 x y H2 I2 rx ry q => ho pins s2 σ H2 x y v u Q I2 rx ry q) hm
noncomputable def tTest (t : TE) : TT := fun σ H Q => t σ H fun x H' => ∃ k, x = .bl k ∧ Q k H'
theorem pt_cmpR {op : CmpOp} {r : R2} (ho : OpR X (compareOp op) r) (ha : PE X a ta) (hb : PE X b tb) (hm : behindInMarks op b = false) : PT X (.Compare a [op] [b] pos) (tTest (tOp r ta tb)) := by
  intro pins s σ H Q I h
  refine wpAny_isTrue_Compare1 (thn (ha pins s σ H _ I h) fun v s1 ⟨x, H1, I1, r1, q1⟩ => thn (hb pins s1 σ H1 _ I1 q1) fun u s2 ⟨y, H2, I2, r2, q2⟩ =>
    thn (ho pins s2 σ H2 x y v u _ I2 r1 r2 q2) fun c s3 ⟨z, H3, I3, r3, k, e, q3⟩ => ?_) hm
  subst e
  cases r3
  exact wpAny_truthy_bool ⟨H3, I3, q3⟩
noncomputable def tChain (r r' : R2) (ta tb tc : TE) : TE := fun σ H Q => ta σ H fun x H1 => tb σ H1 fun y H2 => r x y H2 fun z H3 => ∃ k, z = .bl k ∧
  (if k = true then tc σ H3 fun w' H4 => r' y w' H4 Q else Q (.bl false) H3)
theorem pe_chain {op op' : CmpOp} {r r' : R2} (ho : OpR X (compareOp op) r) (ho' : OpR X (compareOp op') r') (ha : PE X a ta) (hb : PE X b tb) (hc : PE X c tc)
    (hm : lastMarks [op, op'] [b, c] = false := by with_unfolding_all rfl) : PE X (.Compare a [op, op'] [b, c] pos) (tChain r r' ta tb tc) := by
  intro pins s σ H Q I h
  refine Compare_chain (thn (ha pins s σ H _ I h) fun v s1 ⟨x, H1, I1, r1, q1⟩ => chain_link (thn (hb pins s1 σ H1 _ I1 q1) fun u s2 ⟨y, H2, I2, r2, q2⟩ =>
    thn (ho pins s2 σ H2 x y v u _ I2 r1 r2 q2) fun d s3 ⟨z, H3, I3, r3, k, e, q3⟩ => ?_)) hm
  subst e
  cases r3
  refine wpAny_truthy_bool ?_
  cases k with
  | false => exact ite_ff ⟨.bl false, H3, I3, rfl, q3⟩
  | true => exact ite_tt (chain_last (thn (hc pins s3 σ H3 _ I3 q3) fun w' s4 ⟨z', H4, I4, r4, q4⟩ => ho' pins s4 σ H4 y z' u w' Q I4 r2 r4 q4))
theorem pt_chain {op op' : CmpOp} {r r' : R2} (ho : OpR X (compareOp op) r) (ho' : OpR X (compareOp op') r') (ha : PE X a ta) (hb : PE X b tb) (hc : PE X c tc)
    (hm : lastMarks [op, op'] [b, c] = false := by with_unfolding_all rfl) : PT X (.Compare a [op, op'] [b, c] pos) (tTest (tChain r r' ta tb tc)) := by
  intro pins s σ H Q I h
  refine isTrue_chain (thn (ha pins s σ H _ I h) fun v s1 ⟨x, H1, I1, r1, q1⟩ => test_link (thn (hb pins s1 σ H1 _ I1 q1) fun u s2 ⟨y, H2, I2, r2, q2⟩ =>
    thn (ho pins s2 σ H2 x y v u _ I2 r1 r2 q2) fun d s3 ⟨z, H3, I3, r3, k, e, q3⟩ => ?_)) hm
  subst e
  cases r3
  refine wpAny_truthy_bool ?_
  cases k with
  | false =>
    obtain ⟨k', e', q'⟩ := q3
    cases e'
    exact ite_ff ⟨H3, I3, q'⟩
  | true =>
    refine ite_tt (test_last (thn (hc pins s3 σ H3 _ I3 q3) ?_))
    rintro w' s4 ⟨z', H4, I4, r4, q4⟩
    refine thn (ho' pins s4 σ H4 y z' u w' _ I4 r2 r4 q4) ?_
    rintro d' s5 ⟨z2, H5, I5, r5, k2, e2, q5⟩
    subst e2
    cases r5
    exact wpAny_truthy_bool ⟨H5, I5, q5⟩
noncomputable def TruV (K : PySem.W.Frag) (x : V) (H : Hp) (k : Bool) : Prop :=
  match x with
  | .non => k = false
  | .bl b => k = b
  | .int i => k = (i != 0)
  | .str y => y.length ≤ sizeLine ∧ k = ((y.length : Int) != 0)
  | .byt y => y.size ≤ sizeLine ∧ k = ((y.size : Int) != 0)
  | .ref p => (∃ xs, SqL K H p xs ∧ k = !xs.isEmpty) ∨ (∃ xs, SqT K H p xs ∧ k = !xs.isEmpty) ∨ ∃ kvs, H p = some (.dK kvs) ∧ k = !kvs.isEmpty
  | _ => False
theorem isEmpty_kv {κ : Type} {kvs : List (κ × V)} {vs : List (κ × Value)} (r : KV kvs vs) : (!vs.isEmpty) = !kvs.isEmpty := by
  cases r <;> rfl
theorem isEmpty_of {xs : List V} {its : List Value} (r : Vals xs its) : (!its.toArray.isEmpty) = !xs.isEmpty := by
  cases r <;> simp
theorem line63 : (sizeLine : Nat) < 2 ^ 63 := by rw [sizeLine_eq]; decide
theorem tru_ok : TruR X (fun x H Q => ∃ k, TruV X.K x H k ∧ Q k H) := by
  intro pins s σ H x v Q I rx h
  obtain ⟨k, e, q⟩ := h
  have hl := line63
  have hs : sizeLine = 16777216 := sizeLine_eq
  cases x with
  | non =>
    cases rx
    have e' : k = false := e
    subst e'
    exact truthy_none ⟨H, I, q⟩
  | bl b =>
    cases rx
    have e' : k = b := e
    subst e'
    exact wpAny_truthy_bool ⟨H, I, q⟩
  | int i =>
    obtain ⟨t, rfl⟩ := rx
    have e' : k = (i != 0) := e
    subst e'
    exact PySem.P.truthy_int ⟨H, I, q⟩
  | str y =>
    obtain ⟨t, rfl⟩ := rx
    obtain ⟨hy, e'⟩ : y.length ≤ sizeLine ∧ k = ((y.length : Int) != 0) := e
    subst e'
    exact PySem.P.truthy_str (by omega) ⟨H, I.tok _, q⟩
  | byt y =>
    obtain ⟨t, rfl⟩ := rx
    obtain ⟨hy, e'⟩ : y.size ≤ sizeLine ∧ k = ((y.size : Int) != 0) := e
    subst e'
    exact PySem.W.truthy_bytes (by omega) ⟨H, I.tok _, q⟩
  | ref p =>
    cases rx
    have e' : (∃ xs, SqL X.K H p xs ∧ k = !xs.isEmpty) ∨ (∃ xs, SqT X.K H p xs ∧ k = !xs.isEmpty) ∨ ∃ kvs, H p = some (.dK kvs) ∧ k = !kvs.isEmpty := e
    rcases e' with ⟨xs, hx, e'⟩ | ⟨xs, hx, e'⟩ | ⟨kvs, hx, e'⟩
    · subst e'
      obtain ⟨its, r, pl, hz⟩ := I.list hx
      have hlen := r.length
      exact wpAny_truthy_list pl.isList (by simp only [List.size_toArray]; omega) ⟨H, I.tok _, by rw [isEmpty_of r]; exact q⟩
    · subst e'
      obtain ⟨its, r, pl, hz⟩ := I.tuple hx
      have hlen := r.length
      exact truthy_tuple pl (by simp only [List.size_toArray]; omega) ⟨H, I.tok _, by rw [isEmpty_of r]; exact q⟩
    · subst e'
      obtain ⟨hz, hS, vs, r, m⟩ : kvs.length ≤ sizeLine ∧ (p == sysModules) = false ∧ ∃ vs, KV kvs vs ∧ s.heap.DictOf (mixKind X.prog X.w) p vs := I.hok p _ hx
      have hlen : kvs.length = vs.length := Paired.length r
      exact wpAny_truthy_dict hS m (by omega) ⟨H, I.tok _, by rw [isEmpty_kv r]; exact q⟩
  | _ => exact (show False from e).elim
theorem pt_truth (ha : PE X a ta) (he : ∀ whole, isTrue a X.env whole = (do let v ← whole; standAt a.pos; holding [v] (truthy v))) :
    PT X a (fun σ H Q => ta σ H fun x H' => ∃ k, TruV X.K x H' k ∧ Q k H') := by
  intro pins s σ H Q I h
  exact isTrue_plain (thn (ha pins s σ H _ I h) fun v s1 ⟨x, H1, I1, r1, q1⟩ => tru_ok pins s1 σ H1 x v Q I1 r1 q1) (he _)
theorem op_add_str : OpR X (binaryOp .Add) (fun x y H Q => ∃ i j, x = .str i ∧ y = .str j ∧ i.length + j.length ≤ sizeLine ∧ Q (.str (i ++ j)) H) := by
  intro pins s σ H x y v u Q I rx ry h
  obtain ⟨i, j, rfl, rfl, hz, q⟩ := h
  obtain ⟨t, rfl⟩ := rx
  obtain ⟨t', rfl⟩ := ry
  exact add_str (fun t' tk => ⟨.str (i ++ j), H, I.tok _, ⟨_, rfl⟩, q⟩) hz
theorem vals1 {x : V} {us : List Value} (r : Vals [x] us) : ∃ u, us = [u] ∧ RelV x u := by
  cases r with
  | cons r1 r2 => cases r2; exact ⟨_, rfl, r1⟩
theorem vals2 {x y : V} {us : List Value} (r : Vals [x, y] us) : ∃ u w', us = [u, w'] ∧ RelV x u ∧ RelV y w' := by
  cases r with
  | cons r1 r2 =>
    cases r2 with
    | cons r3 r4 => cases r4; exact ⟨_, _, rfl, r1, r3⟩
theorem call_max2 (hc : X.calm = true) : CallR X (.builtin "max") (fun xs H Q => ∃ i j, xs = [.int i, .int j] ∧ Q (.int (if j > i then j else i)) H) := by
  intro pins s σ H xs us Q I r h
  obtain ⟨i, j, rfl, q⟩ := h
  obtain ⟨u, w', rfl, ⟨t, rfl⟩, ⟨t', rfl⟩⟩ := vals2 r
  refine max_two_ints (I.ok.hd hc) fun h' tk k => ⟨_, H, I.kept k, ?_, q⟩
  by_cases hj : j > i
  · rw [if_pos hj, if_pos hj]; exact ⟨_, rfl⟩
  · rw [if_neg hj, if_neg hj]; exact ⟨_, rfl⟩
theorem call_min2 (hc : X.calm = true) : CallR X (.builtin "min") (fun xs H Q => ∃ i j, xs = [.int i, .int j] ∧ Q (.int (if j < i then j else i)) H) := by
  intro pins s σ H xs us Q I r h
  obtain ⟨i, j, rfl, q⟩ := h
  obtain ⟨u, w', rfl, ⟨t, rfl⟩, ⟨t', rfl⟩⟩ := vals2 r
  refine min_two_ints (I.ok.hd hc) fun h' tk k => ⟨_, H, I.kept k, ?_, q⟩
  by_cases hj : j < i
  · rw [if_pos hj, if_pos hj]; exact ⟨_, rfl⟩
  · rw [if_neg hj, if_neg hj]; exact ⟨_, rfl⟩
end
structure ObjM (h : Heap) (x dx C : Addr) (mA : Str → Option Value) : Prop where
  obj : h.get? x = some (PySem.W.instObj C dx)
  ns : h.Ns1 dx mA
  ne : dx ≠ x
theorem lookIn_ns {h : Heap} {dx : Addr} {mA : Str → Option Value} (n : h.Ns1 dx mA) : ∃ od, h.get? dx = some od ∧ ∀ name, PySem.W.lookIn name od = some (mA name) := by
  obtain ⟨o, es, ep, ho, hd, hk, _, hm⟩ := n
  refine ⟨o, ho, fun name => ?_⟩
  have e := hm name
  unfold nsFind findBy at e
  rw [← Array.find?_toList] at e
  unfold PySem.W.lookIn
  rw [hd]
  dsimp only
  split
  · rename_i y q
    rw [q] at e
    exact congrArg some e
  · rename_i q
    rw [q] at e
    have a : es.toList.any (·.refKey) = false := by
      rw [List.any_eq_false]
      intro y hy
      obtain ⟨z, t, hkey⟩ := hk y (Array.mem_toList_iff.mp hy)
      simp [DictEntry.refKey, hkey]
    have a' : ¬ es.toList.any (·.refKey) = true := by rw [a]; exact Bool.false_ne_true
    rw [if_neg a']
    exact congrArg some e
theorem ObjM.look {h : Heap} {x dx C : Addr} {mA : Str → Option Value} (I : ObjM h x dx C mA) : ∃ od, PySem.W.InstAt h x (PySem.W.instObj C dx) C (some od) ∧ ∀ name, PySem.W.lookIn name od = some (mA name) :=
  let ⟨od, ho, hl⟩ := lookIn_ns I.ns
  ⟨od, ⟨I.obj, rfl, rfl, ho⟩, hl⟩
section
variable {prog : Program} {w : World} {A : Around} {E : Value → Shared → Prop} {s : Shared} {K : PySem.W.Frag} {x dx C f : Addr} {mA : Str → Option Value} {name : Str} {v : Value}
theorem get_map {expr : Bool} {Q : Value → Shared → Prop} (X : K.In s.heap) (I : ObjM s.heap x dx C mA) (hg : PySem.W.plainGet K C name = true) (hh : PySem.W.hasDictIn K C = true)
    (ha : PySem.W.findIn K (.ref C) name = some none) (hv : mA name = some v) (hv' : PySem.W.handedIn v = true) (h : Q v { s with toks := s.toks + 1 }) :
    wpAny (model prog w) A (getAttr (.ref x) name expr) Q E s := by
  obtain ⟨od, J, hl⟩ := I.look
  exact PySem.W.get_value X J (PySem.W.plainGet_of hg).1 (PySem.W.findObj_own hh ha rfl (by rw [hl, hv])) hv' h
theorem get_meth {pl : Sem Bool} {Q : Value × List Value → Shared → Prop} (X : K.In s.heap) (I : ObjM s.heap x dx C mA) (hg : PySem.W.plainGet K C name = true)
    (hf : PySem.W.findIn K (.ref C) name = some (some (.ref f))) (ht : PySem.W.isFn K (.ref f) = true) (hv : mA name = none) (h : Q (.ref f, [.ref x]) s) :
    wpAny (model prog w) A (getMethod (.ref x) name pl) Q E s := by
  obtain ⟨od, J, hl⟩ := I.look
  exact PySem.W.method_fn X J (PySem.W.plainGet_of hg).1 (PySem.W.plainGet_of hg).2 hf (beq_iff_eq.mp ht) (by show (PySem.W.lookIn name od).map (·.isSome) = some false; rw [hl, hv]; rfl) h
theorem set_map {ns : List Str} {Q : Unit → Shared → Prop} (X : K.In s.heap) (I : ObjM s.heap x dx C mA)
    (hs : PySem.W.findIn K (.ref C) "__setattr__" = some (some (.builtin "object.__setattr__"))) (hp : PySem.W.plainOver K C = true) (ht : PySem.W.takerIn K C name = some none) (hh : PySem.W.hasDictIn K C = true)
    (hw : PySem.Within mA ns) (hsz : ns.length ≤ sizeLine)
    (h : ∀ h', ObjM h' x dx C (fun y => if y = name then some v else mA y) → Heap.SameBut dx s.heap h' → Q () { s with heap := h', toks := s.toks + 2 }) :
    wpAny (model prog w) A (setAttr (.ref x) name v) Q E s := by
  obtain ⟨od, J, hl⟩ := I.look
  refine PySem.W.set_plain X J hs (PySem.W.osa_open (s := { s with toks := s.toks + 1 }) (r := none) X J hp ht fun b => ?_)
  obtain ⟨cd, hc, hd'⟩ := PySem.W.any_some hh
  have hx : s.heap.get? x = some ⟨.ref C, some dx, .plain, #[]⟩ := I.obj
  refine wpAny_bind (wpAny_pure (wpAny_bind (wpAny_bind (wpAny_loadPart hx (wpAny_bind (PySem.W.Looks.here (s := { s with toks := s.toks + 1 }) (PySem.W.looks_clsIn X hc) ?_))))))
  rw [hd']
  refine wpAny_pure (a := some dx) (wpAny_bind (wpAny_pure (wpAny_bind ?_)))
  refine wpAny_nsSet1 (s := { s with toks := s.toks + 1 }) I.ns fun h' hn2 hs2 => ?_
  obtain ⟨oD, esD, epD, hoD, hdD, hcD⟩ := hn2.count (PySem.Within.cons name v hw)
  refine wpAny_bind (wpAny_lookBehind hoD (by rw [hdD]; exact pastItsLine_dict (Nat.le_trans hcD (by rw [List.length_cons]; omega))) ?_)
  exact wpAny_pure (h _ ⟨(hs2.2 _ (Ne.symm I.ne)).trans I.obj, hn2, I.ne⟩ hs2)
theorem make_map {R : Result → Shared → Prop} {vs : List Value} {kw : List (Str × Value)} (X : K.In s.heap) (hm : PySem.W.makesIn K C = true)
    (hi : PySem.W.findIn K (.ref C) "__init__" = some (some (.ref f))) (hf : PySem.W.typeIn K (.ref f) = some (.type "function"))
    (h : codeAny (model prog w) (A.under (.builtin "type.__call__" ⟨.ref C :: vs, kw⟩)) (.call (.ref f) ⟨.ref (s.heap.objs.size + 1) :: vs, kw⟩) (PySem.W.InitBack (s.heap.objs.size + 1) R)
      { s with heap := (s.heap.push PySem.W.emptyDict).push (PySem.W.instObj C s.heap.objs.size) }) :
    codeAny (model prog w) A (.call (.ref C) ⟨vs, kw⟩) R s := by
  obtain ⟨hh, g, d, t, os⟩ := s
  exact PySem.W.make_core (PySem.W.makes_of X hm) (PySem.W.looks_findIn X hi) (fun self => PySem.W.bind_fn X self hf) (.inl rfl) h
end
noncomputable def putF (f : Str) (v : V) : List (Str × V) → List (Str × V)
  | [] => [(f, v)]
  | (g, x) :: r => if g = f then (g, v) :: r else (g, x) :: putF f v r
theorem lookup_putF (f g : Str) (v : V) : ∀ fs : List (Str × V), (putF f v fs).lookup g = if g = f then some v else fs.lookup g
  | [] => by
    show List.lookup g [(f, v)] = _
    by_cases h : g = f
    · have hb : (g == f) = true := beq_iff_eq.mpr h
      simp only [List.lookup, hb, if_pos h]
    · have hb : (g == f) = false := beq_eq_false_iff_ne.mpr h
      simp only [List.lookup, hb, if_neg h]
  | (k, x) :: r => by
    have ih := lookup_putF f g v r
    rw [show putF f v ((k, x) :: r) = (if k = f then (k, v) :: r else (k, x) :: putF f v r) from rfl]
    by_cases hk : k = f
    · rw [if_pos hk]
      by_cases h : g = k
      · have hb : (g == k) = true := beq_iff_eq.mpr h
        simp only [List.lookup, hb, if_pos (h.trans hk)]
      · have hb : (g == k) = false := beq_eq_false_iff_ne.mpr h
        simp only [List.lookup, hb, if_neg (fun e : g = f => h (e.trans hk.symm))]
    · rw [if_neg hk]
      by_cases h : g = k
      · have hb : (g == k) = true := beq_iff_eq.mpr h
        simp only [List.lookup, hb, if_neg (fun e : g = f => hk (h.symm.trans e))]
      · have hb : (g == k) = false := beq_eq_false_iff_ne.mpr h
        simp only [List.lookup, hb]
        exact ih
theorem keys_putF (f : Str) (v : V) : ∀ fs : List (Str × V), f ∈ (putF f v fs).map (·.1) ∧ ∀ g, g ∈ fs.map (·.1) → g ∈ (putF f v fs).map (·.1)
  | [] => ⟨by simp [putF], fun g h => by simp at h⟩
  | (k, x) :: r => by
    obtain ⟨i1, i2⟩ := keys_putF f v r
    rw [show putF f v ((k, x) :: r) = (if k = f then (k, v) :: r else (k, x) :: putF f v r) from rfl]
    by_cases hk : k = f
    · rw [if_pos hk]
      subst hk
      exact ⟨by simp, fun g h => by simpa using h⟩
    · rw [if_neg hk]
      refine ⟨?_, fun g h => ?_⟩
      · rw [List.map_cons]
        exact List.mem_cons_of_mem _ i1
      · rw [List.map_cons] at h ⊢
        rcases List.mem_cons.mp h with e | e
        · exact List.mem_cons.mpr (.inl e)
        · exact List.mem_cons_of_mem _ (i2 g e)
theorem length_putF (f : Str) (v : V) : ∀ fs : List (Str × V), (putF f v fs).length ≤ fs.length + 1
  | [] => by simp [putF]
  | (k, x) :: r => by
    have ih := length_putF f v r
    rw [show putF f v ((k, x) :: r) = (if k = f then (k, v) :: r else (k, x) :: putF f v r) from rfl]
    by_cases hk : k = f
    · rw [if_pos hk, List.length_cons, List.length_cons]; omega
    · rw [if_neg hk, List.length_cons, List.length_cons]; omega
theorem RelO.some_of {v : V} {o : Option Value} (r : RelO (some v) o) : ∃ u, o = some u ∧ RelV v u := by
  cases o with
  | none => exact (show False from r).elim
  | some u => exact ⟨u, rfl, r⟩
theorem RelO.none_of {o : Option Value} (r : RelO none o) : o = none := by
  cases o with
  | none => rfl
  | some u => exact (show False from r).elim
theorem handed_of {v : V} {u : Value} (r : RelV v u) : PySem.W.handedIn u = true := by
  cases v with
  | non => cases (show u = Value.none from r); rfl
  | bl b => cases (show u = Value.bool b from r); rfl
  | int i => obtain ⟨t, e⟩ := (show ∃ t, u = Value.int i t from r); cases e; rfl
  | str x => obtain ⟨t, e⟩ := (show ∃ t, u = Value.str x t from r); cases e; rfl
  | byt b => obtain ⟨t, e⟩ := (show ∃ t, u = Value.bytes b t from r); cases e; rfl
  | flt b => obtain ⟨t, e⟩ := (show ∃ t, u = Value.float b t from r); cases e; rfl
  | ref a => cases (show u = Value.ref a from r); rfl
  | ty n => cases (show u = Value.type n from r); rfl
section
variable {P : Program} {w : World} {H H' : Hp} {h h' : Heap} {a C dx : Addr} {fs fs' : List (Str × V)}
theorem ins_get (hok : HOk P w H h) (e : H a = some (.ins C dx fs)) : ∃ mA, ObjM h a dx C mA ∧ (∀ f, RelO (fs.lookup f) (mA f)) ∧ PySem.Within mA (fs.map (·.1)) ∧ fs.length ≤ 1000 ∧ H dx = some (.own a) := by
  obtain ⟨d, z, ne, ob, mA, n, r, q⟩ := (show ObjOk P w H h a (.ins C dx fs) from hok a _ e)
  exact ⟨mA, ⟨ob, n, ne⟩, r, q, z, d⟩
end
structure Cls (K : PySem.W.Frag) (C : Addr) : Prop where
  pg : PySem.W.plainGet K C Str.empty = true
  hd : PySem.W.hasDictIn K C = true
  po : PySem.W.plainOver K C = true
  sa : PySem.W.findIn K (.ref C) "__setattr__" = some (some (.builtin "object.__setattr__"))
theorem Cls.get {K : PySem.W.Frag} {C : Addr} (c : Cls K C) (f : Str) : PySem.W.plainGet K C f = true := c.pg
noncomputable def NoAttr (K : PySem.W.Frag) (C : Addr) (f : Str) : Prop := PySem.W.findIn K (.ref C) f = some none
theorem NoAttr.taker {K : PySem.W.Frag} {C : Addr} {f : Str} (n : NoAttr K C f) : PySem.W.takerIn K C f = some none := by
  unfold PySem.W.takerIn
  rw [show PySem.W.findIn K (.ref C) f = some none from n]
  rfl
structure Con (K : PySem.W.Frag) (C : Addr) (f : Str) (v : V) (u : Value) : Prop where
  at_ : PySem.W.findIn K (.ref C) f = some (some u)
  rel : RelV v u
  get : PySem.W.specialIn K u "__get__" = some none
  cp : PySem.W.copiedNames.contains f = false
structure Meth (K : PySem.W.Frag) (C : Addr) (m : Str) (f : Addr) : Prop where
  at_ : PySem.W.findIn K (.ref C) m = some (some (.ref f))
  fn : PySem.W.isFn K (.ref f) = true
  kp : PySem.W.keepIn K (.ref f) = true
section
variable {X : Cx} {pins : List (Addr × Obj)} {σ : St} {H : Hp} {s : Shared} {a C dx : Addr} {fs : List (Str × V)} {f : Str} {v : V} {A : Around} {E : Value → Shared → Prop}
theorem getattr_ok {b : Bool} {Q : Value → Shared → Prop} (I : Inv X pins σ H s) (e : H a = some (.ins C dx fs)) (c : Cls X.K C) (n : NoAttr X.K C f) (l : fs.lookup f = some v)
    (h : ∀ u s', Inv X pins σ H s' → RelV v u → Q u s') : wpAny (model X.prog X.w) A (getAttr (.ref a) f b) Q E s := by
  obtain ⟨mA, O, r, _, _, _⟩ := ins_get I.hok e
  obtain ⟨u, hu, ru⟩ := RelO.some_of (v := v) (o := mA f) (by rw [← l]; exact r f)
  exact get_map I.kIn O (c.get f) c.hd n hu (handed_of ru) (h u _ (I.tok _) ru)
theorem getmeth_ok {m : Str} {g : Addr} {pl : Sem Bool} {Q : Value × List Value → Shared → Prop} (I : Inv X pins σ H s) (e : H a = some (.ins C dx fs)) (c : Cls X.K C) (k : Meth X.K C m g) (l : fs.lookup m = none)
    (h : Q (.ref g, [.ref a]) s) : wpAny (model X.prog X.w) A (getMethod (.ref a) m pl) Q E s := by
  obtain ⟨mA, O, r, _, _, _⟩ := ins_get I.hok e
  have hn : mA m = none := RelO.none_of (by rw [← l]; exact r m)
  exact get_meth I.kIn O (c.get m) k.at_ k.fn hn h
theorem setattr_ok {y : V} {u : Value} {Q : Unit → Shared → Prop} (I : Inv X pins σ H s) (e : H a = some (.ins C dx fs)) (c : Cls X.K C) (n : NoAttr X.K C f) (hl : fs.length < 1000) (ry : RelV y u)
    (h : ∀ s', Inv X pins σ (upd H a (.ins C dx (putF f y fs))) s' → Q () s') : wpAny (model X.prog X.w) A (setAttr (.ref a) f u) Q E s := by
  obtain ⟨mA, O, r, wi, _, ho⟩ := ins_get I.hok e
  have hz : (fs.map (·.1)).length ≤ sizeLine := by rw [List.length_map, sizeLine_eq]; omega
  refine set_map I.kIn O c.sa c.po n.taker c.hd wi hz fun h' O' sb => h _ ?_
  have hd : ∃ o, h'.get? dx = some o := let ⟨o, _, _, e', _⟩ := O'.ns; ⟨o, e'⟩
  refine I.write (x := a) (e := dx) (by rw [e]; exact True.intro) (.inr ho) (fun b q hb z => (sb.2 b hb).trans z) hd ?_
  refine ⟨by rw [upd_ne O.ne]; exact ho, ?_, O.ne, O'.obj, _, O'.ns, fun g => ?_, fun g hg => ?_⟩
  · have := length_putF f y fs; omega
  · show RelO ((putF f y fs).lookup g) (if g = f then some u else mA g)
    rw [lookup_putF]
    by_cases q : g = f
    · rw [if_pos q, if_pos q]; exact ry
    · rw [if_neg q, if_neg q]; exact r g
  · by_cases q : g = f
    · rw [q]; exact (keys_putF f y fs).1
    · refine (keys_putF f y fs).2 g (wi g fun z => hg ?_)
      show (if g = f then some u else mA g) = none
      rw [if_neg q]; exact z
theorem Inv.made (I : Inv X pins σ H s) : Inv X pins σ (upd (upd H s.heap.objs.size (.own (s.heap.objs.size + 1))) (s.heap.objs.size + 1) (.ins C s.heap.objs.size []))
    { s with heap := (s.heap.push PySem.W.emptyDict).push (PySem.W.instObj C s.heap.objs.size) } := by
  have e1 : (s.heap.push PySem.W.emptyDict).get? s.heap.objs.size = some PySem.W.emptyDict := Heap.get?_push_size s.heap rfl
  have e2 : ((s.heap.push PySem.W.emptyDict).push (PySem.W.instObj C s.heap.objs.size)).get? (s.heap.objs.size + 1) = some (PySem.W.instObj C s.heap.objs.size) := by
    have := Heap.get?_push_size (s.heap.push PySem.W.emptyDict) (o := PySem.W.instObj C s.heap.objs.size) rfl
    rwa [Heap.size_push] at this
  have e3 : (s.heap.push PySem.W.emptyDict).Ns s.heap.objs.size (fun _ => none) := ⟨PySem.W.emptyDict, #[], _, e1, rfl, (fun e he => absurd he (by simp)), fun _ => rfl⟩
  have I1 := I.laid (a := s.heap.objs.size) (o := .own (s.heap.objs.size + 1)) (h' := s.heap.push PySem.W.emptyDict) (t' := s.toks) (fun b u q => Heap.get?_push_of_some _ q) (Nat.le_refl _) ⟨_, e1⟩
  refine I1.laid (a := s.heap.objs.size + 1) (o := .ins C s.heap.objs.size []) (t' := s.toks) (fun b u q => Heap.get?_push_of_some _ q) (Nat.le_of_eq (Heap.size_push _ _)) ?_
  have ne : s.heap.objs.size ≠ s.heap.objs.size + 1 := Nat.ne_of_lt (Nat.lt_succ_self _)
  refine ⟨by rw [upd_ne ne, upd_same], Nat.zero_le _, ne, e2, fun _ => none, (Heap.Ns1.of_empty e3).at fun o q => Heap.get?_push_of_some _ q, fun _ => True.intro, fun y hy => absurd rfl hy⟩
theorem attr_of {prog : Program} {w : World} {env : Env} {e : Expr} {f : Str} {pos : Pos} {s : Shared} {Q : Value → Shared → Prop} (hb : attributeBase e f env (eval e env) = eval e env)
    (h : wpAny (model prog w) A (eval e env) (fun o s₁ => wpAny (model prog w) A (getAttr o f true) Q E s₁) E s) : wpAny (model prog w) A (eval (.Attribute e f pos) env) Q E s :=
  Attribute_any_ h (by rw [arm_eval_Attribute, hb])
end
noncomputable def tFld (K : PySem.W.Frag) (ta : TE) (f : Str) : TE := fun σ H Q => ta σ H fun x H1 => ∃ a C dx fs v, x = .ref a ∧ H1 a = some (.ins C dx fs) ∧ Cls K C ∧ NoAttr K C f ∧ fs.lookup f = some v ∧ Q v H1
noncomputable def sFld (K : PySem.W.Frag) (ta tv : TE) (f : Str) : TS := fun D σ H => tv σ H fun y H1 => ta σ H1 fun x H2 => ∃ a C dx fs, x = .ref a ∧ H2 a = some (.ins C dx fs) ∧ Cls K C ∧ NoAttr K C f ∧ fs.length < 1000 ∧
  D.nx σ (upd H2 a (.ins C dx (putF f y fs)))
section
variable {X : Cx} {o e value : Expr} {f : Str} {pos pos' tpos : Pos} {ta tv : TE}
theorem pe_fld (he : PE X e ta) (hb : attributeBase e f X.env (eval e X.env) = eval e X.env) : PE X (.Attribute e f pos) (tFld X.K ta f) := by
  intro pins s σ H Q I h
  refine attr_of hb (thn (he pins s σ H _ I h) ?_)
  rintro u s1 ⟨x, H1, I1, rx, a, C, dx, fs, v, ex, ea, c, n, l, q⟩
  subst ex
  obtain rfl : u = Value.ref a := rx
  exact getattr_ok I1 ea c n l fun u' s2 I2 ru => ⟨v, H1, I2, ru, q⟩
theorem ps_fld (ha : PE X o ta) (hv : PE X value tv) (hs : swapsWith value (some (.Attribute o f pos')) pos.line X.env = pure false) : PS X (.Assign [.Attribute o f pos'] value pos) (sFld X.K ta tv f) := by
  intro pins s σ H D I h
  refine plainObj_wpAny_Assign_Attribute (thn (hv pins s σ H _ I h) fun u s1 ⟨y, H1, I1, ry, q⟩ => thn (ha pins s1 σ H1 _ I1 q) ?_) hs
  rintro ov s2 ⟨x, H2, I2, rx, a, C, dx, fs, ex, ea, c, n, l, q2⟩
  subst ex
  obtain rfl : ov = Value.ref a := rx
  exact setattr_ok I2 ea c n l ry fun s3 I3 => ⟨σ, _, I3, q2⟩
end
section
variable {X : Cx} {pins : List (Addr × Obj)} {σ : St} {H : Hp} {s : Shared} {A : Around} {E : Value → Shared → Prop} {Q : Value → Shared → Prop} {c : Value} {b : Bool}
inductive TyOf (K : PySem.W.Frag) (H : Hp) : V → Value → Prop where
  | non : TyOf K H .non (.type "NoneType")
  | bl (x : Bool) : TyOf K H (.bl x) (.type "bool")
  | int (i : Int) : TyOf K H (.int i) (.type "int")
  | str (x : Str) : TyOf K H (.str x) (.type "str")
  | flt (x : UInt64) : TyOf K H (.flt x) (.type "float")
  | lst {a : Addr} {xs : List V} (e : H a = some (.lst xs)) : TyOf K H (.ref a) (.type "list")
  | frz {a : Addr} {o : Obj} {xs : List V} (e : H a = some (.frz o (.lst xs))) : TyOf K H (.ref a) (.type "list")
  | tup {a : Addr} {xs : List V} (e : H a = some (.tup xs)) : TyOf K H (.ref a) (.type "tuple")
  | dK {a : Addr} {kvs : List (Key × V)} (e : H a = some (.dK kvs)) : TyOf K H (.ref a) (.type "dict")
  | dT {a : Addr} {kvs : List (List Key × V)} (e : H a = some (.dT kvs)) : TyOf K H (.ref a) (.type "dict")
  | ins {a C dx : Addr} {fs : List (Str × V)} (e : H a = some (.ins C dx fs)) (cl : Cls K C) (ha : PySem.W.findIn K (.ref C) "__class__" = some (some (.builtin "object.__class__")))
      (hn : PySem.W.specialIn K (.builtin "object.__class__") "__get__" = some (some (.builtin "getset_descriptor.__get__"))) (htk : PySem.W.takesIn K (.builtin "object.__class__") = some true)
      (hm : PySem.W.mroIn K C (.type "object") = some true) : TyOf K H (.ref a) (.ref C)
end
structure Room (k : Nat) (A : Around) : Prop where
  hd : A.handled = none
  dp : A.depth + 3 * k + 5 < recursionLimit
  un : A.units + 16 * k + 200 < cLine
theorem Room.mono {j k : Nat} {A : Around} (r : Room k A) (h : j ≤ k) : Room j A := ⟨r.hd, by have := r.dp; omega, by have := r.un; omega⟩
theorem Room.deeper {k : Nat} {A : Around} (r : Room (k + 1) A) (env : Env) : Room k (A.deeper env) :=
  ⟨r.hd, by have := r.dp; show A.depth + 1 + 3 * k + 5 < _; omega, by have := r.un; show A.units + 3 + 16 * k + 200 < _; omega⟩
theorem Room.in1 {k : Nat} {A : Around} (r : Room (k + 1) A) : Room k A.in1 :=
  ⟨r.hd, by have := r.dp; show A.depth + 3 * k + 5 < _; omega, by have := r.un; show A.units + 1 + 16 * k + 200 < _; omega⟩
theorem make_depth {A : Around} {C : Addr} {us : List Value} {kw : List (Str × Value)} : (A.under (.builtin "type.__call__" ⟨.ref C :: us, kw⟩)).depth = A.depth + 1 := by
  first | rfl | simp [Around.under, Code.weight, Code.isCreation, Code.isGuard, Code.isCaller, Code.frames, Code.isFrame, guardIds]
theorem make_units {A : Around} {C : Addr} {us : List Value} {kw : List (Str × Value)} : (A.under (.builtin "type.__call__" ⟨.ref C :: us, kw⟩)).units = A.units + 1 := by
  first | rfl | simp [Around.under, Code.cUnits, Code.frames, Code.isFrame]
theorem Room.make {k : Nat} {A : Around} (r : Room (k + 1) A) (C : Addr) (us : List Value) (kw : List (Str × Value)) : Room k (A.under (.builtin "type.__call__" ⟨.ref C :: us, kw⟩)) :=
  ⟨r.hd, by have := r.dp; rw [make_depth]; omega, by have := r.un; rw [make_units]; omega⟩
theorem Room.depth {k : Nat} {A : Around} (r : Room k A) : A.depth < recursionLimit := by have := r.dp; omega
theorem Room.units {k : Nat} {A : Around} (r : Room k A) : A.units + 64 < cLine := by have := r.un; omega
noncomputable def tNil : TA := fun _ H Q => Q [] H
noncomputable def tCons (ta : TE) (tr : TA) : TA := fun σ H Q => ta σ H fun x H1 => tr σ H1 fun xs H2 => Q (x :: xs) H2
section
variable {X : Cx} {e : Expr} {es : List Expr} {te : TE} {t : TA} {pos : Pos}
theorem pa_nil : PA X [] tNil := fun _ _ _ _ H Q I h => Calls.spliced_nil ⟨[], H, I, .nil, h⟩
theorem pa_cons (ha : PE X e te) (hr : PA X es t) (hs : starEach (e :: es) X.env = (false, eval e X.env) :: starEach es X.env := by rfl) : PA X (e :: es) (tCons te t) := by
  intro pos pins s σ H Q I h
  rw [hs]
  show wpAny _ _ (spliced ((false, eval e X.env) :: backTo pos (starEach es X.env))) _ _ s
  refine Calls.spliced_cons (thn (ha pins s σ H _ I h) ?_)
  rintro u s1 ⟨x, H1, I1, r1, q1⟩
  refine thn (hr pos pins s1 σ H1 _ I1 q1) ?_
  rintro us s2 ⟨xs, H2, I2, r2, q2⟩
  exact ⟨x :: xs, H2, I2, .cons r1 r2, q2⟩
noncomputable def tTup (t : TA) : TE := fun σ H Q => t σ H fun xs H1 => xs.length ≤ sizeLine ∧ ∀ p, H1 p = none → Q (.ref p) (upd H1 p (.tup xs))
noncomputable def tLst (t : TA) : TE := fun σ H Q => t σ H fun xs H1 => xs.length ≤ sizeLine ∧ ∀ p, H1 p = none → Q (.ref p) (upd H1 p (.lst xs))
theorem pe_tup {x1} (h : PA X es t) : PE X (.Tuple es x1 pos) (tTup t) := by
  intro pins s σ H Q I hq
  refine wpAny_Tuple_spliced (thn (h pos pins s σ H _ I hq) ?_)
  rintro us s1 ⟨xs, H1, I1, r, z, q⟩
  refine ⟨by rw [← r.length]; exact z, ?_⟩
  have hf : H1 s1.heap.objs.size = none := I1.hok.fresh (Nat.le_refl _)
  refine ⟨.ref s1.heap.objs.size, upd H1 s1.heap.objs.size (.tup xs), I1.laid (t' := s1.toks) (fun b u e => Heap.get?_push_of_some _ e) (Nat.le_refl _) ?_, rfl, q _ hf⟩
  exact ⟨z, us, r, ⟨_, Heap.get?_push_size _ rfl, rfl, rfl, _, rfl⟩⟩
theorem pe_lst (h : PA X es t) : PE X (.List es pos) (tLst t) := by
  intro pins s σ H Q I hq
  refine wpAny_List_spliced (thn (h pos pins s σ H _ I hq) ?_)
  rintro us s1 ⟨xs, H1, I1, r, z, q⟩
  refine ⟨by rw [← r.length]; exact z, ?_⟩
  have hf : H1 s1.heap.objs.size = none := I1.hok.fresh (Nat.le_refl _)
  refine ⟨.ref s1.heap.objs.size, upd H1 s1.heap.objs.size (.lst xs), I1.laid (t' := s1.toks) (fun b u e => Heap.get?_push_of_some _ e) (Nat.le_refl _) ?_, rfl, q _ hf⟩
  exact ⟨z, us, 0, r, Heap.get?_push_size _ rfl⟩
end
noncomputable abbrev Sp := List V → Hp → VK → XK → Prop
noncomputable abbrev CXT := List Env → Hp → Shared → XK → Value → Shared → Prop
structure Env0 (P : Program) (w : World) (K : PySem.W.Frag) (mg : Str → Option Value) (base : Heap) (A : Around) (outer : List Env) (s : Shared) (H : Hp) : Prop where
  frames : A.frames = some outer
  mod : Mod K mg base
  bs : ∀ b o, base.get? b = some o → s.heap.get? b = some o ∧ H b = none
  bsz : base.objs.size ≤ s.heap.objs.size
  funs : s.heap.FunFrames base outer
  frf : ∀ b ∈ frs outer, H b = none
  hok : HOk P w H s.heap
  bare : AllBare s.gens
noncomputable def CE (outer : List Env) (P : Program) (w : World) (H : Hp) (s : Shared) (Q : VK) (u : Value) (s' : Shared) : Prop :=
  ∃ v H', s'.os = s.os ∧ AllBare s'.gens ∧ Un (frs outer) [] H H' s.heap s'.heap ∧ HOk P w H' s'.heap ∧ RelV v u ∧ Q v H'
noncomputable def CR (CX : CXT) (outer : List Env) (P : Program) (w : World) (H : Hp) (s : Shared) (Q : VK) (E : XK) (r : Result) (s' : Shared) : Prop :=
  match r with
  | .ok (.ret u) => CE outer P w H s Q u s'
  | .ok _ => False
  | .error e => CX outer H s E e s'
structure FnOk (P : Program) (w : World) (K : PySem.W.Frag) (mg : Str → Option Value) (base : Heap) (CX : CXT) (k : Nat) (f : Addr) (fd : FuncData) (ps : List Str) (sp : Sp) : Prop where
  len : ∀ vs H Q E, sp vs H Q E → vs.length = ps.length
  run : ∀ (A : Around) (outer : List Env) (s : Shared) (H : Hp) (args : Args) (us : List Value) (vs : List V) (Q : VK) (E : XK), Room k A → Env0 P w K mg base A outer s H → BindsTo s fd args (ps.zip us) → Vals vs us → sp vs H Q E →
    codeAny (model P w) A (.call (.ref f) args) (CR CX outer P w H s Q E) s
theorem FnOk.mono {P : Program} {w : World} {K : PySem.W.Frag} {mg : Str → Option Value} {base : Heap} {CX : CXT} {j k : Nat} {f : Addr} {fd : FuncData} {ps : List Str} {sp : Sp} (F : FnOk P w K mg base CX j f fd ps sp) (h : j ≤ k) :
    FnOk P w K mg base CX k f fd ps sp := ⟨F.len, fun A outer s H args us vs Q E hr => F.run A outer s H args us vs Q E (hr.mono h)⟩
theorem Env0.make {P : Program} {w : World} {K : PySem.W.Frag} {mg : Str → Option Value} {base : Heap} {A : Around} {outer : List Env} {s : Shared} {H : Hp} (e : Env0 P w K mg base A outer s H) (C : Addr) (us : List Value) (kw : List (Str × Value)) :
    Env0 P w K mg base (A.under (.builtin "type.__call__" ⟨.ref C :: us, kw⟩)) outer s H := ⟨by first | exact e.frames | (simpa [Around.under, Code.envs, Code.isFrame, pushEnvs] using e.frames), e.mod, e.bs, e.bsz, e.funs, e.frf, e.hok, e.bare⟩
theorem Env0.in1 {P : Program} {w : World} {K : PySem.W.Frag} {mg : Str → Option Value} {base : Heap} {A : Around} {outer : List Env} {s : Shared} {H : Hp} (e : Env0 P w K mg base A outer s H) :
    Env0 P w K mg base A.in1 outer s H := ⟨e.frames, e.mod, e.bs, e.bsz, e.funs, e.frf, e.hok, e.bare⟩
section
variable {X : Cx} {pins : List (Addr × Obj)} {σ : St} {H : Hp} {s s' : Shared}
theorem Inv.env0 (I : Inv X pins σ H s) : Env0 X.prog X.w X.K X.mg X.base X.A X.stack s H :=
  ⟨I.ok.frames, I.ok.mod, I.bs, Nat.le_trans I.ok.bsz I.sz, I.stack, I.stkFree, I.hok, I.bare⟩
theorem Inv.after {Q : VK} {u : Value} (I : Inv X pins σ H s) (h : CE X.stack X.prog X.w H s Q u s') : EP X pins σ Q u s' := by
  obtain ⟨v, H', os, bare, un, hok, r, q⟩ := h
  obtain ⟨hh, g, d, t, os'⟩ := s'
  obtain rfl : os' = s.os := os
  exact ⟨v, H', I.call (h' := hh) (g' := g) (d' := d) (t' := t) (ch := []) un hok bare (fun b z => absurd z (by simp)), r, q⟩
end
noncomputable def tCall (sp : Sp) (dvs : List V) (E : XK) (t : TA) : TE := fun σ H Q => t σ H fun vs H1 => sp (vs ++ dvs) H1 Q E
noncomputable def tMeth (C : Addr) (m : Str) (sp : Sp) (dvs : List V) (E : XK) (ta : TE) (t : TA) : TE := fun σ H Q => ta σ H fun x H1 => ∃ a dx fs, x = .ref a ∧ H1 a = some (.ins C dx fs) ∧ fs.lookup m = none ∧
  t σ H1 fun vs H2 => sp (x :: (vs ++ dvs)) H2 Q E
noncomputable def tMake (C : Addr) (sp : Sp) (dvs : List V) (E : XK) (t : TA) : TE := fun σ H Q => t σ H fun vs H1 => ∀ x dx, H1 x = none → H1 dx = none → dx ≠ x →
  sp (.ref x :: (vs ++ dvs)) (upd (upd H1 dx (.own x)) x (.ins C dx [])) (fun v H2 => v = .non ∧ Q (.ref x) H2) E
noncomputable def Binds (K : PySem.W.Frag) (fd : FuncData) (ps : List Str) (ds : List Value) : Prop :=
  ∀ (s : Shared) (us : List Value), K.In s.heap → (us ++ ds).length = ps.length → BindsTo s fd ⟨us, []⟩ (ps.zip (us ++ ds))
theorem Binds.all {K : PySem.W.Frag} {fd : FuncData} {ps : List Str} (h : ∀ us : List Value, us.length = ps.length → bindArgs fd ⟨us, []⟩ = pure (ps.zip us)) : Binds K fd ps [] := fun s us _ hl => by
  rw [List.append_nil] at hl ⊢
  exact .of_eq (h us hl)
noncomputable def Passes (CX : CXT) (X : Cx) (E : XK) : Prop := ∀ (pins : List (Addr × Obj)) (σ : St) (H : Hp) (s : Shared) (e : Value) (s' : Shared), Inv X pins σ H s → CX X.stack H s E e s' → X.xe e s'
section
variable {X : Cx} {CX : CXT} {k : Nat} {f C : Addr} {fd : FuncData} {ps : List Str} {sp : Sp} {dvs : List V} {ds : List Value} {E : XK} {x m : Str} {p pos apos : Pos} {e o : Expr} {es : List Expr} {ta : TE} {t : TA}
theorem run_fn {pins : List (Addr × Obj)} {σ : St} {H : Hp} {s : Shared} {Q : VK} {us : List Value} {vs : List V} (F : FnOk X.prog X.w X.K X.mg X.base CX k f fd ps sp) (hr : Room k X.A) (hb : Binds X.K fd ps ds) (hd : Vals dvs ds) (hx : Passes CX X E)
    (I : Inv X pins σ H s) (r : Vals vs us) (h : sp (vs ++ dvs) H Q E) : wpAny (model X.prog X.w) X.A (call (.ref f) us) (EP X pins σ Q) X.xe s := by
  have r2 : Vals (vs ++ dvs) (us ++ ds) := r.append hd
  have hl : (us ++ ds).length = ps.length := by rw [← r2.length]; exact F.len _ _ _ _ h
  refine wpAny_call (codeAny_mono (F.run X.A X.stack s H ⟨us, []⟩ (us ++ ds) (vs ++ dvs) Q E hr I.env0 (hb s us I.kIn hl) r2 h) fun r s' hq => ?_)
  cases r with
  | error e => exact hx pins σ H s e s' I hq
  | ok fl =>
    cases fl with
    | ret u => exact I.after hq
    | next => exact False.elim hq
    | brk => exact False.elim hq
    | cont => exact False.elim hq
theorem pe_call (F : FnOk X.prog X.w X.K X.mg X.base CX k f fd ps sp) (hr : Room k X.A) (hg : Gl X x) (hm : X.mg x = some (.ref f)) (hk : PySem.W.keepIn X.K (.ref f) = true) (hb : Binds X.K fd ps ds) (hd : Vals dvs ds) (hx : Passes CX X E)
    (ha : PA X (e :: es) t) (hdb : (x == ("__debug__" : Str)) = false := by decide) (he : starEach (e :: es) X.env = (false, eval e X.env) :: starEach es X.env := by rfl) (hpl : (backTo pos (starEach es X.env)).any (·.1) = false := by rfl) :
    PE X (.Call (.Name x p) (e :: es) [] pos) (tCall sp dvs E t) := by
  intro pins s σ H Q I h
  refine wpAny_Call_Name_kw (ld_glob I hg hm ?_ hdb)
  refine PySem.W.callWith_K (h₀ := X.base) I.ok.mod.kin hk (thn (ha pos pins s σ H _ I h) fun us s1 ⟨vs, H1, I1, r, q⟩ => ⟨I1.kIn, ?_⟩) he hpl
  exact run_fn F hr hb hd hx I1 r q
theorem pe_call0 (F : FnOk X.prog X.w X.K X.mg X.base CX k f fd ps sp) (hr : Room k X.A) (hg : Gl X x) (hm : X.mg x = some (.ref f)) (hk : PySem.W.keepIn X.K (.ref f) = true) (hb : Binds X.K fd ps ds) (hd : Vals dvs ds) (hx : Passes CX X E)
    (hdb : (x == ("__debug__" : Str)) = false := by decide) : PE X (.Call (.Name x p) [] [] pos) (tCall sp dvs E tNil) := by
  intro pins s σ H Q I h
  refine wpAny_Call_Name_kw (ld_glob I hg hm ?_ hdb)
  exact PySem.W.callWith_K0 I.kIn hk (run_fn (us := []) F hr hb hd hx I .nil h)
theorem pe_meth {pl : Sem Bool} (he : PE X o ta) (c : Cls X.K C) (hm : Meth X.K C m f) (F : FnOk X.prog X.w X.K X.mg X.base CX k f fd ps sp) (hr : Room k X.A) (hb : Binds X.K fd ps ds) (hd : Vals dvs ds) (hx : Passes CX X E) (ha : PA X (e :: es) t)
    (hst : starEach (e :: es) X.env = (false, eval e X.env) :: starEach es X.env := by rfl) (hpl : (backTo pos (starEach es X.env)).any (·.1) = false := by rfl)
    (ht : eval (.Call (.Attribute o m apos) (e :: es) [] pos) X.env = (do
      let ov ← eval o X.env
      standAt apos.atName
      let (f, first) ← holding [ov] (getMethod ov m pl)
      callWith pos f first (backTo pos (starEach (e :: es) X.env)) (backToKw pos (keywordEach [] X.env))) := by rfl) :
    PE X (.Call (.Attribute o m apos) (e :: es) [] pos) (tMeth C m sp dvs E ta t) := by
  intro pins s σ H Q I h
  refine PySem.W.methodCall_KW (pl := pl) (thn (he pins s σ H _ I h) ?_) ht
  rintro u s1 ⟨x, H1, I1, rx, a, dx, fs, ex, ea, l, q⟩
  subst ex
  obtain rfl : u = Value.ref a := rx
  refine getmeth_ok I1 ea c hm l ?_
  refine PySem.W.callWith_K (first := [.ref a]) (h₀ := X.base) I.ok.mod.kin hm.kp (thn (ha pos pins s1 σ H1 _ I1 q) fun us s2 ⟨vs, H2, I2, r, q2⟩ => ⟨I2.kIn, ?_⟩) hst hpl
  exact run_fn (us := .ref a :: us) (vs := .ref a :: vs) F hr hb hd hx I2 (.cons rfl r) q2
theorem pe_meth0 {pl : Sem Bool} (he : PE X o ta) (c : Cls X.K C) (hm : Meth X.K C m f) (F : FnOk X.prog X.w X.K X.mg X.base CX k f fd ps sp) (hr : Room k X.A) (hb : Binds X.K fd ps ds) (hd : Vals dvs ds) (hx : Passes CX X E)
    (ht : eval (.Call (.Attribute o m apos) [] [] pos) X.env = (do
      let ov ← eval o X.env
      standAt apos.atName
      let (f, first) ← holding [ov] (getMethod ov m pl)
      callWith pos f first (backTo pos (starEach [] X.env)) (backToKw pos (keywordEach [] X.env))) := by rfl) :
    PE X (.Call (.Attribute o m apos) [] [] pos) (tMeth C m sp dvs E ta tNil) := by
  intro pins s σ H Q I h
  refine PySem.W.methodCall_KW (pl := pl) (thn (he pins s σ H _ I h) ?_) ht
  rintro u s1 ⟨x, H1, I1, rx, a, dx, fs, ex, ea, l, q⟩
  subst ex
  obtain rfl : u = Value.ref a := rx
  refine getmeth_ok I1 ea c hm l ?_
  exact PySem.W.callWith_K0 (first := [.ref a]) I1.kIn hm.kp (run_fn (us := [.ref a]) (vs := [.ref a]) F hr hb hd hx I1 (.cons rfl .nil) q)
structure Mk (K : PySem.W.Frag) (C f : Addr) : Prop where
  makes : PySem.W.makesIn K C = true
  init : PySem.W.findIn K (.ref C) "__init__" = some (some (.ref f))
  fn : PySem.W.isFn K (.ref f) = true
  kp : PySem.W.keepIn K (.ref C) = true
theorem run_make {pins : List (Addr × Obj)} {σ : St} {H : Hp} {s : Shared} {Q : VK} {us : List Value} {vs : List V} (M : Mk X.K C f) (F : FnOk X.prog X.w X.K X.mg X.base CX k f fd ps sp) (hr : Room (k + 1) X.A) (hb : Binds X.K fd ps ds) (hd : Vals dvs ds)
    (hx : Passes CX X E) (I : Inv X pins σ H s) (r : Vals vs us)
    (h : ∀ x dx, H x = none → H dx = none → dx ≠ x → sp (.ref x :: (vs ++ dvs)) (upd (upd H dx (.own x)) x (.ins C dx [])) (fun v H2 => v = .non ∧ Q (.ref x) H2) E) :
    wpAny (model X.prog X.w) X.A (call (.ref C) us) (EP X pins σ Q) X.xe s := by
  have hq := h (s.heap.objs.size + 1) s.heap.objs.size (I.hok.fresh (Nat.le_succ _)) (I.hok.fresh (Nat.le_refl _)) (Nat.ne_of_lt (Nat.lt_succ_self _))
  have I2 := Inv.made (C := C) I
  have r2 : Vals (V.ref (s.heap.objs.size + 1) :: (vs ++ dvs)) (Value.ref (s.heap.objs.size + 1) :: (us ++ ds)) := .cons rfl (r.append hd)
  have hl : (Value.ref (s.heap.objs.size + 1) :: us ++ ds).length = ps.length := by
    have e := r2.length
    rw [F.len _ _ _ _ hq] at e
    exact e.symm
  refine wpAny_call (make_map (f := f) I.kIn M.makes M.init (beq_iff_eq.mp M.fn) (codeAny_mono (F.run _ X.stack _ _ ⟨Value.ref (s.heap.objs.size + 1) :: us, []⟩ (Value.ref (s.heap.objs.size + 1) :: (us ++ ds)) _ _ E (hr.make C us [])
    (I2.env0.make C us []) (hb _ (Value.ref (s.heap.objs.size + 1) :: us) I2.kIn hl) r2 hq) fun r s' hq' => ?_))
  cases r with
  | error e => exact hx pins σ _ _ e s' I2 hq'
  | ok fl =>
    cases fl with
    | ret u =>
      obtain ⟨v, H', I3, rv, ev, q3⟩ := I2.after hq'
      subst ev
      exact ⟨rv, ⟨V.ref (s.heap.objs.size + 1), H', I3, rfl, q3⟩⟩
    | next => exact False.elim hq'
    | brk => exact False.elim hq'
    | cont => exact False.elim hq'
theorem pe_make (M : Mk X.K C f) (F : FnOk X.prog X.w X.K X.mg X.base CX k f fd ps sp) (hr : Room (k + 1) X.A) (hg : Gl X x) (hm : X.mg x = some (.ref C)) (hb : Binds X.K fd ps ds) (hd : Vals dvs ds) (hx : Passes CX X E)
    (ha : PA X (e :: es) t) (hdb : (x == ("__debug__" : Str)) = false := by decide) (he : starEach (e :: es) X.env = (false, eval e X.env) :: starEach es X.env := by rfl) (hpl : (backTo pos (starEach es X.env)).any (·.1) = false := by rfl) :
    PE X (.Call (.Name x p) (e :: es) [] pos) (tMake C sp dvs E t) := by
  intro pins s σ H Q I h
  refine wpAny_Call_Name_kw (ld_glob I hg hm ?_ hdb)
  refine PySem.W.callWith_K (h₀ := X.base) I.ok.mod.kin M.kp (thn (ha pos pins s σ H _ I h) fun us s1 ⟨vs, H1, I1, r, q⟩ => ⟨I1.kIn, ?_⟩) he hpl
  exact run_make M F hr hb hd hx I1 r q
end
section
variable {X : Cx} {CX : CXT} {k : Nat} {f C : Addr} {fd : FuncData} {ps ks : List Str} {sp : Sp} {E : XK} {x m : Str} {p pos apos kpos : Pos} {e o : Expr} {es : List Expr} {kws : List Keyword} {te ta : TE} {t tk : TA} {nm : Option Str}
structure KBinds (K : PySem.W.Frag) (fd : FuncData) (ps ks : List Str) (g : List Value → List Value → List Value) (gV : List V → List V → List V) : Prop where
  to : ∀ (s : Shared) (us ws : List Value), K.In s.heap → (g us ws).length = ps.length → BindsTo s fd ⟨us, ks.zip ws⟩ (ps.zip (g us ws))
  rel : ∀ {vs : List V} {us : List Value} {zs : List V} {ws : List Value}, Vals vs us → Vals zs ws → Vals (gV vs zs) (g us ws)
variable {g : List Value → List Value → List Value} {gV : List V → List V → List V}
end
structure FnScope (N P : List Str) (sc : Scope) : Prop where
  kind : sc.kind = .function
  co : sc.isCoroutine = false
  gen : sc.isGenerator = false
  nd : N.Nodup
  pre : N.take P.length = P
  par : ∀ x ∈ P, sc.names.lookup x = some .local ∨ sc.names.lookup x = some .cell
  nofree : ∀ y ∈ sc.names, y.2 ≠ .free
theorem bindL_out {kindOf : Str → Option NameKind} {x : Str} : ∀ {binds : List (Str × Value)} {m : Str → Option Value}, (∀ v, (x, v) ∉ binds) → bindL kindOf binds m x = m x
  | [], _, _ => rfl
  | (n, v) :: r, m, h => by
    unfold bindL
    rw [bindL_out fun w hw => h w (List.mem_cons_of_mem _ hw)]
    split
    · have : x ≠ n := by rintro rfl; exact h v List.mem_cons_self
      simp [this]
    · rfl
theorem bindC_out {kindOf : Str → Option NameKind} {x : Str} : ∀ {binds : List (Str × Value)} {m : Str → Option Value}, (∀ v, (x, v) ∉ binds) → bindC kindOf binds m x = m x
  | [], _, _ => rfl
  | (n, v) :: r, m, h => by
    unfold bindC
    rw [bindC_out fun w hw => h w (List.mem_cons_of_mem _ hw)]
    split
    · rfl
    · have : x ≠ n := by rintro rfl; exact h v List.mem_cons_self
      simp [this]
theorem bindL_get {kindOf : Str → Option NameKind} {x : Str} {v : Value} : ∀ {P : List Str} {vs : List Value} {i : Nat} {m : Str → Option Value}, P.Nodup → P[i]? = some x → vs[i]? = some v → kindOf x = some .local →
    bindL kindOf (P.zip vs) m x = some v
  | [], _, _, _, _, h, _, _ => by simp at h
  | _ :: _, [], _, _, _, _, h, _ => by simp at h
  | p :: P, w :: vs, 0, m, nd, h1, h2, hk => by
    simp at h1 h2; subst h1; subst h2
    show bindL kindOf ((p, w) :: P.zip vs) m p = _
    unfold bindL
    rw [bindL_out fun v hv => (List.nodup_cons.mp nd).1 (List.of_mem_zip hv).1, if_pos hk]
    simp
  | p :: P, w :: vs, i + 1, m, nd, h1, h2, hk => by
    show bindL kindOf ((p, w) :: P.zip vs) m x = _
    unfold bindL
    exact bindL_get (i := i) (List.nodup_cons.mp nd).2 (by simpa using h1) (by simpa using h2) hk
theorem bindC_get {kindOf : Str → Option NameKind} {x : Str} {v : Value} : ∀ {P : List Str} {vs : List Value} {i : Nat} {m : Str → Option Value}, P.Nodup → P[i]? = some x → vs[i]? = some v → kindOf x ≠ some .local →
    bindC kindOf (P.zip vs) m x = some v
  | [], _, _, _, _, h, _, _ => by simp at h
  | _ :: _, [], _, _, _, _, h, _ => by simp at h
  | p :: P, w :: vs, 0, m, nd, h1, h2, hk => by
    simp at h1 h2; subst h1; subst h2
    show bindC kindOf ((p, w) :: P.zip vs) m p = _
    unfold bindC
    rw [bindC_out fun v hv => (List.nodup_cons.mp nd).1 (List.of_mem_zip hv).1, if_neg hk]
    simp
  | p :: P, w :: vs, i + 1, m, nd, h1, h2, hk => by
    show bindC kindOf ((p, w) :: P.zip vs) m x = _
    unfold bindC
    exact bindC_get (i := i) (List.nodup_cons.mp nd).2 (by simpa using h1) (by simpa using h2) hk
noncomputable def start (N : List Str) (vs : List V) : St := vs.map some ++ List.replicate (N.length - vs.length) none
noncomputable def cxOf (CX : CXT) (P : Program) (w : World) (K : PySem.W.Frag) (mg : Str → Option Value) (base : Heap) (N : List Str) (qual : Str) (scope : Scope) (f : Addr) (cd : Value) (A : Around) (outer : List Env) (s : Shared) (H : Hp) (E : XK) : Cx where
  prog := P
  w := w
  K := K
  mg := mg
  base := base
  A := A.deeper (envOfC qual scope s.heap.objs.size f cd)
  N := N
  s₀ := s
  H₀ := H
  env := envOfC qual scope s.heap.objs.size f cd
  outer := outer
  stack := envOfC qual scope s.heap.objs.size f cd :: outer
  ex := []
  calm := true
  fn := fun _ => true
  pn := []
  xe := fun e s' => wpAny (model P w) (A.deeper (envOfC qual scope s.heap.objs.size f cd)) (leaving (envOfC qual scope s.heap.objs.size f cd) e) (fun _ s'' => CX outer H s E e s'') (fun e' s'' => CX outer H s E e' s'') s'
theorem cell_has {sc : Scope} {n : Nat} {x : Str} (h : sc.names.lookup x = some .cell) : ∃ c, (cellsFrom n sc.names []).lookup x = some c := by
  have q := PySem.W.cellsFrom_some sc.names n [] (.inl h)
  exact Option.isSome_iff_exists.mp q
theorem inv_start {CX : CXT} {P : Program} {w : World} {K : PySem.W.Frag} {mg : Str → Option Value} {base : Heap} {N ps : List Str} {qual : Str} {scope : Scope} {f : Addr} {cd : Value} {A : Around} {outer : List Env} {s s1 : Shared} {H : Hp} {E : XK} {us : List Value} {vs : List V}
    (S : FnScope N ps scope) (hd : A.handled = none) (e0 : Env0 P w K mg base A outer s H) (hl : vs.length = ps.length) (r : Vals vs us)
    (x : InCallC s s.heap.objs.size (bindL (envOfC qual scope s.heap.objs.size f cd).kindOf (ps.zip us) fun _ => none) (cellsFrom (s.heap.objs.size + 1) scope.names []) (bindC (envOfC qual scope s.heap.objs.size f cd).kindOf (ps.zip us) fun _ => none) s1) :
    Inv (cxOf CX P w K mg base N qual scope f cd A outer s H E) [] (start N vs) H s1 := by
  have hpl : ps.length ≤ N.length := by have := congrArg List.length S.pre; rw [List.length_take] at this; omega
  obtain ⟨h1, tk, rfl, hk⟩ := x.done
  have noA : ∀ b : Addr, b ∉ (cxOf CX P w K mg base N qual scope f cd A outer s H E).ex := fun b z => absurd (show b ∈ ([] : List Addr) from z) (by simp)
  refine ⟨⟨e0.mod, S.kind, rfl, rfl, Nat.le_refl _, fun y z c h1 h2 => ?_, fun y hy => ?_, fun y c _ h => ?_, fun _ => hd, Around.frames_deeper e0.frames, .inr ⟨rfl, rfl⟩, fun b z => absurd z (noA b), e0.bs, e0.bsz, fun b _ _ => noA b, fun b z => absurd z (noA b), e0.funs, e0.frf⟩,
    rfl, e0.bare, Un.kept hk, ⟨_, x.toInCall.ns, fun i y v h1 h2 h3 => ?_⟩, fun y c h => ⟨_, x.cell y c h⟩, e0.hok.fresh (Nat.le_refl _), fun y c h => ?_, fun p hp => absurd (show p ∈ ([] : List (Addr × Obj)) from hp) (by simp), e0.hok.kept hk, ?_⟩
  · exact name_of_addr x.apart (PySem.mem_of_lookup h1) (PySem.mem_of_lookup h2)
  · have hy : scope.names.lookup y = some .cell ∨ scope.names.lookup y = some .free := hy
    rcases hy with hy | hy
    · exact cell_has hy
    · exact absurd rfl (S.nofree _ (PySem.mem_of_lookup hy))
  · exact Nat.le_of_lt (x.above y c (PySem.mem_of_lookup h))
  · have hi : i < vs.length := by
      unfold start at h2
      by_cases hi : i < vs.length
      · exact hi
      · rw [List.getElem?_append_right (by simpa using hi)] at h2
        rw [List.getElem?_replicate] at h2
        split at h2 <;> cases h2
    have ha : vs[i]? = some v := by
      unfold start at h2
      rw [List.getElem?_append_left (by simpa using hi), List.getElem?_map] at h2
      cases e : vs[i]? with
      | none => rw [e] at h2; cases h2
      | some a => rw [e] at h2; cases h2; rfl
    obtain ⟨u, hu, rv⟩ := r.get ha
    have hp : ps[i]? = some y := by
      rw [← S.pre, List.getElem?_take_of_lt (by omega)]; exact h1
    have ndP : ps.Nodup := by rw [← S.pre]; exact S.nd.sublist (List.take_sublist _ _)
    refine ⟨u, rv, ?_⟩
    rcases S.par y (List.mem_of_getElem? hp) with k | k
    · exact .inl ⟨k, bindL_get ndP hp hu k⟩
    · obtain ⟨c, e⟩ := cell_has (n := s.heap.objs.size + 1) k
      refine .inr ⟨.inl k, c, e, ?_⟩
      have q := x.cell y c e
      rw [bindC_get ndP hp hu (by show scope.names.lookup y ≠ _; rw [k]; decide)] at q
      exact q
  · exact e0.hok.fresh (Nat.le_of_lt (x.above y c (PySem.mem_of_lookup h)))
  · unfold start
    show _ = N.length
    rw [List.length_append, List.length_map, List.length_replicate]
    omega
theorem fn_of {CX : CXT} {P : Program} {w : World} {K : PySem.W.Frag} {mg : Str → Option Value} {base : Heap} {k : Nat} {f : Addr} {name qual : Str} {params : Arguments} {body : List Stmt} {scope : Scope} {dV kV doc pm cdv ct oc : Value} {an od : Option Addr}
    {osl : Array (Option Value)} {N ps : List Str} {sp : Sp} (lk : K.lookup f = some ⟨oc, od, .func (PySem.W.fnOf name qual params body scope dV kV doc pm an cdv ct), osl⟩) (hcd : PySem.W.codeIn K cdv qual = true) (S : FnScope N ps scope)
    (len : ∀ vs H Q E, sp vs H Q E → vs.length = ps.length)
    (hbody : ∀ (A : Around) (outer : List Env) (s : Shared) (H : Hp) (vs : List V) (Q : VK) (E : XK), Room k (A.deeper (envOfC qual scope s.heap.objs.size f cdv)) → sp vs H Q E →
      ∃ t, PSs (cxOf CX P w K mg base N qual scope f cdv A outer s H E) body t ∧ t { nx := fun _ H' => Q .non H', rt := Q } (start N vs) H) :
    FnOk P w K mg base CX (k + 1) f (PySem.W.fnOf name qual params body scope dV kV doc pm an cdv ct) ps sp := by
  refine ⟨len, fun A outer s H args us vs Q E hr e0 hb r hsp => ?_⟩
  have hl := len _ _ _ _ hsp
  have KX : K.In s.heap := e0.mod.kin.keeps fun b o e => (e0.bs b o e).1
  have lim : s.heap.NoLimit := e0.mod.nolimit.keeps fun b o e => (e0.bs b o e).1
  have hkind : ∀ y ∈ ps.zip us, scope.names.lookup y.1 = some .local ∨ (scope.names.lookup y.1 = some .cell ∧ ((cellsFrom (s.heap.objs.size + 1) scope.names []).lookup y.1).isSome = true) := by
    rintro ⟨n, v⟩ hy
    rcases S.par n (List.of_mem_zip hy).1 with q | q
    · exact .inl q
    · exact .inr ⟨q, PySem.W.cellsFrom_some _ _ _ (.inl q)⟩
  refine codeAny_call_function hr.depth (KX _ _ lk) rfl S.co S.gen rfl (PySem.W.codeRec_of KX hcd) (hb _ _ _ _ ?_)
  refine wpAny_newFunctionEnv_cells S.kind hkind fun env he s1 x => ?_
  subst he
  refine ⟨lim.keeps x.toInCall.keep, codeAny_func ?_⟩
  obtain ⟨t, ht, hq⟩ := hbody A outer s H vs Q E (hr.deeper _) hsp
  have I : Inv (cxOf CX P w K mg base N qual scope f cdv A outer s H E) [] (start N vs) H s1 := inv_start S hr.hd e0 hl r x
  refine wpAny_mono (ht [] s1 (start N vs) H _ I hq) (fun fl s' hs => ?_) fun e s' hs => hs
  have fin : ∀ {σ' : St} {H' : Hp} {v : V} {u : Value}, Inv (cxOf CX P w K mg base N qual scope f cdv A outer s H E) [] σ' H' s' → RelV v u → Q v H' → CE outer P w H s Q u s' :=
    fun {σ' H' v u} J rv q => ⟨v, H', J.os, J.bare, J.base, J.hok, rv, q⟩
  cases fl with
  | ret u =>
    obtain ⟨v, σ', H', J, rv, q⟩ := hs
    exact fin J rv q
  | next =>
    obtain ⟨σ', H', J, q⟩ := hs
    exact fin (v := V.non) (u := Value.none) J rfl q
  | brk =>
    obtain ⟨_, _, _, q⟩ := hs
    exact False.elim q
  | cont =>
    obtain ⟨_, _, _, q⟩ := hs
    exact False.elim q
section
variable {X : Cx} {x : Str} {p pos : Pos} {e : Expr} {es : List Expr} {t : TA} {id T : String} {r : List V → Hp → VK → Prop}
noncomputable def tCB (r : List V → Hp → VK → Prop) (t : TA) : TE := fun σ H Q => t σ H fun vs H1 => r vs H1 Q
theorem pe_callB (hc : CallR X (.builtin id) r) (hg : Gl X x) (hm : X.mg x = none) (hv : bootBuiltins x = some (.builtin id)) (ha : PA X (e :: es) t) (hn : x ≠ "__name__" := by decide) (hdb : (x == ("__debug__" : Str)) = false := by decide)
    (he : starEach (e :: es) X.env = (false, eval e X.env) :: starEach es X.env := by rfl) (hpl : (backTo pos (starEach es X.env)).any (·.1) = false := by rfl) : PE X (.Call (.Name x p) (e :: es) [] pos) (tCB r t) := by
  intro pins s σ H Q I h
  refine wpAny_Call_Name_kw (ld_blt I hg hm hv ?_ hn hdb)
  exact PyProof.Rows.callWith_builtin1 (thn (ha pos pins s σ H _ I h) fun us s1 ⟨vs, H1, I1, r1, q1⟩ => hc pins s1 σ H1 vs us Q I1 r1 q1) he hpl
theorem pe_callTy (hc : CallR X (.type T) r) (hg : Gl X x) (hm : X.mg x = none) (hv : bootBuiltins x = some (.type T)) (ha : PA X (e :: es) t) (hn : x ≠ "__name__" := by decide) (hdb : (x == ("__debug__" : Str)) = false := by decide)
    (he : starEach (e :: es) X.env = (false, eval e X.env) :: starEach es X.env := by rfl) (hpl : (backTo pos (starEach es X.env)).any (·.1) = false := by rfl) : PE X (.Call (.Name x p) (e :: es) [] pos) (tCB r t) := by
  intro pins s σ H Q I h
  refine wpAny_Call_Name_kw (ld_blt I hg hm hv ?_ hn hdb)
  exact PyProof.Rows.callWith_type1 (thn (ha pos pins s σ H _ I h) fun us s1 ⟨vs, H1, I1, r1, q1⟩ => hc pins s1 σ H1 vs us Q I1 r1 q1) he hpl
end
end L2
namespace HT
open PySem PyProof.Rows
section
open PySem.SeqAt
open PySem.AutoSeq1 (wpAny_loadPart')
open PySem.MeetsSeq PySem.MeetsSeq2 PySem.MeetsSeq3
end
section
variable {prog : Program} {w : World} {A : Around} {E : Value → Shared → Prop} {s : Shared}
theorem cat_tup {t b : Addr} {vs ws : List Value} {Q : Value → Shared → Prop} (ht : IsTup s.heap t vs.toArray) (hb : IsTup s.heap b ws.toArray) (hv : vs ≠ [])
    (h1 : ws = [] → Q (.ref t) s) (h2 : ws ≠ [] → Q (.ref s.heap.objs.size) { s with heap := s.heap.push { cls := .type "tuple", data := .seq (vs ++ ws).toArray } })
    (hsz : vs.length + ws.length ≤ sizeLine) : wpAny (model prog w) A (binaryOp .Add (.ref t) (.ref b)) Q E s := by
  obtain ⟨⟨cls, dd, data, sl⟩, ho, hc, n, hd⟩ := id ht
  obtain ⟨⟨cls2, dd2, data2, sl2⟩, ho2, hc2, n2, hd2⟩ := id hb
  simp only at hc hd hc2 hd2
  subst hc hd hc2 hd2
  have e : vs.toArray ++ ws.toArray = (vs ++ ws).toArray := by simp
  by_cases hw : ws = []
  · exact concat_meets ⟨_, ho, rfl⟩ ⟨_, ho2, rfl⟩ noFill_tuple_add seq_tuple_add PySem.F.slot_tuple_add PySem.F.entry_tuple_add (PySem.F.args_tuple_add_2 _ _)
      (tuple_addW1 t b vs.toArray ws.toArray n n2 dd dd2 sl sl2 (by simpa using hv) (by simp [hw])) ⟨ho, ho2, h1 hw⟩
  · refine concat_meets ⟨_, ho, rfl⟩ ⟨_, ho2, rfl⟩ noFill_tuple_add seq_tuple_add PySem.F.slot_tuple_add PySem.F.entry_tuple_add (PySem.F.args_tuple_add_2 _ _)
      (tuple_addW2 t b vs.toArray ws.toArray n n2 dd dd2 sl sl2 (by simpa using hv) (by simpa using hw) (by rw [List.size_toArray, List.size_toArray]; exact hsz)) ⟨ho, ho2, ?_⟩
    rw [e]
    exact h2 hw
noncomputable def sIx (n d : Nat) : Option Int → Nat
  | none => d
  | some v => if v < 0 then (v + (n : Int)).toNat else min v.toNat n
theorem sIx_le (n d : Nat) (hd : d ≤ n) (o : Option Int) : sIx n d o ≤ n := by
  cases o with
  | none => exact hd
  | some v =>
    show (if v < 0 then (v + (n : Int)).toNat else min v.toNat n) ≤ n
    by_cases hv : v < 0
    · rw [if_pos hv]; omega
    · rw [if_neg hv]; exact Nat.min_le_right _ _
theorem clip_eq (v : Int) (n d : Nat) : (if v < 0 then max (v + (n : Int)) 0 else min v (n : Int)) = ((sIx n d (some v) : Nat) : Int) := by
  show (if v < 0 then max (v + (n : Int)) 0 else min v (n : Int)) = (((if v < 0 then (v + (n : Int)).toNat else min v.toNat n) : Nat) : Int)
  by_cases hv : v < 0
  · simp only [if_pos hv]; omega
  · simp only [if_neg hv]; omega
theorem adjust_gen (lo hi : Option Int) (n : Nat) : Builtin.Slice.sliceAdjust lo hi 1 (n : Int) = (((sIx n 0 lo : Nat) : Int), ((sIx n n hi : Nat) : Int)) := by
  have h1 : ¬ ((1 : Int) < 0) := by omega
  unfold Builtin.Slice.sliceAdjust
  simp only [h1, if_false]
  refine Prod.ext ?_ ?_
  · cases lo with
    | none => rfl
    | some v => exact clip_eq v n 0
  · cases hi with
    | none => rfl
    | some v => exact clip_eq v n n
theorem places_gen (i j : Nat) : Builtin.Slice.slicePlaces (i : Int) (j : Int) 1 = j - i := by
  unfold Builtin.Slice.slicePlaces
  have h1 : (1 : Int) > 0 := by omega
  simp only [h1, if_true, Int.ediv_one]
  split <;> omega
theorem slicePart_ {v : Value} {o : Option Int} {Q : Option Int → Shared → Prop} (p : IsPart v o) (h : Q o s) : wpAny (model prog w) A (Builtin.Slice.slicePartIndex v) Q E s := by
  cases p with
  | none => exact slicePart_none h
  | int i t => exact slicePart_int h
theorem sliceApplied_gen {sl : Addr} {vl vu : Value} {lo hi : Option Int} {n : Nat} {Q : Int × Int × Nat → Shared → Prop} (hs : s.heap.IsSliceOf sl vl vu .none) (pl : IsPart vl lo) (pu : IsPart vu hi)
    (h : Q (((sIx n 0 lo : Nat) : Int), 1, sIx n n hi - sIx n 0 lo) s) : wpAny (model prog w) A (Builtin.Slice.sliceApplied (.ref sl) (pure (n : Int))) Q E s := by
  obtain ⟨os, hos, hcs, hds⟩ := id hs
  unfold Builtin.Slice.sliceApplied Builtin.Slice.sliceFields
  refine wpAny_bind (wpAny_bind (wpAny_field hos hds (x := vl) rfl (wpAny_bind (wpAny_field hos hds (x := vu) rfl (wpAny_bind (wpAny_field hos hds (x := .none) rfl (wpAny_pure ?_)))))))
  refine wpAny_bind (slicePart_none ?_)
  show wpAny _ _ (if ((1 : Int) == 0) = true then _ else _) _ _ s
  rw [if_neg (by decide)]
  refine wpAny_bind (slicePart_ pl (wpAny_bind (slicePart_ pu (wpAny_bind (wpAny_pure ?_)))))
  show wpAny _ _ (match Builtin.Slice.sliceAdjust lo hi 1 (n : Int) with | (lo, hi) => pure (lo, (1 : Int), Builtin.Slice.slicePlaces lo hi 1)) _ _ s
  rw [adjust_gen lo hi n]
  show wpAny _ _ (pure (((sIx n 0 lo : Nat) : Int), (1 : Int), Builtin.Slice.slicePlaces ((sIx n 0 lo : Nat) : Int) ((sIx n n hi : Nat) : Int) 1)) _ _ s
  rw [places_gen]
  exact wpAny_pure h
theorem pick_gen (xs : Array Value) (i k : Nat) : ((List.range k).filterMap fun (m : Nat) => xs[((i : Int) + (m : Int) * 1).toNat]?).toArray = ((xs.toList.drop i).take k).toArray := by
  have e : (fun (m : Nat) => xs[((i : Int) + (m : Int) * 1).toNat]?) = fun m => xs[i + m]? := by
    funext m
    have : ((i : Int) + (m : Int) * 1).toNat = i + m := by omega
    rw [this]
  rw [e]
  have := pick_run xs i k
  rw [List.filterMap_map] at this
  have e2 : ((fun x => xs[x]?) ∘ fun x => i + x) = fun m => xs[i + m]? := rfl
  rw [e2] at this
  rw [this]
theorem getItem_tuple_cut {t sl : Addr} {items : Array Value} {vl vu : Value} {lo hi : Option Int} {Q : Value → Shared → Prop} (ht : IsTup s.heap t items) (hs : s.heap.IsSliceOf sl vl vu .none) (pl : IsPart vl lo) (pu : IsPart vu hi)
    (hw : ¬ (sIx items.size 0 lo = 0 ∧ sIx items.size items.size hi = items.size))
    (h : Q (.ref s.heap.objs.size) { s with heap := s.heap.push { cls := .type "tuple", data := .seq ((items.toList.drop (sIx items.size 0 lo)).take (sIx items.size items.size hi - sIx items.size 0 lo)).toArray } })
    (hsz : items.size ≤ sizeLine) : wpAny (model prog w) A (getItem (.ref t) (.ref sl)) Q E s := by
  have htake : sizeOk (.seq ((items.toList.drop (sIx items.size 0 lo)).take (sIx items.size items.size hi - sIx items.size 0 lo)).toArray) := by
    show ((items.toList.drop (sIx items.size 0 lo)).take (sIx items.size items.size hi - sIx items.size 0 lo)).toArray.size ≤ sizeLine
    rw [List.size_toArray, List.length_take, List.length_drop, Array.length_toList]
    omega
  have hj : sIx items.size items.size hi ≤ items.size := sIx_le _ _ (Nat.le_refl _) hi
  obtain ⟨os, hos, hcs, hds⟩ := id hs
  have hTs : s.TypeIs (.ref sl) "slice" := ⟨os, hos, hcs⟩
  unfold getItem
  try with_reducible refine wpAny_holding ?_
  first | refine wpAny_bind (wpAny_pure ?_) | skip
  refine wpAny_bind (wpAny_sequenceKey ht.typeIs (by decide) ?_)
  refine wpAny_bind (wpAny_callSpecial?_slot (name := Str.ofString "__getitem__") ht.typeIs PyProof.Rows.slot_tuple_getitem
    (wpAny_call_entry PyProof.Rows.slot_tuple_getitem ht.typeIs entry_tuple_getitem ?_ (args_tuple_getitem _ _)))
  show wpAny _ _ (Builtin.Tuple.tupleItemsOf (.ref t) >>= _) _ _ s
  refine wpAny_bind (tupleItemsOf_ ht ?_)
  refine wpAny_bind (wpAny_typeOf hTs ?_)
  rw [if_pos (by decide)]
  refine wpAny_bind (sliceApplied_gen hs pl pu ?_)
  have hno : ¬ ((((sIx items.size 0 lo : Nat) : Int) == 0 && (1 : Int) == 1 && (sIx items.size items.size hi - sIx items.size 0 lo) == items.size) = true) := by
    intro q
    rw [Bool.and_eq_true, Bool.and_eq_true] at q
    have q1 : ((sIx items.size 0 lo : Nat) : Int) = 0 := eq_of_beq q.1.1
    have q2 : sIx items.size items.size hi - sIx items.size 0 lo = items.size := eq_of_beq q.2
    exact hw ⟨by omega, by omega⟩
  show wpAny _ _ (if (((sIx items.size 0 lo : Nat) : Int) == 0 && (1 : Int) == 1 && (sIx items.size items.size hi - sIx items.size 0 lo) == items.size) = true then _ else _) _ _ s
  rw [if_neg hno, pick_gen]
  first
    | exact wpAny_bind (m := Builtin.Tuple.tupleExact _) (wpAny_newObj_type (wpAny_pure ⟨_, rfl, wpAny_pure h⟩) htake)
    | exact wpAny_bind (m := Builtin.Tuple.tupleExact _) (wpAny_newObj_type (wpAny_bind (wpAny_pure (wpAny_pure ⟨_, rfl, wpAny_pure h⟩))) htake)
    | exact wpAny_bind (wpAny_bind (m := Builtin.Tuple.tupleExact _) (wpAny_newObj_type (wpAny_pure (wpAny_pure ⟨_, rfl, wpAny_pure h⟩)) htake))
    | exact wpAny_bind (wpAny_bind (m := Builtin.Tuple.tupleExact _) (wpAny_newObj_type (wpAny_pure ⟨_, rfl, wpAny_pure h⟩) htake))
end
end HT
namespace L2
open PySem PySem.Spec PyProof.Rows
noncomputable abbrev TO := St → Hp → (Option Int → Hp → Prop) → Prop
noncomputable def PO (X : Cx) (e : Option Expr) (t : TO) : Prop :=
  ∀ (pins : List (Addr × Obj)) (s : Shared) (σ : St) (H : Hp) (Q : Option Int → Hp → Prop), Inv X pins σ H s → t σ H Q →
    wpAny (model X.prog X.w) X.A (evalPart e X.env) (fun u s' => ∃ o H', Inv X pins σ H' s' ∧ IsPart u o ∧ Q o H') X.xe s
noncomputable def tNoPart : TO := fun _ H Q => Q none H
noncomputable def tPart (t : TE) : TO := fun σ H Q => t σ H fun x H1 => ∃ i, x = .int i ∧ Q (some i) H1
section
variable {X : Cx} {e : Expr} {te : TE} {lo hi : Option Expr} {tl th : TO} {pos p2 : Pos}
theorem po_none : PO X none tNoPart := by
  intro pins s σ H Q I h
  rw [evalPart_none]
  exact wpAny_pure ⟨none, H, I, .none, h⟩
theorem po_some (h : PE X e te) : PO X (some e) (tPart te) := by
  intro pins s σ H Q I hw
  rw [evalPart_some]
  refine thn (h pins s σ H _ I hw) ?_
  rintro u s1 ⟨x, H1, I1, r1, q1⟩
  obtain ⟨i, rfl, q⟩ := q1
  obtain ⟨t, rfl⟩ := r1
  exact ⟨some i, H1, I1, .int i t, q⟩
noncomputable def SlR (X : Cx) (r : V → Option Int → Option Int → Hp → VK → Prop) : Prop :=
  ∀ (pins : List (Addr × Obj)) (s : Shared) (σ : St) (H : Hp) (x : V) (v vl vu : Value) (lo hi : Option Int) (sl : Addr) (Q : VK), Inv X pins σ H s → RelV x v → s.heap.IsSliceOf sl vl vu .none → IsPart vl lo → IsPart vu hi → r x lo hi H Q →
    ∃ T id, typeLookup (.type T) "__getitem__" = pure (some (.builtin id)) ∧ s.TypeIs v T ∧ wpAny (model X.prog X.w) X.A (getItem v (.ref sl)) (EP X pins σ Q) X.xe s
theorem SlR.or {r r' : V → Option Int → Option Int → Hp → VK → Prop} (h : SlR X r) (h' : SlR X r') : SlR X (fun x lo hi H Q => r x lo hi H Q ∨ r' x lo hi H Q) := by
  intro pins s σ H x v vl vu lo hi sl Q I rx hs pl pu q
  rcases q with q | q
  · exact h pins s σ H x v vl vu lo hi sl Q I rx hs pl pu q
  · exact h' pins s σ H x v vl vu lo hi sl Q I rx hs pl pu q
noncomputable def tSl (r : V → Option Int → Option Int → Hp → VK → Prop) (te : TE) (tl th : TO) : TE := fun σ H Q => te σ H fun x H1 => tl σ H1 fun l H2 => th σ H2 fun u H3 => r x l u H3 Q
theorem pe_slice {r : V → Option Int → Option Int → Hp → VK → Prop} (hr : SlR X r) (he : PE X e te) (hl : PO X lo tl) (hu : PO X hi th) : PE X (.Subscript e (.Slice lo hi none p2) pos) (tSl r te tl th) := by
  intro pins s σ H Q I h
  refine Subscript_ (thn (he pins s σ H _ I h) ?_)
  rintro v s1 ⟨x, H1, I1, r1, q1⟩
  refine wpAny_Slice (thn (hl pins s1 σ H1 _ I1 q1) ?_)
  rintro vl s2 ⟨l, H2, I2, pl, q2⟩
  refine thn (hu pins s2 σ H2 _ I2 q2) ?_
  rintro vu s3 ⟨u, H3, I3, pu, q3⟩
  rw [evalPart_none]
  refine wpAny_pure ?_
  have I4 : Inv X pins σ H3 { s3 with heap := s3.heap.push { cls := .type "slice", data := .fields #[vl, vu, .none] } } := I3.kept (t' := s3.toks) fun b ob q => Heap.get?_push_of_some _ q
  obtain ⟨T, id, hT, ht, hg⟩ := hr pins { s3 with heap := s3.heap.push { cls := .type "slice", data := .fields #[vl, vu, .none] } } σ H3 x v vl vu l u s3.heap.objs.size Q I4 r1 (Heap.IsSliceOf.new ..) pl pu q3
  show wpAny (model X.prog X.w) X.A (subscriptTail e (.Slice lo hi none p2) v (.ref s3.heap.objs.size)) (EP X pins σ Q) X.xe { s3 with heap := s3.heap.push { cls := .type "slice", data := .fields #[vl, vu, .none] } }
  exact tail_any (ops := [.ref s3.heap.objs.size, v]) ht hT hg (by with_unfolding_all rfl)
noncomputable def cutV (xs : List V) (lo hi : Option Int) : List V := (xs.drop (HT.sIx xs.length 0 lo)).take (HT.sIx xs.length xs.length hi - HT.sIx xs.length 0 lo)
theorem cutV_length (xs : List V) (lo hi : Option Int) : (cutV xs lo hi).length ≤ xs.length := by
  unfold cutV
  rw [List.length_take, List.length_drop]
  omega
noncomputable def rSlT (K : PySem.W.Frag) : V → Option Int → Option Int → Hp → VK → Prop := fun x lo hi H Q => ∃ a xs, x = .ref a ∧ SqT K H a xs ∧
  ¬ (HT.sIx xs.length 0 lo = 0 ∧ HT.sIx xs.length xs.length hi = xs.length) ∧ ∀ p, H p = none → Q (.ref p) (upd H p (.tup (cutV xs lo hi)))
theorem sl_tup : SlR X (rSlT X.K) := by
  intro pins s σ H x v vl vu lo hi sl Q I rx hs pl pu h
  obtain ⟨a, xs, rfl, hx, hw, q⟩ := h
  cases rx
  obtain ⟨its, r, ht, hz⟩ := I.tuple hx
  have hlen : its.toArray.size = xs.length := by rw [List.size_toArray]; exact r.length.symm
  refine ⟨"tuple", _, PyProof.Rows.slot_tuple_getitem.lookup, ht.typeIs, ?_⟩
  refine HT.getItem_tuple_cut ht hs pl pu (by rw [hlen]; exact hw) ?_ (by rw [hlen]; exact hz)
  rw [hlen]
  refine ⟨.ref s.heap.objs.size, _, I.laid (t' := s.toks) (o := .tup (cutV xs lo hi)) (fun b ob q => Heap.get?_push_of_some _ q) (Nat.le_refl _) ?_, rfl, q _ (I.hok.fresh (Nat.le_refl _))⟩
  exact ⟨Nat.le_trans (cutV_length xs lo hi) hz, _, (r.drop (HT.sIx xs.length 0 lo)).take (HT.sIx xs.length xs.length hi - HT.sIx xs.length 0 lo), TupP.new _ _⟩
noncomputable def rCatT (K : PySem.W.Frag) : R2 := fun x y H Q => ∃ a b xs ys, x = .ref a ∧ y = .ref b ∧ SqT K H a xs ∧ SqT K H b ys ∧ xs ≠ [] ∧ xs.length + ys.length ≤ sizeLine ∧
  (ys = [] → Q (.ref a) H) ∧ (ys ≠ [] → ∀ p, H p = none → Q (.ref p) (upd H p (.tup (xs ++ ys))))
theorem Vals.nil_iff {xs : List V} {us : List Value} (r : Vals xs us) : us = [] ↔ xs = [] := by
  cases r with
  | nil => simp
  | cons _ _ => simp
theorem op_catT : OpR X (binaryOp .Add) (rCatT X.K) := by
  intro pins s σ H x y v u Q I rx ry h
  obtain ⟨a, b, xs, ys, rfl, rfl, ha, hb, hx, hz, q1, q2⟩ := h
  cases rx
  cases ry
  obtain ⟨its, r1, p1, _⟩ := I.tuple ha
  obtain ⟨its2, r2, p2, _⟩ := I.tuple hb
  refine HT.cat_tup p1 p2 (fun z => hx (r1.nil_iff.mp z)) (fun z => ⟨.ref a, H, I, rfl, q1 (r2.nil_iff.mp z)⟩) (fun z => ?_) (by rw [← r1.length, ← r2.length]; exact hz)
  refine ⟨.ref s.heap.objs.size, _, I.laid (t' := s.toks) (o := .tup (xs ++ ys)) (fun b ob q => Heap.get?_push_of_some _ q) (Nat.le_refl _) ?_, rfl, q2 (fun w => z (r2.nil_iff.mpr w)) _ (I.hok.fresh (Nat.le_refl _))⟩
  exact ⟨by rw [List.length_append]; exact hz, _, r1.append r2, TupP.new _ _⟩
end
noncomputable def ixN (n : Nat) (i : Int) : Option Nat := if 0 ≤ i then (if i < n then some i.toNat else none) else if -(n : Int) ≤ i then some (i + n).toNat else none
noncomputable def atI {α : Type} (xs : List α) (i : Int) : Option α := (ixN xs.length i).bind fun j => xs[j]?
theorem ixN_seq {n : Nat} {i : Int} {j : Nat} (h : ixN n i = some j) : seqIndex? i n = some j ∧ j < n ∧ -(n : Int) ≤ i ∧ i < n := by
  unfold ixN at h
  by_cases h0 : 0 ≤ i
  · rw [if_pos h0] at h
    by_cases h1 : i < n
    · rw [if_pos h1] at h
      have e : i.toNat = j := Option.some.inj h
      exact ⟨by rw [seqIndex_of h0 h1, e], by omega, by omega, h1⟩
    · rw [if_neg h1] at h; cases h
  · rw [if_neg h0] at h
    by_cases h1 : -(n : Int) ≤ i
    · rw [if_pos h1] at h
      have e : (i + n).toNat = j := Option.some.inj h
      exact ⟨by rw [seqIndex_neg (by omega) h1, e], by omega, h1, by omega⟩
    · rw [if_neg h1] at h; cases h
theorem atI_get {α : Type} {xs : List α} {i : Int} {v : α} (h : atI xs i = some v) : ∃ j, seqIndex? i xs.length = some j ∧ xs[j]? = some v ∧ j < xs.length ∧ -(xs.length : Int) ≤ i ∧ i < xs.length := by
  unfold atI at h
  cases e : ixN xs.length i with
  | none => rw [e] at h; cases h
  | some j =>
    rw [e] at h
    obtain ⟨h1, h2, h3, h4⟩ := ixN_seq e
    exact ⟨j, h1, h, h2, h3, h4⟩
theorem atI_nat {α : Type} {xs : List α} {j : Nat} {v : α} (h : xs[j]? = some v) : atI xs (j : Int) = some v := by
  have hj : j < xs.length := (List.getElem?_eq_some_iff.mp h).1
  have e : ixN xs.length (j : Int) = some j := by
    unfold ixN
    rw [if_pos (by omega), if_pos (by omega)]; simp
  unfold atI; rw [e]; exact h
noncomputable def PlainIx (b : Expr) : Prop := ∀ o i, subscripted b false o i = operate [o, i] (getItem o i)
noncomputable def IxR (X : Cx) (r : R2) : Prop :=
  ∀ (value slice : Expr) (pins : List (Addr × Obj)) (s : Shared) (σ : St) (H : Hp) (x y : V) (v u : Value) (Q : VK), Inv X pins σ H s → RelV x v → RelV y u → r x y H Q →
    subscripted slice false v u = operate [v, u] (getItem v u) → wpAny (model X.prog X.w) X.A (subscriptTail value slice v u) (EP X pins σ Q) X.xe s
noncomputable def MtR (X : Cx) (id : String) (r : V → List V → Hp → VK → Prop) : Prop :=
  ∀ (pins : List (Addr × Obj)) (s : Shared) (σ : St) (H : Hp) (x : V) (xs : List V) (v : Value) (us : List Value) (Q : VK), Inv X pins σ H s → RelV x v → Vals xs us → r x xs H Q →
    wpAny (model X.prog X.w) X.A (call (.builtin id) (v :: us)) (EP X pins σ Q) X.xe s
section
variable {X : Cx} {a b : Expr} {ta tb : TE} {pos : Pos}
theorem IxR.or {r r' : R2} (h : IxR X r) (h' : IxR X r') : IxR X (fun x y H Q => r x y H Q ∨ r' x y H Q) := by
  intro value slice pins s σ H x y v u Q I rx ry q hs
  rcases q with q | q
  · exact h value slice pins s σ H x y v u Q I rx ry q hs
  · exact h' value slice pins s σ H x y v u Q I rx ry q hs
theorem MtR.or {id : String} {r r' : V → List V → Hp → VK → Prop} (h : MtR X id r) (h' : MtR X id r') : MtR X id (fun x xs H Q => r x xs H Q ∨ r' x xs H Q) := by
  intro pins s σ H x xs v us Q I rx rs q
  rcases q with q | q
  · exact h pins s σ H x xs v us Q I rx rs q
  · exact h' pins s σ H x xs v us Q I rx rs q
theorem pe_ix {r : R2} (hr : IxR X r) (ha : PE X a ta) (hb : PE X b tb) (hs : PlainIx b) : PE X (.Subscript a b pos) (tOp r ta tb) := by
  intro pins s σ H Q I h
  exact Subscript_ (binT ha hb I h fun v u s2 x y H2 I2 rx ry q => hr a b pins s2 σ H2 x y v u Q I2 rx ry q (hs _ _))
noncomputable def rIxL (K : PySem.W.Frag) : R2 := fun x y H Q => ∃ p xs i v, x = .ref p ∧ y = .int i ∧ SqL K H p xs ∧ atI xs i = some v ∧ Q v H
noncomputable def rIxT (K : PySem.W.Frag) : R2 := fun x y H Q => ∃ p xs i v, x = .ref p ∧ y = .int i ∧ SqT K H p xs ∧ atI xs i = some v ∧ Q v H
noncomputable def rIxS : R2 := fun x y H Q => ∃ z i c, x = .str z ∧ y = .int i ∧ z.length ≤ sizeLine ∧ atI z.cps.toList i = some c ∧ Q (.str ⟨#[c]⟩) H
theorem ix_list : IxR X (rIxL X.K) := by
  intro value slice pins s σ H x y v u Q I rx ry h hs
  obtain ⟨p, xs, i, z, rfl, rfl, hq, he, q⟩ := h
  cases rx
  obtain ⟨t, rfl⟩ := ry
  obtain ⟨its, r, pl, hz⟩ := I.list hq
  obtain ⟨j, h1, h2, h3, h4, h5⟩ := atI_get he
  obtain ⟨w, ew, rw'⟩ := r.get h2
  have hl := r.length
  have hn := line63
  have fin : EP X pins σ Q w s := ⟨z, H, I, rw', q⟩
  by_cases h0 : 0 ≤ i
  · have hj : i.toNat = j := by
      rw [seqIndex_of h0 h5] at h1
      exact Option.some.inj h1
    exact item_listR pl.isList h0 (by omega) (by rw [hj]; simpa using ew) fin hs
  · have hj : (i + (its.toArray.size : Int)).toNat = j := by
      rw [seqIndex_neg (by omega) h4] at h1
      rw [List.size_toArray, ← hl]
      exact Option.some.inj h1
    exact subscriptTail_builtinR (x := w) pl.isList.typeIs slot_list_getitem.lookup
      (wpAny_getItem_list_neg (Q := fun r s' => r = w ∧ EP X pins σ Q r s') pl.isList (by omega) (by rw [List.size_toArray] <;> omega) (by omega) (by rw [hj]; simpa using ew) ⟨rfl, fin⟩) hs
theorem ix_tup : IxR X (rIxT X.K) := by
  intro value slice pins s σ H x y v u Q I rx ry h hs
  obtain ⟨p, xs, i, z, rfl, rfl, hq, he, q⟩ := h
  cases rx
  obtain ⟨t, rfl⟩ := ry
  obtain ⟨its, r, pl, hz⟩ := I.tuple hq
  obtain ⟨j, h1, h2, h3, h4, h5⟩ := atI_get he
  obtain ⟨w, ew, rw'⟩ := r.get h2
  have hl := r.length
  have hn := line63
  have fin : EP X pins σ Q w s := ⟨z, H, I, rw', q⟩
  exact subscriptTail_builtinR (x := w) pl.typeIs slot_tuple_getitem.lookup
    (getItem_tuple (j := j) (Q := fun r s' => r = w ∧ EP X pins σ Q r s') pl (by omega) (by omega) (by rw [List.size_toArray, ← hl]; exact h1) (by simpa using ew) ⟨rfl, fin⟩) hs
theorem ix_str : IxR X rIxS := by
  intro value slice pins s σ H x y v u Q I rx ry h hs
  obtain ⟨z, i, c, rfl, rfl, hz, he, q⟩ := h
  obtain ⟨t, rfl⟩ := rx
  obtain ⟨t', rfl⟩ := ry
  obtain ⟨j, h1, h2, h3, h4, h5⟩ := atI_get he
  have hl : z.cps.toList.length = z.length := by simp [Str.length]
  rw [hl] at h1 h4 h5
  have hn := line63
  exact tail_any (typeIs_str s z t) slot_str_getitem.lookup (getItem_str (c := c) (by
    have e1 : decide (i < -(2 ^ 63 : Int)) = false := decide_eq_false (by omega)
    have e2 : decide (i ≥ 2 ^ 63) = false := decide_eq_false (by omega)
    rw [e1, e2, Bool.or_false]) (by rw [h1]; simpa using h2) ⟨.str ⟨#[c]⟩, H, I.tok _, ⟨_, rfl⟩, q⟩) hs
noncomputable def rIx (K : PySem.W.Frag) : R2 := fun x y H Q => rIxL K x y H Q ∨ rIxT K x y H Q ∨ rIxS x y H Q
theorem ix_seq : IxR X (rIx X.K) := ix_list.or (ix_tup.or ix_str)
theorem mapSeq_set (its : List Value) (n j : Nat) (u : Value) : Obj.mapSeq (·.setIfInBounds j u) { cls := .type "list", data := .seq its.toArray n } = { cls := .type "list", data := .seq (its.set j u).toArray n } := by
  simp [Obj.mapSeq]
theorem Inv.lst {pins : List (Addr × Obj)} {σ : St} {H : Hp} {s : Shared} {p : Addr} {xs : List V} (I : Inv X pins σ H s) (h : H p = some (.lst xs)) :
    ∃ (its : List Value) (n : Nat), Vals xs its ∧ s.heap.get? p = some { cls := .type "list", data := .seq its.toArray n } ∧ xs.length ≤ sizeLine := by
  obtain ⟨z, its, n, r, e⟩ := I.hok p _ h
  exact ⟨its, n, r, e, z⟩
theorem Inv.lstUpd {pins : List (Addr × Obj)} {σ : St} {H : Hp} {s : Shared} {p : Addr} {xs ys : List V} {its its' : List Value} {n n' : Nat} {f : Obj → Obj} (I : Inv X pins σ H s) (h : H p = some (.lst xs))
    (ho : s.heap.get? p = some { cls := .type "list", data := .seq its.toArray n }) (hf : f { cls := .type "list", data := .seq its.toArray n } = { cls := .type "list", data := .seq its'.toArray n' }) (r : Vals ys its') (hz : ys.length ≤ sizeLine) (t : Nat) :
    Inv X pins σ (upd H p (.lst ys)) { s with heap := s.heap.update p f, toks := t } := by
  have e : (s.heap.update p f).get? p = some { cls := .type "list", data := .seq its'.toArray n' } := by
    rw [Heap.get?_update_self f ho (by rw [hf] <;> rfl), hf]
  refine I.write (x := p) (e := p) (by rw [h]; trivial) (.inl rfl) (fun b u hb q => (Heap.get?_update_other _ _ (Ne.symm hb)).trans q) ⟨_, e⟩ ?_
  exact ⟨hz, its', n', r, e⟩
noncomputable def rSetL : V → V → V → Hp → (Hp → Prop) → Prop := fun o i v H Q => ∃ p xs k j, o = .ref p ∧ i = .int k ∧ H p = some (.lst xs) ∧ ixN xs.length k = some j ∧ Q (upd H p (.lst (xs.set j v)))
theorem set_list : PSet X rSetL := by
  intro pins s σ H o i v ov iv u Q I ro ri rv h
  obtain ⟨p, xs, k, j, rfl, rfl, hp, hj, q⟩ := h
  cases ro
  obtain ⟨t, rfl⟩ := ri
  obtain ⟨its, n, r, ho, hz⟩ := I.lst hp
  obtain ⟨h1, h2, h3, h4⟩ := ixN_seq hj
  have hl := r.length
  have hn := line63
  have I' : Inv X pins σ (upd H p (.lst (xs.set j v))) { s with heap := s.heap.update p (Obj.mapSeq (·.setIfInBounds j u)) } :=
    I.lstUpd hp ho (mapSeq_set its n j u) (r.set rv j) (by rw [List.length_set]; exact hz) s.toks
  by_cases h0 : 0 ≤ k
  · have hk : k.toNat = j := by
      rw [seqIndex_of h0 h4] at h1
      exact Option.some.inj h1
    exact PySem.W.ki_setAt ho h0 (by omega) (by rw [List.size_toArray, ← hl]; exact h4) (by rw [hk]; exact ⟨_, I', q⟩)
  · have hk : (k + (its.toArray.size : Int)).toNat = j := by
      rw [seqIndex_neg (by omega) h3] at h1
      rw [List.size_toArray, ← hl]
      exact Option.some.inj h1
    exact PySem.W.ki_setBack ho (by omega) (by rw [List.size_toArray, ← hl]; exact h3) (by omega) (by rw [hk]; exact ⟨_, I', q⟩)
theorem slice_bounds (lo hi : Option Int) (n : Nat) : (sliceBounds lo hi none n).1 = ((HT.sIx n 0 lo : Nat) : Int) ∧ (sliceBounds lo hi none n).2.1 = ((HT.sIx n n hi : Nat) : Int) ∧ (sliceBounds lo hi none n).2.2 = 1 := by
  refine ⟨?_, ?_, rfl⟩
  · cases lo with
    | none => simp [sliceBounds, HT.sIx]
    | some i =>
      simp only [sliceBounds, HT.sIx, Option.getD_none, show (1 : Int) > 0 by decide, if_true]
      by_cases h : i < 0
      · simp only [h, if_true] <;> omega
      · simp only [h, if_false] <;> omega
  · cases hi with
    | none => simp [sliceBounds, HT.sIx]
    | some i =>
      simp only [sliceBounds, HT.sIx, Option.getD_none, show (1 : Int) > 0 by decide, if_true]
      by_cases h : i < 0
      · simp only [h, if_true] <;> omega
      · simp only [h, if_false] <;> omega
theorem slicePick_cut (its : List Value) (lo hi : Option Int) : slicePick its.toArray lo hi none = ((its.drop (HT.sIx its.length 0 lo)).take (HT.sIx its.length its.length hi - HT.sIx its.length 0 lo)).toArray := by
  obtain ⟨h1, h2, h3⟩ := slice_bounds lo hi its.toArray.size
  unfold slicePick
  rw [h1, h2, h3]
  simp only [sliceRange_one, pick_run, List.size_toArray] <;> rfl
noncomputable def rSlL (K : PySem.W.Frag) : V → Option Int → Option Int → Hp → VK → Prop := fun x lo hi H Q => ∃ a xs, x = .ref a ∧ SqL K H a xs ∧ ∀ p, H p = none → Q (.ref p) (upd H p (.lst (cutV xs lo hi)))
theorem sl_list : SlR X (rSlL X.K) := by
  intro pins s σ H x v vl vu lo hi sl Q I rx hs pl pu h
  obtain ⟨a, xs, rfl, hx, q⟩ := h
  cases rx
  obtain ⟨its, r, ht, hz⟩ := I.list hx
  have hlen := r.length
  refine ⟨"list", _, slot_list_getitem.lookup, ht.isList.typeIs, ?_⟩
  refine wpAny_getItem_list_slice ht.isList hs pl pu .none (by simp) ?_ (by rw [List.size_toArray] <;> omega)
  rw [slicePick_cut, ← hlen]
  refine ⟨.ref s.heap.objs.size, _, I.laid (t' := s.toks) (o := .lst (cutV xs lo hi)) (fun b ob q => Heap.get?_push_of_some _ q) (Nat.le_refl _) ?_, rfl, q _ (I.hok.fresh (Nat.le_refl _))⟩
  exact ⟨Nat.le_trans (cutV_length xs lo hi) hz, _, 0, (r.drop (HT.sIx xs.length 0 lo)).take (HT.sIx xs.length xs.length hi - HT.sIx xs.length 0 lo), Heap.get?_push_size _ rfl⟩
theorem call_len_seq : CallR X (.builtin "len") (fun xs H Q => ∃ p ys, xs = [.ref p] ∧ (SqL X.K H p ys ∨ SqT X.K H p ys) ∧ Q (.int ys.length) H) := by
  intro pins s σ H xs us Q I r h
  obtain ⟨p, ys, rfl, hq, q⟩ := h
  obtain ⟨u, rfl, rx⟩ := vals1 r
  cases rx
  have hn := line63
  rcases hq with hq | hq
  · obtain ⟨its, r', pl, hz⟩ := I.list hq
    have hlen := r'.length
    exact Calls.call_len_list pl.isList (by simp only [List.size_toArray] <;> omega) ⟨.int ys.length, H, I.tok _, ⟨s.toks + 1, by rw [List.size_toArray, hlen]⟩, q⟩
  · obtain ⟨its, r', pl, hz⟩ := I.tuple hq
    have hlen := r'.length
    exact len_tuple pl (by simp only [List.size_toArray] <;> omega) ⟨.int ys.length, H, I.tok _, ⟨s.toks + 1, by rw [List.size_toArray, hlen]⟩, q⟩
theorem call_len_str : CallR X (.builtin "len") (fun xs H Q => ∃ z, xs = [.str z] ∧ z.length ≤ sizeLine ∧ Q (.int z.length) H) := by
  intro pins s σ H xs us Q I r h
  obtain ⟨z, rfl, hz, q⟩ := h
  obtain ⟨u, rfl, t, rfl⟩ := vals1 r
  have hn := line63
  exact len_str (by omega) ⟨.int z.length, H, I.tok _, ⟨_, rfl⟩, q⟩
theorem CallR.or {f : Value} {r r' : List V → Hp → VK → Prop} (h : CallR X f r) (h' : CallR X f r') : CallR X f (fun xs H Q => r xs H Q ∨ r' xs H Q) := by
  intro pins s σ H xs us Q I rs q
  rcases q with q | q
  · exact h pins s σ H xs us Q I rs q
  · exact h' pins s σ H xs us Q I rs q
theorem call_tuple_of : CallR X (.type "tuple") (fun xs H Q => ∃ p ys, xs = [.ref p] ∧ ((SqL X.K H p ys ∧ ∀ l, H l = none → Q (.ref l) (upd H l (.tup ys))) ∨ (SqT X.K H p ys ∧ Q (.ref p) H))) := by
  intro pins s σ H xs us Q I r h
  obtain ⟨p, ys, rfl, h⟩ := h
  obtain ⟨u, rfl, rx⟩ := vals1 r
  cases rx
  rcases h with ⟨hq, q⟩ | ⟨hq, q⟩
  · obtain ⟨its, r', pl, hz⟩ := I.list hq
    have hlen := r'.length
    refine call_tuple_list pl.isList (fun h' kp => ?_) (by simp only [List.size_toArray] <;> omega)
    have I1 : Inv X pins σ H { s with heap := h' } := I.kept (t' := s.toks) kp
    have I2 : Inv X pins σ (upd H h'.objs.size (.tup ys)) { s with heap := h'.push { cls := .type "tuple", data := .seq its.toArray } } :=
      I1.laid (t' := s.toks) (fun b o e => Heap.get?_push_of_some _ e) (Nat.le_refl _) (show ObjOk X.prog X.w _ _ _ (.tup ys) from ⟨hz, its, r', TupP.new _ _⟩)
    exact ⟨.ref h'.objs.size, _, I2, rfl, q _ (I1.hok.fresh (Nat.le_refl _))⟩
  · obtain ⟨its, r', pl, hz⟩ := I.tuple hq
    exact call_tuple_same pl ⟨.ref p, H, I, rfl, q⟩
noncomputable def tyV (K : PySem.W.Frag) (T : String) (x : V) (H : Hp) : Prop := match x with
  | .str _ => T = "str"
  | .int _ => T = "int"
  | .ref p => (T = "list" ∧ ∃ xs, SqL K H p xs) ∨ (T = "tuple" ∧ ∃ xs, SqT K H p xs) ∨
      (T = "dict" ∧ ((∃ kvs, H p = some (.dK kvs)) ∨ ∃ kvs, H p = some (.dT kvs))) ∨ (T = "set" ∧ ∃ S n, H p = some (.set S n))
  | _ => False
theorem tyV_is {pins : List (Addr × Obj)} {σ : St} {H : Hp} {s : Shared} {T : String} {x : V} {v : Value} (I : Inv X pins σ H s) (r : RelV x v) (ty : tyV X.K T x H) :
    s.TypeIs v T ∧ ∀ a, v = .ref a → ∃ ob, s.heap.get? a = some ob ∧ ob.dict = none := by
  cases x with
  | str z =>
    obtain ⟨t, rfl⟩ := r
    cases (show T = "str" from ty)
    exact ⟨typeIs_str s z t, fun _ e => nomatch e⟩
  | int i =>
    obtain ⟨t, rfl⟩ := r
    cases (show T = "int" from ty)
    exact ⟨typeIs_int s i t, fun _ e => nomatch e⟩
  | ref p =>
    cases r
    rcases ty with ⟨rfl, xs, hq⟩ | ⟨rfl, xs, hq⟩ | ⟨rfl, hk⟩ | ⟨rfl, S, n, hk⟩
    · obtain ⟨its, _, pl, _⟩ := I.list hq
      refine ⟨pl.isList.typeIs, fun a e => ?_⟩
      cases e
      obtain ⟨o, n, e, c, hd, _⟩ := pl
      exact ⟨o, e, hd⟩
    · obtain ⟨its, _, ⟨o, e, c, d, n, dd⟩, _⟩ := I.tupleP hq
      refine ⟨⟨o, e, c⟩, fun a e2 => ?_⟩
      cases e2
      exact ⟨o, e, d⟩
    · have z : ∃ o, s.heap.get? p = some o ∧ o.ExactDict := by
        rcases hk with ⟨kvs, hk⟩ | ⟨kvs, hk⟩
        · obtain ⟨_, _, _, _, o, _, _, e, ex, _⟩ := I.hok p _ hk
          exact ⟨o, e, ex⟩
        · obtain ⟨_, _, _, _, o, _, _, e, ex, _⟩ := I.hok p _ hk
          exact ⟨o, e, ex⟩
      obtain ⟨o, e, ex⟩ := z
      refine ⟨⟨o, e, ex.1⟩, fun a e2 => ?_⟩
      cases e2
      exact ⟨o, e, ex.2.1⟩
    · obtain ⟨o, _, _, _, e, ex, _⟩ := I.hok p _ hk
      refine ⟨⟨o, e, ex.1⟩, fun a e2 => ?_⟩
      cases e2
      exact ⟨o, e, ex.2.1⟩
  | _ => exact False.elim ty
noncomputable def tBM0 (K : PySem.W.Frag) (T : String) (r : V → List V → Hp → VK → Prop) (to : TE) : TE := fun σ H Q => to σ H fun x H1 => tyV K T x H1 ∧ r x [] H1 Q
noncomputable def tBM (K : PySem.W.Frag) (T : String) (r : V → List V → Hp → VK → Prop) (to : TE) (t : TA) : TE := fun σ H Q => to σ H fun x H1 => tyV K T x H1 ∧ t σ H1 fun xs H2 => r x xs H2 Q
variable {o e : Expr} {es : List Expr} {to : TE} {t : TA} {name : Str} {apos cpos : Pos} {T id : String} {r : V → List V → Hp → VK → Prop}
theorem pe_bm0 (pa : PlainAttrs T) (slot : Slot T name id) (hty : typeOf (.builtin id) = pure (.type "method_descriptor")) (hm : MtR X id r) (ho : PE X o to)
    (hbase : attributeBase o name X.env (eval o X.env) = eval o X.env := by rfl) (hline : (apos.endLine == cpos.line) = true := by rfl) : PE X (.Call (.Attribute o name apos) [] [] cpos) (tBM0 X.K T r to) := by
  intro pins s σ H Q I h
  refine wpAny_Call_method0_late hbase hline (thn (ho pins s σ H _ I h) ?_)
  rintro v s1 ⟨x, H1, I1, r1, ty, q1⟩
  obtain ⟨h1, h2⟩ := tyV_is I1 r1 ty
  exact ⟨T, id, pa, slot, hty, h1, h2, Calls.callWith_builtin rfl (PySem.evalArgs_none (hm pins s1 σ H1 x [] v [] Q I1 r1 .nil q1))⟩
theorem pe_bm (pa : PlainAttrs T) (slot : Slot T name id) (hty : typeOf (.builtin id) = pure (.type "method_descriptor")) (hm : MtR X id r) (ho : PE X o to) (ha : PA X (e :: es) t)
    (hbase : attributeBase o name X.env (eval o X.env) = eval o X.env := by rfl)
    (hfew : ((backTo cpos (starEach (e :: es) X.env)).all (fun x => !x.1) && (backToKw cpos (keywordEach [] X.env)).all (fun x => x.1.isSome)
      && decide ((e :: es).length + ([] : List Keyword).length + (if ([] : List Keyword).isEmpty then 0 else 1) < 30)) = true := by rfl)
    (hline : (apos.endLine == cpos.line) = true := by rfl) (hs : starEach (e :: es) X.env = (false, eval e X.env) :: starEach es X.env := by rfl) (hplain : (backTo cpos (starEach es X.env)).any (·.1) = false := by rfl) :
    PE X (.Call (.Attribute o name apos) (e :: es) [] cpos) (tBM X.K T r to t) := by
  intro pins s σ H Q I h
  refine wpAny_Call_method_late hbase hfew hline rfl (thn (ho pins s σ H _ I h) ?_)
  rintro v s1 ⟨x, H1, I1, r1, ty, q1⟩
  obtain ⟨h1, h2⟩ := tyV_is I1 r1 ty
  refine ⟨T, id, pa, slot, hty, h1, h2, ?_⟩
  have hA := ha cpos pins s1 σ H1 _ I1 q1
  rw [hs] at hA ⊢
  refine Calls.callWith_builtin (by show (false || (backTo cpos (starEach es X.env)).any (·.1)) = false; rw [hplain] <;> rfl) (Calls.evalArgs_plain ?_)
  refine thn hA ?_
  rintro us s2 ⟨vs, H2, I2, r2, q2⟩
  exact hm pins s2 σ H2 x vs v us Q I2 r1 r2 q2
end
noncomputable def MtM (X : Cx) (id : String) (r : V → List V → Hp → VK → Prop) : Prop :=
  ∀ (pins : List (Addr × Obj)) (s : Shared) (σ : St) (H : Hp) (x : V) (xs : List V) (v : Value) (us : List Value) (Q : VK), Inv X pins σ H s → RelV x v → Vals xs us → r x xs H Q →
    wpAny (model X.prog X.w) X.A (call (.builtin id) (v :: us)) (EP X pins σ Q) X.xe s
theorem Vals.one {x : V} {us : List Value} (h : Vals [x] us) : ∃ u, us = [u] ∧ RelV x u := by
  cases h with
  | cons r t => cases t; exact ⟨_, rfl, r⟩
theorem Vals.two {x y : V} {us : List Value} (h : Vals [x, y] us) : ∃ u v, us = [u, v] ∧ RelV x u ∧ RelV y v := by
  cases h with
  | cons r t =>
    obtain ⟨v, e, q⟩ := Vals.one t
    subst e
    exact ⟨_, _, rfl, r, q⟩
theorem Vals.zero : ∀ {us : List Value}, Vals [] us → us = []
  | _, .nil => rfl
theorem Vals.eraseIdx : ∀ {xs : List V} {us : List Value} (i : Nat), Vals xs us → Vals (xs.eraseIdx i) (us.eraseIdx i)
  | _, _, _, .nil => .nil
  | _, _, 0, .cons _ t => t
  | _, _, i + 1, .cons r t => .cons r (Vals.eraseIdx i t)
theorem Vals.reverse {xs : List V} {us : List Value} (h : Vals xs us) : Vals xs.reverse us.reverse := by
  induction h with
  | nil => exact .nil
  | cons r t ih => rw [List.reverse_cons, List.reverse_cons]; exact Vals.append ih (.cons r .nil)
theorem Vals.rep {xs : List V} {us : List Value} (h : Vals xs us) : ∀ k : Nat, Vals (List.replicate k xs).flatten (List.replicate k us).flatten
  | 0 => .nil
  | k + 1 => by
    rw [List.replicate_succ, List.replicate_succ, List.flatten_cons, List.flatten_cons]
    exact Vals.append h (Vals.rep h k)
theorem foldl_rep (its : List Value) : ∀ (k : Nat) (acc : List Value),
    List.foldl (fun x1 x2 => x1 ++ x2) acc.toArray (List.replicate k its.toArray) = (acc ++ (List.replicate k its).flatten).toArray
  | 0, acc => by simp
  | k + 1, acc => by
    have e : acc.toArray ++ its.toArray = (acc ++ its).toArray := by simp
    have e2 : (acc ++ its) ++ (List.replicate k its).flatten = acc ++ (List.replicate (k + 1) its).flatten := by
      rw [List.replicate_succ, List.flatten_cons, List.append_assoc]
    rw [← e2, ← foldl_rep its k (acc ++ its), ← e, List.replicate_succ, List.foldl_cons]
section
variable {X : Cx} {pins : List (Addr × Obj)} {σ : St} {H : Hp} {s : Shared} {l b : Addr} {xs ys zs : List V}
theorem Inv.lset {its its' : List Value} {n : Nat} {f : Array Value → Array Value} {t' : Nat} (I : Inv X pins σ H s) (hH : H l = some (.lst xs))
    (e : s.heap.get? l = some { cls := .type "list", data := .seq its.toArray n }) (hf : f its.toArray = its'.toArray) (hv : Vals ys its') (hz : ys.length ≤ sizeLine) :
    Inv X pins σ (upd H l (.lst ys)) { s with heap := s.heap.update l (Obj.mapSeq f), toks := t' } := by
  have q := PySem.IsL.update e f
  rw [hf] at q
  refine I.write (x := l) (e := l) (by rw [hH]; exact trivial) (.inl rfl) (fun b' u hb hu => (Heap.get?_update_other s.heap (Obj.mapSeq f) (Ne.symm hb)).trans hu) ⟨_, q⟩ ?_
  exact ⟨hz, its', _, hv, q⟩
theorem Inv.lnew {its : List Value} {t' : Nat} (I : Inv X pins σ H s) (hv : Vals ys its) (hz : ys.length ≤ sizeLine) :
    Inv X pins σ (upd H s.heap.objs.size (.lst ys)) { s with heap := s.heap.push { cls := .type "list", data := .seq its.toArray }, toks := t' } :=
  I.laid (fun _ _ q => Heap.get?_push_of_some _ q) (Nat.le_refl _) ⟨hz, its, 0, hv, Heap.get?_push_size _ rfl⟩
theorem Inv.fresh (I : Inv X pins σ H s) : H s.heap.objs.size = none := I.hok.fresh (Nat.le_refl _)
theorem Inv.lstM (I : Inv X pins σ H s) (hH : H l = some (.lst xs)) : xs.length ≤ sizeLine ∧ ∃ (its : List Value) (n : Nat), Vals xs its ∧ xs.length = its.length ∧ s.heap.get? l = some { cls := .type "list", data := .seq its.toArray n } := by
  obtain ⟨z, its, n, r, e⟩ := I.hok l _ hH
  exact ⟨z, its, n, r, r.length, e⟩
theorem notLongL {n : Nat} (h : n ≤ sizeLine) : Builtin.List.listTooLong n = false := by
  unfold Builtin.List.listTooLong
  exact decide_eq_false (by omega)
end
section
variable {X : Cx}
noncomputable def rAppend : V → List V → Hp → VK → Prop := fun x vs H Q => ∃ l xs y, x = .ref l ∧ vs = [y] ∧ H l = some (.lst xs) ∧ xs.length < sizeLine ∧ Q .non (upd H l (.lst (xs ++ [y])))
theorem mt_append : MtM X "list.append" rAppend := by
  intro pins s σ H x vs v us Q I rx rv h
  obtain ⟨l, xs, y, rfl, rfl, hH, hz, q⟩ := h
  cases rx
  obtain ⟨u, rfl, ru⟩ := rv.one
  obtain ⟨z, its, n, r, hl, e⟩ := I.lstM hH
  refine call_meets F.slot_list_append ⟨_, e, rfl⟩ F.entry_list_append (F.args_list_append_2 _ _) (PySem.list_append l its.toArray n u (by rw [List.size_toArray]; omega)) ⟨e, ?_⟩
  refine ⟨.non, _, I.lset (its' := its ++ [u]) hH e (by simp) (r.append (.cons ru .nil)) ?_, rfl, q⟩
  rw [List.length_append, List.length_singleton]
  omega
noncomputable def rExtend : V → List V → Hp → VK → Prop := fun x vs H Q => ∃ l b xs zs, x = .ref l ∧ vs = [.ref b] ∧ H l = some (.lst xs) ∧ H b = some (.lst zs) ∧ xs.length + zs.length ≤ sizeLine ∧ Q .non (upd H l (.lst (xs ++ zs)))
theorem mt_extend : MtM X "list.extend" rExtend := by
  intro pins s σ H x vs v us Q I rx rv h
  obtain ⟨l, b, xs, zs, rfl, rfl, hH, hB, hz, q⟩ := h
  cases rx
  obtain ⟨u, rfl, ru⟩ := rv.one
  cases ru
  obtain ⟨z, its, n, r, hl, e⟩ := I.lstM hH
  obtain ⟨z2, its2, n2, r2, hl2, e2⟩ := I.lstM hB
  have hsz : its.toArray.size + its2.toArray.size ≤ sizeLine := by rw [List.size_toArray, List.size_toArray]; omega
  have hlong : ¬ (!its.toArray.isEmpty && Builtin.List.listTooLong (its.toArray.size + its2.toArray.size)) = true := by
    rw [notLongL hsz, Bool.and_false]
    exact Bool.false_ne_true
  refine call_meets F.slot_list_extend ⟨_, e, rfl⟩ F.entry_list_extend (F.args_list_extend_2 _ _)
    (AutoSeq1.list_extend_list_list_0 l its.toArray n b its2.toArray n2 hlong (by rw [List.size_toArray]; omega) (by omega)) ⟨e, e2, ?_⟩
  refine ⟨.non, _, I.lset (its' := its ++ its2) hH e (by simp) (r.append r2) ?_, rfl, q⟩
  rw [List.length_append]
  omega
noncomputable def rCat : R2 := fun x y H Q => ∃ l b xs zs, x = .ref l ∧ y = .ref b ∧ H l = some (.lst xs) ∧ H b = some (.lst zs) ∧ xs.length + zs.length ≤ sizeLine ∧ ∀ p, H p = none → Q (.ref p) (upd H p (.lst (xs ++ zs)))
theorem op_cat : OpR X (binaryOp .Add) rCat := by
  intro pins s σ H x y v u Q I rx ry h
  obtain ⟨l, b, xs, zs, rfl, rfl, hH, hB, hz, q⟩ := h
  cases rx
  cases ry
  obtain ⟨z, its, n, r, hl, e⟩ := I.lstM hH
  obtain ⟨z2, its2, n2, r2, hl2, e2⟩ := I.lstM hB
  refine PySem.P.add_list e e2 ?_ (by rw [List.size_toArray, List.size_toArray]; omega)
  have ea : its.toArray ++ its2.toArray = (its ++ its2).toArray := by simp
  rw [ea]
  exact ⟨.ref _, _, I.lnew (t' := s.toks) (r.append r2) (by rw [List.length_append]; omega), rfl, q _ I.fresh⟩
theorem len_rep {α : Type} (xs : List α) (k : Nat) : (List.replicate k xs).flatten.length = k * xs.length := by
  induction k with
  | zero => simp
  | succ k ih => rw [List.replicate_succ, List.flatten_cons, List.length_append, ih, Nat.succ_mul, Nat.add_comm]
end
section
variable {prog : Program} {w : World} {A : Around} {E : Value → Shared → Prop} {s : Shared}
end
section
variable {X : Cx}
end
end L2
namespace Att
open PySem PySem.W PySem.Calls PyProof.Rows
theorem ints_of_wellAll {P : Params} {h : Heap} : ∀ (ns : List Int) (vs : List Value), WellAll P h vs (ns.map WData.int) → IntsAre vs ns := by
  intro ns
  induction ns with
  | nil =>
    intro vs w
    rw [List.map_nil] at w
    cases w
    exact .nil
  | cons n ns ih =>
    intro vs w
    rw [List.map_cons] at w
    cases w with
    | cons a b =>
      cases a
      exact .cons _ _ (ih _ b)
theorem script_of {l : OpenLaw} {n : Nat} (hn : l.most = some n) {P : Params} {h : Heap} {args : List WData} {vals : List Value}
    (hpre : l.row.toRowW.claim.pre args = true) (hwl : WellAll P h vals args) :
    ∃ a vs ns, vals = [Value.ref a] ∧ args = [WData.list (ns.map WData.int)] ∧ h.get? a = some { cls := .type "list", data := .seq vs.toArray } ∧ IntsAre vs ns ∧ ns.length ≤ n := by
  have hsh : WShape.hasAll [] args [.list .int] = true := (pre_splitW hpre).1
  have hc : l.pre.holds [] { args := args } = true := (pre_splitW hpre).2
  obtain ⟨d, r, rfl, h1, h2⟩ := hasAllW_cons hsh
  obtain rfl := hasAllW_nil h2
  obtain ⟨xs, rfl, h3⟩ := hasW_list h1
  obtain ⟨ns, rfl⟩ := items_int h3
  have hlen : ns.length ≤ n := by
    unfold OpenLaw.pre at hc
    have h4 : (WTm.not (.lt (.lit (.int (n : Int))) (.len (.arg 0)))).holds [] { args := [.list (ns.map .int)] } = true := by
      have h4 := (holds_andW hc).1
      rw [hn] at h4
      exact h4
    have h5 := condW_of h4 (w_not (w_lt w_lit (w_len_list (w_arg rfl))))
    rw [List.length_map] at h5
    refine Nat.le_of_not_lt fun q => ?_
    have q' : (n : Int) < ((ns.length : Nat) : Int) := by omega
    first
      | (rw [decide_eq_true q'] at h5; exact absurd h5 (by decide))
      | (simp at h5; omega)
  cases hwl with
  | cons w1 w2 =>
    cases w2
    cases w1 with
    | list ho hall => exact ⟨_, _, ns, rfl, rfl, ho, ints_of_wellAll ns _ hall, hlen⟩
theorem post_true (l : OpenLaw) (args : List WData) : l.row.toRowW.claim.post args (.bool true) args = true :=
  postW_of (r := l.row.toRowW) (X := (true == true))
    (show WShape.has [] (.bool true) .bool = true by first | rfl | decide | simp [WShape.has, WShape.arms, WShape.armsAll])
    (show (WTm.eq .res (.lit (.bool true))).value [] { args := args, res := some (.bool true), after := args } = some (.bool (true == true)) from w_eq_bool (w_res rfl) w_lit) rfl
theorem attach_call {l : OpenLaw} {n : Nat} {q : Program} {loose : List Str} {XP : (Str → Option Value) → Heap → Prop} {YP : World → Heap → Prop} {d : DefRec}
    (hn : l.most = some n) (hdf : d.params.defaults = [])
    (call : ∀ (w : World) (s₀ s₁ : Shared) (mg mb : Str → Option Value) (fa : Addr) (o : Obj) (pm cd doc : Value) (a : Addr) (vs : List Value) (ns : List Int),
      Ground q loose [] XP w s₀ mg mb s₁.heap → YP w s₁.heap →
      s₁.heap.get? fa = some o → o.data = .func (docDef d.name d.params d.body d.scope pm cd doc) → s₁.heap.CodeRec cd d.name → mg d.name = some (.ref fa) →
      s₁.heap.get? a = some { cls := .type "list", data := .seq vs.toArray } → IntsAre vs ns → ns.length ≤ n → s₁.gens = #[] →
      codeAny (model l.prog w) callerA (.call (.ref fa) ⟨[.ref a], []⟩) (fun r s' => r = .ok (.ret (.bool true)) ∧ OldK s₁.heap s'.heap ∧ s'.os = s₁.os ∧ AllBare s'.gens) s₁) :
    WalkO q loose XP YP l.row.toRowW d [] (fun f vs => PySem.call f vs) := by
  intro w s₀ s₁ mg mb G Y fa o pm cd doc dV kV ho hd hcd hD hmg hg args vals as hpre hlay hrd hwl hlo
  obtain rfl : dV = .none := Dflts.none hD hdf
  obtain rfl : kV = .none := Dflts.noKw hD
  obtain ⟨a, vs, ns, rfl, rfl, hobj, hints, hlen⟩ := script_of hn hpre hwl
  refine enter_call (codeAny_mono (call w s₀ s₁ mg mb fa o pm cd doc a vs ns G Y ho (fd_plain hd) hcd hmg hobj hints hlen hg) fun r s' hq => ?_)
  obtain ⟨rfl, h2, h3, h4⟩ := hq
  exact ⟨.inl ⟨.bool true, .bool true, [], rfl, fun _ => rfl, .bool true, post_true l _, fun _ => ⟨List.Pairwise.nil, fun _ hm => (nomatch hm)⟩⟩, h2, h3, h4⟩
section
variable {prog : Program} {w : World} {A : Around} {E : Value → Shared → Prop} {s : Shared} {K : Frag}
noncomputable def ledger (h : Heap) (L d : Addr) : List (Addr × Obj) := (List.range h.objs.size).filterMap fun a => if a = L ∨ a = d then none else (h.get? a).map fun o => (a, o)
end
end Att
namespace L2
open PySem PySem.Spec PyProof.Rows
theorem vals_ints : ∀ {vs : List Value} {ns : List Int}, IntsAre vs ns → Vals (ns.map V.int) vs
  | _, _, .nil => .nil
  | _, _, .cons n t h => .cons ⟨t, rfl⟩ (vals_ints h)
noncomputable def Only (H : Hp) : Prop := ∀ b, H b = none ∨ ∃ o xs, H b = some (.frz o (.lst xs))
theorem law_call {P : Program} {w : World} {K : PySem.W.Frag} {mg mb : Str → Option Value} {CX : CXT} {k : Nat} {fa a : Addr} {fd : FuncData} {x : Str} {sp : Sp} {s₁ : Shared} {vs : List Value} {ns : List Int}
    (KX : K.In s₁.heap) (hns : s₁.heap.Ns mainGlobals mg) (hb : s₁.heap.Ns builtinsNs mb) (hbb : ∀ x : Str, x ≠ "__name__" → mb x = bootBuiltins x) (hlim : s₁.heap.NoLimit) (hg : s₁.gens = #[])
    (ha : s₁.heap.get? a = some { cls := .type "list", data := .seq vs.toArray }) (hi : IntsAre vs ns) (hl : ns.length ≤ sizeLine) (hr : Room k callerA)
    (F : ∀ base : Heap, K.In base → base.Ns mainGlobals mg → FnOk P w K mg base CX k fa fd [x] sp) (hbind : ∀ (s : Shared) (u : Value), BindsTo s fd ⟨[u], []⟩ [(x, u)])
    (hsp : ∀ H : Hp, Only H → SqL K H a (ns.map V.int) → sp [.ref a] H (fun v _ => v = .bl true) fun _ _ _ => False)
    (hCX : ∀ H e s', CX [] H s₁ (fun _ _ _ => False) e s' → False) :
    codeAny (model P w) callerA (.call (.ref fa) ⟨[.ref a], []⟩) (fun r s' => r = .ok (.ret (.bool true)) ∧ OldK s₁.heap s'.heap ∧ s'.os = s₁.os ∧ AllBare s'.gens) s₁ := by
  have rv := vals_ints hi
  have lenV := hi.length
  -- from an abstract heap in which nothing but the script may be tracked
  have core : ∀ H : Hp, Only H → SqL K H a (ns.map V.int) → HOk P w H s₁.heap → (∀ b, H b ≠ none → b = a) → (H a ≠ none → K.lookup a = none) →
      codeAny (model P w) callerA (.call (.ref fa) ⟨[.ref a], []⟩) (fun r s' => r = .ok (.ret (.bool true)) ∧ OldK s₁.heap s'.heap ∧ s'.os = s₁.os ∧ AllBare s'.gens) s₁ := by
    intro H hO hS hok hA hK
    have base_of : ∀ {b : Addr} {o : Obj}, s₁.heap.get? b = some o → H b = none → (hidT s₁.heap H).get? b = some o := fun e n => hidT_get e n
    have noA : ∀ {b : Addr} {o : Obj} {es : Array DictEntry} {ep : Nat}, s₁.heap.get? b = some o → o.data = .dict es ep → H b = none := fun {b o es ep} e d => by
      cases q : H b with
      | none => rfl
      | some u =>
        have e' : b = a := hA b (by rw [q]; simp)
        subst e'
        rw [ha] at e; cases e
        have d' : Data.seq vs.toArray _ = Data.dict es ep := d
        cases d'
    have nsK : ∀ {b : Addr} {m : Str → Option Value}, s₁.heap.Ns b m → (hidT s₁.heap H).Ns b m := fun {b m} ⟨o, es, ep, e, d, r⟩ => ⟨o, es, ep, base_of e (noA e d), d, r⟩
    have hKb : K.In (hidT s₁.heap H) := fun b o e => base_of (KX b o e) (by
      cases q : H b with
      | none => rfl
      | some u =>
        have e' : b = a := hA b (by rw [q]; simp)
        subst e'
        rw [hK (by rw [q]; simp)] at e; cases e)
    have hM : Mod K mg (hidT s₁.heap H) := ⟨hKb, nsK hns, ⟨mb, nsK hb, hbb⟩, let ⟨mc, h1, h2⟩ := hlim; ⟨mc, nsK h1, h2⟩⟩
    have e0 : Env0 P w K mg (hidT s₁.heap H) callerA [] s₁ H := ⟨rfl, hM, fun b o e => of_hidT e, Nat.le_of_eq (hidT_size _ _), trivial, fun b hb => absurd (show b ∈ ([] : List Addr) from hb) (by simp), hok, .of_eq hg⟩
    refine codeAny_mono ((F _ hKb (nsK hns)).run callerA [] s₁ H ⟨[.ref a], []⟩ [.ref a] [.ref a] _ _ hr e0 (hbind s₁ (.ref a)) (.cons rfl .nil) (hsp H hO hS)) fun r s' h => ?_
    cases r with
    | error e => exact (hCX H e s' h).elim
    | ok fl =>
      cases fl with
      | next => exact False.elim h
      | brk => exact False.elim h
      | cont => exact False.elim h
      | ret u =>
        obtain ⟨v, H', os, bare, un, hok', r', q⟩ := h
        have q' : v = .bl true := q
        subst q'
        obtain rfl : u = Value.bool true := r'
        refine ⟨rfl, OldK.of_keep fun b o e => ?_, os, bare⟩
        cases q : H b with
        | none => exact un.keep b o e q (by intro z; exact absurd (show b ∈ ([] : List Addr) from z) (by simp)) (by simp)
        | some u =>
          rcases hO b with z | ⟨ob, xs, z⟩
          · rw [q] at z; cases z
          · have z2 := un.frzs b ob _ z
            obtain ⟨e1, _⟩ := hok b _ z
            obtain ⟨e2, _⟩ := hok' b _ z2
            rw [e] at e1; cases e1
            exact e2
  cases hk : K.lookup a with
  | some o =>
    -- the script is one of the module's own objects
    have e := KX a o hk
    rw [ha] at e
    cases e
    refine core (fun _ => none) (fun _ => .inl rfl) (.inr ⟨_, vs.toArray, _, hk, rfl, rfl, rfl, by rw [List.size_toArray, lenV]; exact hl, by simpa using rv⟩) (fun b u z => by have z' : (none : Option HO) = some u := z; cases z') (fun b z => absurd rfl z) fun z => absurd rfl z
  | none =>
    refine core (fun b => if b = a then some (.frz { cls := .type "list", data := .seq vs.toArray } (.lst (ns.map V.int))) else none) (fun b => ?_) (.inl (.inr ⟨{ cls := .type "list", data := .seq vs.toArray }, if_pos rfl⟩)) (fun b u z => ?_) (fun b z => ?_) fun _ => hk
    · by_cases hb : b = a
      · exact .inr ⟨_, _, if_pos hb⟩
      · exact .inl (if_neg hb)
    · by_cases hb : b = a
      · have z' := (if_pos hb).symm.trans z
        cases z'
        subst hb
        exact ⟨ha, by rw [List.length_map]; exact hl, vs, _, rv, ha⟩
      · have z' := (if_neg hb).symm.trans z
        cases z'
    · by_cases hb : b = a
      · exact hb
      · exact absurd (if_neg hb) z
noncomputable abbrev KOf {K : PySem.W.Frag} {h : Heap} (_ : K.In h) : PySem.W.Frag := K
theorem walk_of {l : PySem.W.OpenLaw} {n k : Nat} {q : Program} {loose : List Str} {XP : (Str → Option Value) → Heap → Prop} {YP : World → Heap → Prop} {d : DefRec} {K : Params → PySem.W.Frag} {CX : World → CXT} {sp : World → Sp} {x : Str}
    (hn : l.most = some n) (hn2 : n ≤ sizeLine) (hdf : d.params.defaults = []) (hr : Room k callerA)
    (hY : ∀ (w : World) (h : Heap), YP w h → (K w.params).In h)
    (F : ∀ (w : World) (mg : Str → Option Value) (fa : Addr) (h : Heap), (K w.params).In h → h.Ns mainGlobals mg → mg d.name = some (.ref fa) →
      ∃ fd : FuncData, (∀ (s : Shared) (u : Value), BindsTo s fd ⟨[u], []⟩ [(x, u)]) ∧
        ∀ base : Heap, (K w.params).In base → base.Ns mainGlobals mg → FnOk l.prog w (K w.params) mg base (CX w) k fa fd [x] (sp w))
    (hsp : ∀ (w : World) (H : Hp) (a : Addr) (ns : List Int), ns.length ≤ n → Only H → SqL (K w.params) H a (ns.map V.int) → sp w [.ref a] H (fun v _ => v = .bl true) fun _ _ _ => False)
    (hCX : ∀ (w : World) (H : Hp) (s : Shared) (e : Value) (s' : Shared), CX w [] H s (fun _ _ _ => False) e s' → False) :
    PySem.W.WalkO q loose XP YP l.row.toRowW d [] (fun f vs => PySem.call f vs) := by
  refine Att.attach_call hn hdf fun w s₀ s₁ mg mb fa o pm cd doc a vs ns G Y ho hd hcd hmg hobj hints hlen hg => ?_
  have KX := hY w _ Y
  obtain ⟨fd, hb, hF⟩ := F w mg fa _ KX G.T.g hmg
  exact law_call KX G.T.g G.T.b G.T.builtins G.T.nolimit hg hobj hints (Nat.le_trans hlen hn2) hr hF hb (fun H hO hS => hsp w H a ns hlen hO hS) fun H e s' => hCX w H s₁ e s'
noncomputable def defArgs (s : Stmt) : Arguments := match s with
  | .FunctionDef _ a _ _ _ _ _ _ _ _ => a
  | _ => { posonlyargs := [], args := [], vararg := none, kwonlyargs := [], kw_defaults := [], kwarg := none, defaults := [] }
noncomputable def defBody (s : Stmt) : List Stmt := match s with
  | .FunctionDef _ _ b _ _ _ _ _ _ _ => b
  | _ => []
noncomputable def defScope (s : Stmt) : Scope := match s with
  | .FunctionDef _ _ _ _ _ _ sc _ _ _ => sc
  | _ => { kind := .function, names := [], isGenerator := false, isCoroutine := false }
noncomputable abbrev CX0 : CXT := fun _ _ _ _ _ _ => False
noncomputable abbrev E0 : XK := fun _ _ _ => False
theorem pass0 {X : Cx} : Passes CX0 X E0 := fun _ _ _ _ _ _ _ h => h.elim
structure Fun (K : PySem.W.Frag) (x qual : Str) (st : Stmt) (f : Addr) (fd : FuncData) : Prop where
  ex : ∃ (oc : Value) (od : Option Addr) (kV doc pm : Value) (an : Option Addr) (cdv ct : Value) (osl : Array (Option Value)),
    fd = PySem.W.fnOf x qual (defArgs st) (defBody st) (defScope st) .none kV doc pm an cdv ct ∧ K.lookup f = some ⟨oc, od, .func fd, osl⟩ ∧ PySem.W.codeIn K cdv qual = true
  kp : PySem.W.keepIn K (.ref f) = true
section
variable {P : Program} {w : World} {K : PySem.W.Frag} {mg : Str → Option Value} {base : Heap}
theorem Fun.ok {x qual : Str} {st : Stmt} {f : Addr} {fd : FuncData} {N ps : List Str} {k : Nat} {sp : Sp} (F : Fun K x qual st f fd) (S : FnScope N ps (defScope st)) (len : ∀ vs H Q E, sp vs H Q E → vs.length = ps.length)
    (hbody : ∀ (cdv : Value) (A : Around) (outer : List Env) (s : Shared) (H : Hp) (vs : List V) (Q : VK) (E : XK), Room k (A.deeper (envOfC qual (defScope st) s.heap.objs.size f cdv)) → sp vs H Q E →
      ∃ t, PSs (cxOf CX0 P w K mg base N qual (defScope st) f cdv A outer s H E).nox (defBody st) t ∧ t { nx := fun _ H' => Q .non H', rt := Q } (start N vs) H) : FnOk P w K mg base CX0 (k + 1) f fd ps sp := by
  obtain ⟨oc, od, kV, doc, pm, an, cdv, ct, osl, rfl, lk, hcd⟩ := F.ex
  refine fn_of lk hcd S len fun A outer s H vs Q E hr hsp => ?_
  obtain ⟨t, h, q⟩ := hbody cdv A outer s H vs Q E hr hsp
  exact ⟨t, h.nox, q⟩
theorem Fun.binds {x qual : Str} {st : Stmt} {f : Addr} {fd : FuncData} {ps : List Str} (F : Fun K x qual st f fd)
    (h : ∀ (kV doc pm : Value) (an : Option Addr) (cdv ct : Value) (us : List Value), us.length = ps.length → bindArgs (PySem.W.fnOf x qual (defArgs st) (defBody st) (defScope st) .none kV doc pm an cdv ct) ⟨us, []⟩ = pure (ps.zip us)) : Binds K fd ps [] := by
  obtain ⟨oc, od, kV, doc, pm, an, cdv, ct, osl, rfl, lk, hcd⟩ := F.ex
  exact .all (h kV doc pm an cdv ct)
theorem fun_mk {x qual : Str} {st : Stmt} {f : Addr} {oc : Value} {od an : Option Addr} {osl : Array (Option Value)} {kV doc pm cdv ct : Value} (l : K.lookup f = some ⟨oc, od, .func (PySem.W.fnOf x qual (defArgs st) (defBody st) (defScope st) .none kV doc pm an cdv ct), osl⟩)
    (c : PySem.W.codeIn K cdv qual = true) (k : PySem.W.keepIn K (.ref f) = true) : Fun K x qual st f (PySem.W.fnOf x qual (defArgs st) (defBody st) (defScope st) .none kV doc pm an cdv ct) := ⟨⟨oc, od, kV, doc, pm, an, cdv, ct, osl, rfl, l, c⟩, k⟩
end
section
variable {X : Cx}
theorem pv (i : Nat) {x : Str} {pos : Pos} (hN : X.N[i]? = some x := by rfl) (hv : Vis X.env.scope x := by first | exact Or.inl rfl | exact Or.inr (Or.inl rfl) | exact Or.inr (Or.inr rfl)) (hd : (x == ("__debug__" : Str)) = false := by decide)
    (hcd : (x == ("__classdict__" : Str)) = false := by decide) : PE X (.Name x pos) (tVar i) := pe_var hN hv hd hcd
end
theorem iteF {A B : Prop} (h : B) : if false = true then A else B := by
  rw [if_neg Bool.false_ne_true]
  exact h
theorem iteT {A B : Prop} (h : A) : if true = true then A else B := by
  rw [if_pos rfl]
  exact h
noncomputable def Same (H H' : Hp) : Prop := ∀ b o, H b = some o → H' b = some o
theorem Same.refl (H : Hp) : Same H H := fun _ _ h => h
theorem Same.trans {H H1 H2 : Hp} (a : Same H H1) (b : Same H1 H2) : Same H H2 := fun c o h => b c o (a c o h)
theorem Same.free {H H' : Hp} (e : Same H H') {l : Addr} (h : H' l = Option.none) : H l = Option.none := by
  cases q : H l with
  | none => rfl
  | some o =>
    rw [e l o q] at h
    cases h
theorem Same.seq {K : PySem.W.Frag} {H H' : Hp} {a : Addr} {xs : List V} (e : Same H H') (h : SqL K H a xs) : SqL K H' a xs := by
  rcases h with (h | ⟨o, h⟩) | h
  · exact .inl (.inl (e _ _ h))
  · exact .inl (.inr ⟨o, e _ _ h⟩)
  · exact .inr h
theorem forIn_pure {α β : Type} (g : α → β → β) : ∀ (l : List α) (f : α → β → Sem (ForInStep β)) (c : β), (∀ x ∈ l, ∀ c, f x c = pure (.yield (g x c))) → forIn l c f = pure (l.foldl (fun c x => g x c) c)
  | [], f, c, _ => by rw [List.forIn_nil]; rfl
  | x :: r, f, c, h => by
    rw [List.forIn_cons, h x List.mem_cons_self]
    show (forIn r (g x c) f) = _
    rw [forIn_pure g r f (g x c) fun y hy => h y (List.mem_cons_of_mem _ hy)]
    rfl
noncomputable def closG (env : Env) (x : Str × NameKind) (cs : List (Str × Addr)) : List (Str × Addr) := if x.2 == .free then (x.1, (env.cells.lookup x.1).getD 0) :: cs else cs
noncomputable def closL (env : Env) (names : List (Str × NameKind)) : List (Str × Addr) := names.foldl (fun c x => closG env x c) []
theorem closureFor_ok {scope : Scope} {env : Env} (h : ∀ x ∈ scope.names, x.2 = .free → ∃ c, env.cells.lookup x.1 = some c) : closureFor scope env = pure (closL env scope.names) := by
  unfold closureFor closL
  dsimp only
  rw [forIn_pure (closG env)]
  · rfl
  · intro x hx c
    obtain ⟨n, k⟩ := x
    dsimp only
    unfold closG
    by_cases e : (k == NameKind.free) = true
    · obtain ⟨a, ha⟩ := h _ hx (beq_iff_eq.mp e)
      have ha' : List.lookup n env.cells = some a := ha
      dsimp only
      rw [if_pos e, if_pos e]
      unfold cellOf
      rw [ha']
      rfl
    · dsimp only
      rw [if_neg e, if_neg e]
theorem closL_mem' {env : Env} : ∀ (names : List (Str × NameKind)) (acc : List (Str × Addr)) (x : Str) (c : Addr), (x, c) ∈ names.foldl (fun c x => closG env x c) acc → (x, c) ∈ acc ∨ ((x, NameKind.free) ∈ names ∧ c = (env.cells.lookup x).getD 0)
  | [], acc, x, c, h => .inl h
  | (n, k) :: r, acc, x, c, h => by
    rcases closL_mem' r _ x c h with q | ⟨q1, q2⟩
    · unfold closG at q
      dsimp only at q
      split at q
      · rename_i e
        have e := beq_iff_eq.mp e
        rcases List.mem_cons.mp q with q | q
        · cases q
          exact .inr ⟨by rw [e]; exact List.mem_cons_self, rfl⟩
        · exact .inl q
      · exact .inl q
    · exact .inr ⟨List.mem_cons_of_mem _ q1, q2⟩
theorem closL_has' {env : Env} : ∀ (names : List (Str × NameKind)) (acc : List (Str × Addr)) (x : Str), (acc.lookup x).isSome = true ∨ (x, NameKind.free) ∈ names → ((names.foldl (fun c x => closG env x c) acc).lookup x).isSome = true
  | [], acc, x, h => by
    rcases h with h | h
    · exact h
    · exact absurd h (by simp)
  | (n, k) :: r, acc, x, h => by
    refine closL_has' r _ x ?_
    unfold closG
    rcases h with h | h
    · left
      dsimp only
      split
      · rw [List.lookup_cons]
        split
        · rfl
        · exact h
      · exact h
    · rcases List.mem_cons.mp h with h | h
      · cases h
        left
        dsimp only
        rw [if_pos (by rfl), List.lookup_cons]
        simp
      · exact .inr h
theorem closL_lookup {env : Env} {names : List (Str × NameKind)} {x : Str} {c : Addr} (h : (closL env names).lookup x = some c) : (x, NameKind.free) ∈ names ∧ c = (env.cells.lookup x).getD 0 := by
  rcases closL_mem' names [] x c (PySem.mem_of_lookup h) with q | q
  · exact absurd q (by simp)
  · exact q
theorem closL_has {env : Env} {names : List (Str × NameKind)} {x : Str} (h : (x, NameKind.free) ∈ names) : (closL env names).lookup x = some ((env.cells.lookup x).getD 0) := by
  obtain ⟨c, e⟩ := Option.isSome_iff_exists.mp (closL_has' (env := env) names [] x (.inr h))
  rw [show closL env names = names.foldl (fun c x => closG env x c) [] from rfl, e, (closL_lookup e).2]
theorem cellsFrom_mem : ∀ (names : List (Str × NameKind)) (n : Nat) (acc : List (Str × Addr)) (x : Str) (c : Addr), (x, c) ∈ cellsFrom n names acc → (x, c) ∈ acc ∨ (n ≤ c ∧ (x, NameKind.cell) ∈ names)
  | [], _, _, _, _, h => .inl h
  | (y, k) :: r, n, acc, x, c, h => by
    unfold cellsFrom at h
    split at h
    · rename_i e
      have e := beq_iff_eq.mp e
      rcases cellsFrom_mem r (n + 1) _ x c h with q | ⟨q1, q2⟩
      · rcases List.mem_cons.mp q with q | q
        · cases q
          exact .inr ⟨Nat.le_refl _, by rw [e]; exact List.mem_cons_self⟩
        · exact .inl q
      · exact .inr ⟨by omega, List.mem_cons_of_mem _ q2⟩
    · rcases cellsFrom_mem r n acc x c h with q | ⟨q1, q2⟩
      · exact .inl q
      · exact .inr ⟨q1, List.mem_cons_of_mem _ q2⟩
theorem cellsFrom_own : ∀ (names : List (Str × NameKind)) (n lo : Nat) (acc : List (Str × Addr)) (x : Str) (c : Addr), lo ≤ n → ((x, NameKind.cell) ∈ names ∨ ∀ c', acc.lookup x = some c' → lo ≤ c') → (cellsFrom n names acc).lookup x = some c → lo ≤ c
  | [], _, _, acc, x, c, _, h, e => by
    rcases h with h | h
    · exact absurd h (by simp)
    · exact h c e
  | (y, k) :: r, n, lo, acc, x, c, hl, h, e => by
    unfold cellsFrom at e
    split at e
    · rename_i ek
      refine cellsFrom_own r (n + 1) lo _ x c (by omega) ?_ e
      rcases h with h | h
      · rcases List.mem_cons.mp h with h | h
        · cases h
          right
          intro c' hc
          rw [List.lookup_cons] at hc
          rw [beq_self_eq_true] at hc
          cases hc
          exact hl
        · exact .inl h
      · right
        intro c' hc
        rw [List.lookup_cons] at hc
        split at hc
        · cases hc; omega
        · exact h c' hc
    · rename_i ek
      refine cellsFrom_own r n lo acc x c hl ?_ e
      rcases h with h | h
      · rcases List.mem_cons.mp h with h | h
        · cases h
          exact absurd rfl ek
        · exact .inl h
      · exact .inr h
theorem cellsFrom_inj : ∀ (names : List (Str × NameKind)) (n : Nat) (acc : List (Str × Addr)), (∀ x y c, (x, c) ∈ acc → (y, c) ∈ acc → x = y) → (∀ x c, (x, c) ∈ acc → c < n) →
    ∀ x y c, (x, c) ∈ cellsFrom n names acc → (y, c) ∈ cellsFrom n names acc → x = y
  | [], _, _, h, _ => h
  | (z, k) :: r, n, acc, h, hb => by
    unfold cellsFrom
    split
    · refine cellsFrom_inj r (n + 1) _ (fun x y c hx hy => ?_) fun x c hx => ?_
      · rcases List.mem_cons.mp hx with hx | hx <;> rcases List.mem_cons.mp hy with hy | hy
        · cases hx; cases hy; rfl
        · cases hx; exact absurd (hb _ _ hy) (Nat.lt_irrefl _)
        · cases hy; exact absurd (hb _ _ hx) (Nat.lt_irrefl _)
        · exact h x y c hx hy
      · rcases List.mem_cons.mp hx with hx | hx
        · cases hx; exact Nat.lt_succ_self _
        · exact Nat.lt_succ_of_lt (hb x c hx)
    · exact cellsFrom_inj r n acc h hb
theorem pushCells_cell : ∀ (names : List (Str × NameKind)) (h : Heap) (acc : List (Str × Addr)) (x : Str) (c : Addr), (∀ x c, (x, c) ∈ acc → ∃ v, h.IsCell c v) → (x, c) ∈ cellsFrom h.objs.size names acc → ∃ v, (pushCells h names).IsCell c v
  | [], h, acc, x, c, hb, e => hb x c e
  | (y, k) :: r, h, acc, x, c, hb, e => by
    unfold cellsFrom at e
    unfold pushCells
    split at e
    · rename_i ek
      rw [if_pos ek]
      refine pushCells_cell r _ ((y, h.objs.size) :: acc) x c (fun x c hx => ?_) (by rw [Heap.size_push]; exact e)
      rcases List.mem_cons.mp hx with hx | hx
      · cases hx; exact ⟨none, _, Heap.get?_push_size _ rfl, rfl⟩
      · obtain ⟨v, q⟩ := hb x c hx
        exact ⟨v, q.keeps fun b o e => Heap.get?_push_of_some _ e⟩
    · rename_i ek
      rw [if_neg ek]
      exact pushCells_cell r h acc x c hb e
theorem pushCells_size : ∀ (names : List (Str × NameKind)) (h : Heap), h.objs.size ≤ (pushCells h names).objs.size
  | [], h => Nat.le_refl _
  | (y, k) :: r, h => by
    unfold pushCells
    split
    · refine Nat.le_trans ?_ (pushCells_size r _)
      rw [Heap.size_push]; omega
    · exact pushCells_size r h
theorem newEnv_comp {M : Model} {A : Around} {E : Value → Shared → Prop} {s : Shared} {scope : Scope} {globals : Addr} {cl : List (Str × Addr)} {qual : Str} {env : Env} {Q : Env → Shared → Prop}
    (hQ : Q (newEnv scope s.heap.objs.size globals (cellsFrom (s.heap.objs.size + 1) scope.names cl) qual none .none (some env) builtinsNs) { s with heap := pushCells (s.heap.push { cls := .type "dict", data := .dict #[] }) scope.names }) :
    wpAny M A (newFunctionEnv scope globals cl [] qual none .none (some env)) Q E s := by
  simp only [newFunctionEnv, Option.isSome_some, if_true]
  refine wpAny_bind (wpAny_alloc ?_)
  refine wpAny_bind (wpAny_layCells _ (fun name kind cells => by cases hkc : kind == NameKind.cell <;> simp [hkc]) _ _ _ _ ?_)
  rw [show ({ s with heap := s.heap.push { cls := .type "dict", data := .dict #[] } } : Shared).heap.objs.size = s.heap.objs.size + 1 from Heap.size_push ..]
  rw [List.forIn_nil]
  exact wpAny_bind (wpAny_pure (wpAny_pure hQ))
theorem lookup_of_mem {α : Type} : ∀ {l : List (Str × α)} {n : Str} {c : α}, (l.map (·.1)).Nodup → (n, c) ∈ l → l.lookup n = some c
  | [], _, _, _, h => absurd h (by simp)
  | (k, v) :: r, n, c, nd, h => by
    rw [List.map_cons, List.nodup_cons] at nd
    rw [List.lookup_cons]
    rcases List.mem_cons.mp h with q | q
    · cases q; rw [beq_self_eq_true]
    · have : (n == k) = false := by
        rw [beq_eq_false_iff_ne]
        intro e
        subst e
        exact nd.1 (List.mem_map.mpr ⟨(n, c), q, rfl⟩)
      rw [this]
      exact lookup_of_mem nd.2 q
theorem relabel_lookup {env : Env} (scope : Scope) (x : Str) : (relabel scope env).names.lookup x = (scope.names.lookup x).map fun k => if (k == .free && env.scope.kind == .function && env.kindOf x == some .cell) then .cell else k := by
  show (scope.names.map _).lookup x = _
  induction scope.names with
  | nil => rfl
  | cons a r ih =>
    obtain ⟨n, k⟩ := a
    rw [List.map_cons]
    dsimp only
    rw [List.lookup_cons (b := k)]
    by_cases e : (x == n) = true
    · rw [e]
      have e' := beq_iff_eq.mp e
      subst e'
      dsimp only
      split
      · rename_i hc
        rw [List.lookup_cons, e]
        simp only [Option.map_some, hc, if_true]
      · rename_i hc
        rw [List.lookup_cons, e]
        rw [Option.map_some, if_neg hc]
    · have e2 : (x == n) = false := by simpa using e
      rw [e2]
      dsimp only
      split
      · rw [List.lookup_cons, e2]; exact ih
      · rw [List.lookup_cons, e2]; exact ih
structure CompOk (X : Cx) (scope : Scope) : Prop where
  kind : scope.kind = .function
  nd : (scope.names.map (·.1)).Nodup
  fr : ∀ x ∈ scope.names, x.2 = .free → X.env.kindOf x.1 = some .cell ∨ X.env.kindOf x.1 = some .free
noncomputable def cxComp (X : Cx) (pins : List (Addr × Obj)) (N' : List Str) (scope : Scope) (C : Addr) (cells : List (Str × Addr)) (s₀ : Shared) (H₀ : Hp) (fp : List Addr) : Cx where
  prog := X.prog
  w := X.w
  K := X.K
  mg := X.mg
  base := X.base
  A := X.A
  N := N'
  s₀ := s₀
  H₀ := H₀
  env := { scope := relabel scope X.env, locals := C, globals := X.env.globals, cells := cells, qual := X.env.qual, func := none, code := X.env.code, frame := X.env.frame, builtins := X.env.builtins }
  outer := X.stack
  stack := X.stack
  ex := fp
  fn := fun x => decide ((x, NameKind.cell) ∈ scope.names)
  calm := X.calm
  pn := X.pn ++ pins
  xe := fun _ _ => False
noncomputable def Cap (X : Cx) (N' : List Str) (scope : Scope) (σ σ0 : St) : Prop := σ0.length = N'.length ∧ ∀ (i : Nat) (x : Str) (v : V), N'[i]? = some x → σ0[i]? = some (some v) →
  scope.names.lookup x = some .free ∧ ∃ j : Nat, X.N[j]? = some x ∧ σ[j]? = some (some v)
noncomputable abbrev listObj (its : List Value) (n : Nat) : Obj := { cls := .type "list", data := .seq its.toArray n }
section
variable {X : Cx} {pins : List (Addr × Obj)} {σ : St} {H : Hp} {s : Shared}
theorem comp_start {N' : List Str} {scope : Scope} {fp : List Addr} {σ0 : St} (I : Inv X pins σ H s) (S : CompOk X scope) (hf : ∀ b ∈ fp, FpOk X pins H b) (hb : ∀ b ∈ fp, ∃ o, s.heap.get? b = some o) (hσ : Cap X N' scope σ σ0) :
    Inv (cxComp X pins N' scope (s.heap.objs.size + 1) (cellsFrom (s.heap.objs.size + 1 + 1) scope.names (closL X.env scope.names)) s H fp) [(s.heap.objs.size, listObj [] 0)] σ0 H
      { s with heap := pushCells ((s.heap.push (listObj [] 0)).push { cls := .type "dict", data := .dict #[] }) scope.names } := by
  have sz1 : (s.heap.push (listObj [] 0)).objs.size = s.heap.objs.size + 1 := Heap.size_push ..
  have sz2 : ((s.heap.push (listObj [] 0)).push { cls := .type "dict", data := .dict #[] }).objs.size = s.heap.objs.size + 1 + 1 := by rw [Heap.size_push, sz1]
  have keep : ∀ b o, s.heap.get? b = some o → (pushCells ((s.heap.push (listObj [] 0)).push { cls := .type "dict", data := .dict #[] }) scope.names).get? b = some o := fun b o e => pushCells_keeps _ _ b o (Heap.get?_push_of_some _ (Heap.get?_push_of_some _ e))
  have capt : ∀ x c, (x, c) ∈ closL X.env scope.names → X.env.cells.lookup x = some c := fun x c h => by
    rcases closL_mem' scope.names [] x c h with q | ⟨q1, q2⟩
    · exact absurd q (by simp)
    · obtain ⟨c', e⟩ := I.ok.has x (S.fr _ q1 rfl)
      rw [e] at q2
      rw [e, q2]; rfl
  have cells : ∀ x c, (cellsFrom (s.heap.objs.size + 1 + 1) scope.names (closL X.env scope.names)).lookup x = some c → X.env.cells.lookup x = some c ∨ s.heap.objs.size + 1 + 1 ≤ c := fun x c h => by
    rcases cellsFrom_mem _ _ _ x c (PySem.mem_of_lookup h) with q | ⟨q, _⟩
    · exact .inl (capt x c q)
    · exact .inr q
  have stk : ∀ b ∈ frs X.stack, b < s.heap.objs.size := fun b hb => by
    rcases Nat.lt_or_ge b s.heap.objs.size with z | z
    · exact z
    · rcases List.mem_cons.mp (I.stkSub b hb) with q | q
      · rw [q]; exact I.lt
      · exact absurd q (I.nofs z)
  have fpb : ∀ b ∈ fp, b < s.heap.objs.size := fun b h => let ⟨o, e⟩ := hb b h; Heap.lt_size e
  refine ⟨⟨I.ok.mod, S.kind, I.ok.glob, I.ok.blt, Nat.le_succ _, fun x y c h1 h2 => ?_, fun x hx => ?_, fun x c hx h => ?_, I.ok.hd, I.ok.frames, .inl rfl, fun b hb => ⟨?_, fun x c h => ?_⟩, I.bs, Nat.le_trans I.ok.bsz I.sz, fun b o h z => ?_, fun b hb z => ?_, I.stack, I.stkFree⟩,
    rfl, I.bare, Un.kept keep, ⟨fun _ => none, ?_, fun i x v h1 h2 h3 => ?_⟩, fun x c h => ?_, I.hok.fresh (Nat.le_succ _), fun x c h => ?_, fun p hp => ?_, I.hok.kept keep, hσ.1⟩
  · refine cellsFrom_inj scope.names (s.heap.objs.size + 1 + 1) (closL X.env scope.names) (fun x y c h1 h2 => I.ok.inj x y c (capt x c h1) (capt y c h2)) (fun x c h => ?_) x y c (PySem.mem_of_lookup h1) (PySem.mem_of_lookup h2)
    obtain ⟨v, q⟩ := I.cell x c (capt x c h)
    exact Nat.lt_succ_of_lt (Nat.lt_succ_of_lt q.lt)
  · have hx : (relabel scope X.env).names.lookup x = some .cell ∨ (relabel scope X.env).names.lookup x = some .free := hx
    rw [relabel_lookup] at hx
    refine Option.isSome_iff_exists.mp (PySem.W.cellsFrom_some scope.names _ _ ?_)
    cases e : scope.names.lookup x with
    | none => rw [e] at hx; rcases hx with h | h <;> cases h
    | some k =>
      cases k with
      | cell => exact .inl rfl
      | free => right; rw [closL_has (PySem.mem_of_lookup e)]; rfl
      | «local» => rw [e] at hx; rcases hx with h | h <;> cases h
      | globalExplicit => rw [e] at hx; rcases hx with h | h <;> cases h
      | globalImplicit => rw [e] at hx; rcases hx with h | h <;> cases h
  · exact Nat.le_trans (Nat.le_succ_of_le (Nat.le_succ _)) (cellsFrom_own scope.names _ (s.heap.objs.size + 1 + 1) _ x c (Nat.le_refl _) (.inl (of_decide_eq_true hx)) h)
  · exact Nat.ne_of_lt (Nat.lt_succ_of_lt (fpb b hb))
  · rcases cells x c h with q | q
    · exact (hf b hb).2.2.2.2.1 x c q
    · exact Nat.ne_of_gt (Nat.lt_of_lt_of_le (fpb b hb) (by omega))
  · rcases (hf b z).2.2.2.1 with q | q
    · exact I.ok.noex b o h q
    · exact absurd (Nat.lt_of_lt_of_le (Heap.lt_size h) (Nat.le_trans I.ok.bsz q)) (Nat.lt_irrefl _)
  · rcases List.mem_cons.mp (I.stkSub b z) with q | q
    · exact (hf b hb).2.1 q
    · exact (hf b hb).2.2.1 q
  · show (pushCells _ _).Ns (s.heap.objs.size + 1) _
    have n := (Heap.Ns.new (s.heap.push (listObj [] 0)) (.type "dict")).keeps (pushCells_keeps scope.names _)
    rw [sz1] at n
    exact n
  · obtain ⟨e1, j, e2, e3⟩ := hσ.2 i x v h1 h2
    obtain ⟨m, hn, hl⟩ := I.loc
    have fr := S.fr _ (PySem.mem_of_lookup e1) rfl
    have vis : Vis X.env.scope x := by
      rcases fr with q | q
      · exact .inr (.inl q)
      · exact .inr (.inr q)
    obtain ⟨u, r, l⟩ := hl j x v e2 e3 vis
    refine ⟨u, r, .inr ⟨?_, ?_⟩⟩
    · show (relabel scope X.env).names.lookup x = some .cell ∨ (relabel scope X.env).names.lookup x = some .free
      rw [relabel_lookup, e1]
      simp only [Option.map_some]
      split
      · exact .inl rfl
      · exact .inr rfl
    · rcases l with ⟨k, _⟩ | ⟨_, c, ec, hc⟩
      · rcases fr with q | q <;> · rw [k] at q; cases q
      · refine ⟨c, ?_, hc.keeps keep⟩
        obtain ⟨c2, e⟩ := Option.isSome_iff_exists.mp (PySem.W.cellsFrom_some (x := x) scope.names (s.heap.objs.size + 1 + 1) (closL X.env scope.names) (.inr (by rw [closL_has (PySem.mem_of_lookup e1)]; rfl)))
        show (cellsFrom _ _ _).lookup x = some c
        rw [e]
        rcases cellsFrom_mem _ _ _ x c2 (PySem.mem_of_lookup e) with q | ⟨_, q⟩
        · rw [capt x c2 q] at ec
          exact ec
        · rw [lookup_of_mem S.nd q] at e1; cases e1
  · refine pushCells_cell scope.names ((s.heap.push (listObj [] 0)).push { cls := .type "dict", data := .dict #[] }) (closL X.env scope.names) x c (fun x c h => ?_) ?_
    · obtain ⟨v, q⟩ := I.cell x c (capt x c h)
      exact ⟨v, q.keeps fun b o e => Heap.get?_push_of_some _ (Heap.get?_push_of_some _ e)⟩
    · rw [sz2]; exact PySem.mem_of_lookup h
  · rcases cells x c h with q | q
    · exact I.freeC x c q
    · exact I.hok.fresh (by omega)
  · rcases List.mem_append.mp hp with hp | hp
    · obtain ⟨q1, q2, q3, q4, q5⟩ := I.pin p hp
      have lt := Heap.lt_size q1
      refine ⟨keep _ _ q1, q2, Nat.ne_of_lt (Nat.lt_succ_of_lt lt), fun z => ?_, q5⟩
      rcases List.mem_cons.mp (I.stkSub p.1 z) with r | r
      · exact q3 r
      · exact q4 r
    · have e : p = (s.heap.objs.size, listObj [] 0) := by simpa using hp
      subst e
      refine ⟨pushCells_keeps _ _ _ _ (Heap.get?_push_of_some _ (Heap.get?_push_size _ rfl)), I.hok.fresh (Nat.le_refl _), Nat.ne_of_lt (Nat.lt_succ_self _), fun z => ?_, fun v => by intro z; cases z⟩
      exact Nat.lt_irrefl _ (stk _ z)
theorem comp_end {N' : List Str} {scope : Scope} {fp : List Addr} {σ' : St} {C : Addr} {cells : List (Str × Addr)} {H' : Hp} {s' : Shared} {its : List Value} {n : Nat} {ys : List V} {pl : List (Addr × Obj)} (I : Inv X pins σ H s) (hf : ∀ b ∈ fp, FpOk X pins H b)
    (J : Inv (cxComp X pins N' scope C cells s H fp) ((s.heap.objs.size, listObj its n) :: pl) σ' H' s') (r : Vals ys its) (hz : ys.length ≤ sizeLine) :
    Inv X pins σ (upd H' s.heap.objs.size (.lst ys)) s' := by
  obtain ⟨p1, p2, p3, p4, p5⟩ := J.pin (s.heap.objs.size, listObj its n) (List.mem_append_right _ List.mem_cons_self)
  have hD : H' s.heap.objs.size = none := p2
  have ne : ∀ b o, s.heap.get? b = some o → b ≠ s.heap.objs.size := fun b o e => Nat.ne_of_lt (Heap.lt_size e)
  have U := J.base
  refine I.call' (ch := fp) J.os ⟨fun b o e h1 h2 h3 => U.keep b o e h1 h2 h3, fun b o e h1 h2 h3 => U.slot b o e h1 h2 h3, fun b o e h1 h2 => ?_, U.there, fun b xs e => ?_, fun b o u e => ?_, fun b ps e => ?_⟩ ?_ J.bare fun b hb => ?_
  · rw [upd_ne (ne b o e)]; exact U.free b o e h1 h2
  · have q := U.tups b xs e
    rw [upd_ne (ne_of_none q hD)]; exact q
  · have q := U.frzs b o u e
    rw [upd_ne (ne_of_none q hD)]; exact q
  · obtain ⟨m, q⟩ := U.tbls b ps e
    exact ⟨m, by rw [upd_ne (ne_of_none q hD)]; exact q⟩
  · intro b u e
    by_cases hb : b = s.heap.objs.size
    · subst hb
      rw [upd_same] at e
      cases e
      exact ⟨hz, its, n, r, p1⟩
    · rw [upd_ne hb] at e
      exact (J.hok b u e).stay (fun _ _ _ q => q) (fun c q => by rw [upd_ne (ne_of_none q hD)]; exact q) fun c xs q => by rw [upd_ne (ne_of_none q hD)]; exact q
  · obtain ⟨q0, q1, q2, q3, q4, q5⟩ := hf b hb
    exact ⟨q3, q1, q4, q5⟩
end
section
variable {prog : Program} {w : World} {A : Around} {E : Value → Shared → Prop} {R : Result → Shared → Prop} {s : Shared}
noncomputable abbrev testsOf (ifs : List Expr) (env : Env) : Sem Bool := forIn ifs true fun c r => if r = true then do let ok ← isTrue c env (eval c env); pure (ForInStep.yield ok) else pure (ForInStep.yield r)
theorem compLoop_gen {elt target iter : Expr} {ifs : List Expr} {scope : Scope} {pos : Pos} {it acc : Value} {env : Env} (I : Nat → Shared → Prop)
    (turn : ∀ n s, I n s → wpAny (model prog w) A (pyNext it) (fun r s₁ => match r with
      | none => R (.ok .next) s₁
      | some v => wpAny (model prog w) A (letOwnedTupleGo target it v) (fun _ s' => wpAny (model prog w) A (assign target env v) (fun _ s₂ =>
          wpAny (model prog w) A (testsOf ifs env) (fun ok s₃ =>
            if ok = true then wpAny (model prog w) A (eval elt env) (fun x s₄ =>
              wpAny (model prog w) A (call (.builtin "list.append") [acc, x]) (fun _ s₅ => ∃ m, m < n ∧ I m s₅) (fun _ _ => False) s₄) (fun _ _ => False) s₃
            else ∃ m, m < n ∧ I m s₃) (fun _ _ => False) s₂) (fun _ _ => False) s') (fun _ _ => False) s₁) (fun _ _ => False) s)
    (n : Nat) (h : I n s) :
    codeAny (model prog w) A (.compLoop (.ListComp elt [⟨target, iter, ifs, 0⟩] scope pos) 0 it acc env) R s := by
  refine codeAny_loop rfl I (fun n s hI => ?_) n h
  show wpAny _ A ((compTurn (.ListComp elt [⟨target, iter, ifs, 0⟩] scope pos) 0 it acc env).onRaise (fun x => do noteFrame x env; theTreesLotGoes x)) _ _ s
  refine wpAny_noted ?_
  rw [compTurn_list]
  refine wpAny_bind (wpAny_standAt (wpAny_bind (wpAny_mono (turn n s hI) (fun r s₁ h₁ => ?_) fun _ _ h' => h'.elim)))
  cases r with
  | none => exact wpAny_pure h₁
  | some v =>
    refine wpAny_bind (wpAny_mono h₁ (fun _ s' h' => ?_) fun _ _ h' => h'.elim)
    refine wpAny_bind (wpAny_mono h' (fun _ s₂ h₂ => wpAny_bind (wpAny_mono h₂ (fun ok s₃ h₃ => ?_) fun _ _ h' => h'.elim)) fun _ _ h' => h'.elim)
    cases ok with
    | false => exact wpAny_pure ⟨rfl, h₃⟩
    | true =>
      exact wpAny_bind (wpAny_bind (wpAny_mono h₃ (fun x s₄ h₄ => wpAny_bind (wpAny_mono h₄ (fun _ s₅ h₅ => wpAny_pure (wpAny_pure ⟨rfl, h₅⟩)) fun _ _ h' => h'.elim)) fun _ _ h' => h'.elim))
end
noncomputable def PIf (X : Cx) (ifs : List Expr) (t : TT) : Prop :=
  ∀ (pins : List (Addr × Obj)) (s : Shared) (σ : St) (H : Hp) (Q : Bool → Hp → Prop), Inv X pins σ H s → t σ H Q → wpAny (model X.prog X.w) X.A (testsOf ifs X.env) (TP X pins σ Q) X.xe s
theorem pif_nil {X : Cx} : PIf X [] (fun _ H Q => Q true H) := fun pins s σ H Q I h => wpAny_tests_nil ⟨H, I, h⟩
theorem pif_one {X : Cx} {c : Expr} {t : TT} (h : PT X c t) : PIf X [c] t := fun pins s σ H Q I q => wpAny_tests_one (h pins s σ H Q I q)
noncomputable def Kept (σ0 σ2 : St) : Prop := σ2.length = σ0.length ∧ ∀ (i : Nat) v, σ0[i]? = some (some v) → σ2[i]? = some (some v)
noncomputable def tComp (X : Cx) (N' : List Str) (scope : Scope) (wi : TI) (g : TG) (tc : TT) (te : TE) : TE := fun σ H Q => wi σ H fun J H1 => ∃ σ0, Cap X N' scope σ σ0 ∧ ∃ W : Nat → Nat → List V → Hp → Prop, (∃ m, W 0 m [] H1) ∧ ∀ i m acc H, W i m acc H →
  (J.stop i H ∧ ∀ p, H p = none → Q (.ref p) (upd H p (.lst acc))) ∨
  (J.go i H ∧ ∃ N : List V → Hp → Prop, (∀ acc' H', N acc' H' → ∃ m', m' < m ∧ W (i + 1) m' acc' H') ∧ ∀ x H', J.yld i H x H' → g x σ0 H' fun σ2 H2 => Kept σ0 σ2 ∧ tc σ2 H2 fun b H3 => if b = true then acc.length < sizeLine ∧ te σ2 H3 fun y H4 => N (acc ++ [y]) H4 else N acc H3)
section
variable {X : Cx} {N' : List Str} {scope : Scope} {wi : TI} {g : TG} {tc : TT} {te : TE} {elt target iter : Expr} {ifs : List Expr} {pos : Pos}
theorem comp_block {pins : List (Addr × Obj)} {s : Shared} {σ σ0 : St} {H : Hp} {it : Addr} {fp : List Addr} {tn : Nat → Heap → Prop} {J : It} {QQ : List V → Hp → Prop} {E : Value → Shared → Prop} {RR : Value → Addr → Result → Shared → Prop} (hc : X.calm = true) (S : CompOk X scope)
    (hg : ∀ pins C cells s₀ H₀ fp, PG (cxComp X pins N' scope C cells s₀ H₀ fp) target g)
    (hi : ∀ pins C cells s₀ H₀ fp, PIf (cxComp X pins N' scope C cells s₀ H₀ fp) ifs tc)
    (he : ∀ pins C cells s₀ H₀ fp, PE (cxComp X pins N' scope C cells s₀ H₀ fp) elt te)
    (I : Inv X pins σ H s) (T : Turn X.prog X.w X.K target J fp it tn) (st : tn 0 s.heap) (hf : ∀ b ∈ fp, FpOk X pins H b) (hσ : Cap X N' scope σ σ0)
    (W : Nat → Nat → List V → Hp → Prop) (w0 : ∃ m, W 0 m [] H)
    (turn : ∀ i m acc H, W i m acc H → (J.stop i H ∧ QQ acc H) ∨
      (J.go i H ∧ ∃ N : List V → Hp → Prop, (∀ acc' H', N acc' H' → ∃ m', m' < m ∧ W (i + 1) m' acc' H') ∧ ∀ x H', J.yld i H x H' → g x σ0 H' fun σ2 H2 => Kept σ0 σ2 ∧ tc σ2 H2 fun b H3 => if b = true then acc.length < sizeLine ∧ te σ2 H3 fun y H4 => N (acc ++ [y]) H4 else N acc H3))
    (hRR : ∀ (C : Addr) (acc : List V) (H' : Hp) (s' : Shared) (m : Str → Option Value), QQ acc H' → Inv X pins σ (upd H' s.heap.objs.size (.lst acc)) s' → H' s.heap.objs.size = none → s'.heap.Ns C m → H' C = none → C ≠ s.heap.objs.size → s.heap.objs.size ≤ C → RR (.ref s.heap.objs.size) C (.ok .next) s') :
    wpAny (model X.prog X.w) X.A (newList []) (fun acc s₃ => wpAny (model X.prog X.w) X.A (newFunctionEnv scope X.env.globals (closL X.env scope.names) [] X.env.qual none .none (some X.env)) (fun cenv s₄ =>
      codeAny (model X.prog X.w) X.A (.compStart (.ListComp elt [⟨target, iter, ifs, 0⟩] scope pos) 0 (.ref it) acc { cenv with scope := relabel scope X.env }) (RR acc cenv.locals) s₄) E s₃) E s := by
  refine wpAny_newObj_type (newEnv_comp ?_)
  have sz1 : (s.heap.push (listObj [] 0)).objs.size = s.heap.objs.size + 1 := Heap.size_push ..
  have I0 := comp_start (N' := N') (σ0 := σ0) I S hf (fun b hb => let ⟨o, e, _⟩ := T.obj 0 _ st b hb; ⟨o, e⟩) hσ
  show codeAny (model X.prog X.w) X.A (.compStart (.ListComp elt [⟨target, iter, ifs, 0⟩] scope pos) 0 (.ref it) (.ref s.heap.objs.size) _) (RR (.ref s.heap.objs.size) (s.heap.push (listObj [] 0)).objs.size) { s with heap := pushCells ((s.heap.push (listObj [] 0)).push { cls := .type "dict", data := .dict #[] }) scope.names }
  rw [sz1]
  show codeAny (model X.prog X.w) X.A (.compStart (.ListComp elt [⟨target, iter, ifs, 0⟩] scope pos) 0 (.ref it) (.ref s.heap.objs.size) (cxComp X pins N' scope (s.heap.objs.size + 1) (cellsFrom (s.heap.objs.size + 1 + 1) scope.names (closL X.env scope.names)) s H fp).env) _ _
  generalize hX' : cxComp X pins N' scope (s.heap.objs.size + 1) (cellsFrom (s.heap.objs.size + 1 + 1) scope.names (closL X.env scope.names)) s H fp = X' at I0 ⊢
  have keep0 : ∀ b o, s.heap.get? b = some o → (pushCells ((s.heap.push (listObj [] 0)).push { cls := .type "dict", data := .dict #[] }) scope.names).get? b = some o := fun b o e => pushCells_keeps _ _ b o (Heap.get?_push_of_some _ (Heap.get?_push_of_some _ e))
  have st0 : tn 0 (pushCells ((s.heap.push (listObj [] 0)).push { cls := .type "dict", data := .dict #[] }) scope.names) := T.keep _ _ _ st fun b _ o e => keep0 b o e
  have hA : X'.A = X.A := by rw [← hX']; rfl
  have hP : X'.prog = X.prog := by rw [← hX']; rfl
  have hw : X'.w = X.w := by rw [← hX']; rfl
  have hK : X'.K = X.K := by rw [← hX']; rfl
  have hC : X'.calm = true := by rw [← hX']; exact hc
  have hL : X'.env.locals = s.heap.objs.size + 1 := by rw [← hX']; rfl
  have hS0 : X'.s₀ = s := by rw [← hX']; rfl
  have hxe : X'.xe = fun _ _ => False := by rw [← hX']; rfl
  have hex : X'.ex = fp := by rw [← hX']; rfl
  have hpn : X'.pn = X.pn ++ pins := by rw [← hX']; rfl
  have hgX : PG X' target g := by rw [← hX']; exact hg _ _ _ _ _ _
  have hiX : PIf X' ifs tc := by rw [← hX']; exact hi _ _ _ _ _ _
  have heX : PE X' elt te := by rw [← hX']; exact he _ _ _ _ _ _
  -- the iterator's own objects, in the block
  have fpo : ∀ {pl : List (Addr × Obj)} {H' : Hp} {its : List Value} {n : Nat}, (∀ b ∈ fp, H' b = none) → ∀ b ∈ fp, FpOk X' [(s.heap.objs.size, listObj its n)] H' b := fun {pl H' its n} hn b hb => by
    obtain ⟨q0, q1, q2, q3, q4, q5⟩ := hf b hb
    obtain ⟨e1, e2⟩ := I0.ok.exf b (by rw [hex]; exact hb)
    have lt : b < s.heap.objs.size := let ⟨o, e, _⟩ := T.obj 0 _ st b hb; Heap.lt_size e
    refine ⟨hn b hb, e1, I0.ok.exfs b (by rw [hex]; exact hb), .inl (by rw [hex]; exact hb), e2, fun p hp => ?_⟩
    rw [hpn] at hp
    rcases List.mem_append.mp hp with hp | hp
    · exact q5 p hp
    · have e : p = (s.heap.objs.size, listObj its n) := by simpa using hp
      subst e
      exact Nat.ne_of_gt lt
  obtain ⟨m0, w0⟩ := w0
  have loop : codeAny (model X.prog X.w) X.A (.compLoop (.ListComp elt [⟨target, iter, ifs, 0⟩] scope pos) 0 (.ref it) (.ref s.heap.objs.size) X'.env) (RR (.ref s.heap.objs.size) (s.heap.objs.size + 1)) { s with heap := pushCells ((s.heap.push (listObj [] 0)).push { cls := .type "dict", data := .dict #[] }) scope.names } := by
    refine compLoop_gen (fun k s' => ∃ i H' acc its n, Inv X' [(s.heap.objs.size, listObj its n)] σ0 H' s' ∧ tn i s'.heap ∧ (∀ b ∈ fp, H' b = none) ∧ Vals acc its ∧ acc.length ≤ sizeLine ∧ W i k acc H') ?_ m0
      ⟨0, H, [], [], 0, I0, st0, fun b hb => (hf b hb).1, .nil, Nat.zero_le _, w0⟩
    rintro k s3 ⟨i, H3, acc, its, n, I3, st3, fr3, rv, hz, w3⟩
    rcases turn i k acc H3 w3 with ⟨stop, qn⟩ | ⟨go, N, hN, step⟩
    · have z := T.done X' hP hw hK hC i _ s3 σ0 H3 (fun _ _ => False) I3 (fpo (pl := []) fr3) st3 stop
      rw [hA] at z
      refine thn z ?_
      rintro r s4 ⟨hr, I4⟩
      subst hr
      obtain ⟨m, hn, _⟩ := I4.loc
      rw [hL] at hn
      have fC := I4.free
      rw [hL] at fC
      have e := I4
      rw [← hX'] at e
      exact hRR _ acc H3 s4 m qn (comp_end I hf e rv hz) (I4.pin (s.heap.objs.size, listObj its n) (List.mem_append_right _ List.mem_cons_self)).2.1 hn fC (Nat.succ_ne_self _) (Nat.le_succ _)
    · have z := T.item X' hP hw hK hC i _ s3 σ0 H3 (fun _ _ => False) I3 (fpo (pl := []) fr3) st3 go
      rw [hA] at z
      refine thn z ?_
      rintro r s4 ⟨u, hr, h4⟩
      subst hr
      refine thn h4 ?_
      rintro _ s5 ⟨x, H5, I5, r5, y5, st5, fr5⟩
      have I5' := I5.pinned (fpo (pl := []) fr5) (T.obj _ _ st5)
      have zg := hgX _ s5 σ0 H5 x u _ I5' r5 (step x H5 y5)
      rw [hP, hw, hA, hxe] at zg
      refine thn zg ?_
      rintro _ s6 ⟨σ6, H6, I6, kp, q6⟩
      have zi := hiX _ s6 σ6 H6 _ I6 q6
      rw [hP, hw, hA, hxe] at zi
      refine thn zi ?_
      rintro b s7 ⟨H7, I7, q7⟩
      -- back to the loop's head
      have back : ∀ {H8 : Hp} {s8 : Shared} {acc' : List V} {its' : List Value} {n' : Nat}, Inv X' ([(s.heap.objs.size, listObj its' n')] ++ pinsAt fp s5.heap) σ6 H8 s8 → Vals acc' its' → acc'.length ≤ sizeLine → N acc' H8 →
          ∃ m, m < k ∧ ∃ i H' acc its n, Inv X' [(s.heap.objs.size, listObj its n)] σ0 H' s8 ∧ tn i s8.heap ∧ (∀ b ∈ fp, H' b = none) ∧ Vals acc its ∧ acc.length ≤ sizeLine ∧ W i m acc H' := fun {H8 s8 acc' its' n'} I8 rv' hz' n8 => by
        obtain ⟨m', hm, w8⟩ := hN acc' H8 n8
        refine ⟨m', hm, i + 1, H8, acc', its', n', (I8.unpinned).weak kp.1.symm kp.2, T.keep _ _ _ st5 fun b hb o e => (I8.pin (b, o) (List.mem_append_right _ (List.mem_append_right _ (mem_pinsAt hb e)))).1, fun b hb => ?_, rv', hz', w8⟩
        obtain ⟨o, e, d⟩ := T.obj _ _ st5 b hb
        exact (I8.pin (b, o) (List.mem_append_right _ (List.mem_append_right _ (mem_pinsAt hb e)))).2.1
      cases b with
      | false =>
        rw [if_neg Bool.false_ne_true] at q7
        rw [if_neg Bool.false_ne_true]
        exact back I7 rv hz q7
      | true =>
        rw [if_pos rfl] at q7
        rw [if_pos rfl]
        obtain ⟨hlt, q7⟩ := q7
        have ze := heX _ s7 σ6 H7 _ I7 q7
        rw [hP, hw, hA, hxe] at ze
        refine thn ze ?_
        rintro y s8 ⟨yv, H8, I8, r8, q8⟩
        obtain ⟨p1, p2, p3, p4, p5⟩ := I8.pin (s.heap.objs.size, listObj its n) (List.mem_append_right _ (List.mem_append_left _ List.mem_cons_self))
        have len : its.toArray.size ≤ sizeLine := by
          have := rv.length
          simp only [List.size_toArray]
          omega
        refine wpAny_list_append_plain (hsz := len) ⟨n, p1⟩ ?_
        rintro h' ⟨n', pl⟩ sb
        have pl' : h'.get? s.heap.objs.size = some (listObj (its ++ [y]) n') := by rw [pl]; simp [listObj]
        have lD : s.heap.objs.size < (pushCells ((s.heap.push (listObj [] 0)).push { cls := .type "dict", data := .dict #[] }) scope.names).objs.size := by
          refine Nat.lt_of_lt_of_le ?_ (pushCells_size _ _)
          rw [Heap.size_push, Heap.size_push]; omega
        have cne : ∀ z c, X'.env.cells.lookup z = some c → c ≠ s.heap.objs.size := fun z c e q => by
          obtain ⟨v, hv⟩ := I8.cell z c e
          obtain ⟨o, ho, hd⟩ := hv
          rw [q] at ho
          rw [show s8.heap.get? s.heap.objs.size = some (listObj its n) from p1] at ho
          cases ho
          cases hd
        have J9 : Inv X' (pinsAt fp s5.heap) σ6 H8 { s8 with heap := h' } := by
          refine Inv.turned (t' := s8.toks) (it := s.heap.objs.size) (I8.pins_of fun p hp => I8.pin p (List.mem_append_right _ (List.mem_append_right _ hp))) (fun b o hb e => sb.extBut b o hb e) p2 (by rw [hL]; exact Nat.ne_of_lt (Nat.lt_succ_self _)) (.inr (by rw [hS0]; exact Nat.le_refl _)) cne fun p hp => ?_
          rw [hpn] at hp
          rcases List.mem_append.mp hp with hp | hp
          · have : p.1 < s.heap.objs.size := Heap.lt_size (I.pin p hp).1
            exact Nat.ne_of_lt this
          · obtain ⟨hb, _⟩ := of_pinsAt hp
            have : p.1 < s.heap.objs.size := let ⟨o, e, _⟩ := T.obj 0 _ st p.1 hb; Heap.lt_size e
            exact Nat.ne_of_lt this
        have I9 : Inv X' ([(s.heap.objs.size, listObj (its ++ [y]) n')] ++ pinsAt fp s5.heap) σ6 H8 { s8 with heap := h' } := by
          refine J9.pins_of fun p hp => ?_
          rcases List.mem_append.mp hp with hp | hp
          · have e : p = (s.heap.objs.size, listObj (its ++ [y]) n') := by simpa using hp
            subst e
            exact ⟨pl', p2, p3, p4, fun v => by intro z; cases z⟩
          · exact J9.pin p (List.mem_append_right _ hp)
        exact back I9 (rv.append (.cons r8 .nil)) (by rw [List.length_append, List.length_singleton]; omega) q8
  exact codeAny_compStart_list loop (T.self X.A 0 _ _ _ st0 loop)
theorem pe_comp (hc : X.calm = true) (S : CompOk X scope) (hit : PI X target iter wi)
    (hg : ∀ pins C cells s₀ H₀ fp, PG (cxComp X pins N' scope C cells s₀ H₀ fp) target g)
    (hi : ∀ pins C cells s₀ H₀ fp, PIf (cxComp X pins N' scope C cells s₀ H₀ fp) ifs tc)
    (he : ∀ pins C cells s₀ H₀ fp, PE (cxComp X pins N' scope C cells s₀ H₀ fp) elt te)
    (hs : ∀ x, foldedSetIterable iter X.env x = pure x := by intro _; rfl) :
    PE X (.ListComp elt [⟨target, iter, ifs, 0⟩] scope pos) (tComp X N' scope wi g tc te) := by
  intro pins s σ H Q I h
  rw [eval_ListComp]
  have hfree : ∀ x ∈ scope.names, x.2 = .free → ∃ c, X.env.cells.lookup x.1 = some c := fun x hx e => I.ok.has x.1 (S.fr x hx e)
  refine wpAny_comprehension_free (use := none) rfl hs (closureFor_ok hfree) S.kind (fun x hx e => lookup_of_mem S.nd (by rw [← e]; exact hx)) (thn (hit pins s σ H _ I h) fun v s1 h1 => thn h1 fun itv s2 h2 => ?_)
  obtain ⟨it, fp, tn, J, H2, e, I2, T, st2, f2, σ0, hσ, W, w0, turn⟩ := h2
  subst e
  refine comp_block (QQ := fun acc H => ∀ p, H p = none → Q (.ref p) (upd H p (.lst acc))) (RR := fun acc C => compPost (model X.prog X.w) X.A X.xe none (EP X pins σ Q) acc C) hc S hg hi he I2 T st2 f2 hσ W w0 turn ?_
  intro C acc H' s' m q I' hD hn hC hne hle
  refine ⟨m, hn, fun h' sb => ?_⟩
  obtain ⟨oC, _, _, hoC, _⟩ := id hn
  have uC : upd H' s2.heap.objs.size (.lst acc) C = none := by rw [upd_ne hne]; exact hC
  have hCL : C ≠ X.env.locals := Nat.ne_of_gt (Nat.lt_of_lt_of_le I2.lt hle)
  refine ⟨.ref s2.heap.objs.size, _, I'.turned (t' := s'.toks) (it := C) (fun b o hb e => sb.extBut b o hb e) uC hCL (.inr (Nat.le_trans I2.sz hle)) (fun x c e z => ?_) fun p hp z => ?_, rfl, q _ hD⟩
  · obtain ⟨v, hv⟩ := I2.cell x c e
    have := hv.lt
    rw [z] at this
    exact Nat.lt_irrefl _ (Nat.lt_of_lt_of_le this hle)
  · have := Heap.lt_size (I2.pin p hp).1
    rw [z] at this
    exact Nat.lt_irrefl _ (Nat.lt_of_lt_of_le this hle)
theorem ps_setComp {y : Str} {py spos : Pos} {gy : TG} (hc : X.calm = true) (S : CompOk X scope) (hit : PI X target iter wi)
    (hg : ∀ pins C cells s₀ H₀ fp, PG (cxComp X pins N' scope C cells s₀ H₀ fp) target g)
    (hi : ∀ pins C cells s₀ H₀ fp, PIf (cxComp X pins N' scope C cells s₀ H₀ fp) ifs tc)
    (he : ∀ pins C cells s₀ H₀ fp, PE (cxComp X pins N' scope C cells s₀ H₀ fp) elt te)
    (hgy : PG X (.Name y py) gy)
    (hsw : swapsWith (.ListComp elt [⟨target, iter, ifs, 0⟩] scope pos) (some (.Name y py)) spos.line X.env = pure true)
    (hs : ∀ x, foldedSetIterable iter X.env x = pure x := by intro _; rfl) :
    PS X (.Assign [.Name y py] (.ListComp elt [⟨target, iter, ifs, 0⟩] scope pos) spos) (tAsg (tComp X N' scope wi g tc te) gy) := by
  intro pins s σ H D I h
  rw [exec_Assign_Name_used _ _ _ _ hsw]
  refine wpAny_bind (wpAny_standAt (wpAny_bind ?_))
  show wpAny _ X.A (do let _ ← comprehension (.ListComp elt [⟨target, iter, ifs, 0⟩] scope pos) scope X.env _ (newList []) false (eval iter X.env) (some (assign (.Name y py) X.env))) _ _ s
  have hfree : ∀ x ∈ scope.names, x.2 = .free → ∃ c, X.env.cells.lookup x.1 = some c := fun x hx e => I.ok.has x.1 (S.fr x hx e)
  refine wpAny_bind (wpAny_mono (wpAny_comprehension_free (use := some (assign (.Name y py) X.env)) (Q := fun _ s' => SP X pins D .next s') rfl hs (closureFor_ok hfree) S.kind (fun x hx e => lookup_of_mem S.nd (by rw [← e]; exact hx)) (thn (hit pins s σ H _ I h) fun v s1 h1 => thn h1 fun itv s2 h2 => ?_))
    (fun _ s' hq => wpAny_pure (wpAny_pure hq)) fun _ _ e => e)
  obtain ⟨it, fp, tn, J, H2, e, I2, T, st2, f2, σ0, hσ, W, w0, turn⟩ := h2
  subst e
  refine comp_block (QQ := fun acc H => ∀ p, H p = none → gy (.ref p) σ (upd H p (.lst acc)) D.nx) (RR := fun acc C => compPost (model X.prog X.w) X.A X.xe (some (assign (.Name y py) X.env)) (fun _ s' => SP X pins D .next s') acc C) hc S hg hi he I2 T st2 f2 hσ W w0 turn ?_
  intro C acc H' s' m q I' hD hn hC hne hle
  obtain ⟨oC, esC, epC, hoC, hdC⟩ := id hn
  have uC : upd H' s2.heap.objs.size (.lst acc) C = none := by rw [upd_ne hne]; exact hC
  have hCL : C ≠ X.env.locals := Nat.ne_of_gt (Nat.lt_of_lt_of_le I2.lt hle)
  have hCfs : C ∉ X.fs := I2.nofs hle
  have pinC : Inv X (pins ++ [(C, oC)]) σ (upd H' s2.heap.objs.size (.lst acc)) s' := by
    refine I'.pins_of fun p hp => ?_
    rcases List.mem_append.mp hp with hp | hp
    · exact I'.pin p (List.mem_append_right _ hp)
    · have e : p = (C, oC) := by simpa using hp
      subst e
      refine ⟨hoC, uC, hCL, hCfs, fun v z => ?_⟩
      rw [hdC.1] at z
      cases z
  refine thn (hgy _ s' σ _ (.ref s2.heap.objs.size) _ _ pinC rfl (q _ hD)) ?_
  rintro _ s'' ⟨σ2, H3, I3, q3⟩
  obtain ⟨p1, p2, p3, p4, p5⟩ := I3.pin (C, oC) (List.mem_append_right _ (List.mem_append_right _ List.mem_cons_self))
  refine ⟨m, ⟨oC, esC, epC, p1, hdC⟩, fun h' sb => ?_⟩
  refine ⟨σ2, H3, (Inv.unpinned I3).turned (t' := s''.toks) (it := C) (fun b o hb e => sb.extBut b o hb e) p2 hCL (.inr (Nat.le_trans I2.sz hle)) (fun x c e z => ?_) fun p hp z => ?_, q3⟩
  · obtain ⟨v, hv⟩ := I2.cell x c e
    have := hv.lt
    rw [z] at this
    exact Nat.lt_irrefl _ (Nat.lt_of_lt_of_le this hle)
  · have := Heap.lt_size (I2.pin p hp).1
    rw [z] at this
    exact Nat.lt_irrefl _ (Nat.lt_of_lt_of_le this hle)
end
end L2
namespace DL
open PySem PySem.Spec PyProof.Rows L2
noncomputable abbrev St := L2.St
inductive D where
  | non | bl (b : Bool) | int (i : Int) | str (x : Str) | tup (ds : List D) | ref (n : Nat) | rol (ds : List D) | obj (c : Str) (ks : List Str) (ds : List D)
  deriving Inhabited
inductive MO where
  | lst (ds : List D)
noncomputable abbrev MH := List MO
noncomputable abbrev Loc := List (Option D)
noncomputable def MO.items : MO → List D
  | .lst ds => ds
noncomputable def PermL (K : PySem.W.Frag) (H : Hp) (a : Addr) (xs : List V) : Prop := (∃ o, H a = some (.frz o (.lst xs))) ∨
    ∃ (o : Obj) (its : Array Value) (n : Nat), K.lookup a = some o ∧ o.cls = .type "list" ∧ o.dict = none ∧ o.data = .seq its n ∧ its.size ≤ sizeLine ∧ Vals xs its.toList
theorem PermL.sq {K : PySem.W.Frag} {H : Hp} {a : Addr} {xs : List V} (h : PermL K H a xs) : SqL K H a xs := by
  rcases h with ⟨o, h⟩ | h
  · exact .inl (.inr ⟨o, h⟩)
  · exact .inr h
mutual
inductive RD (K : PySem.W.Frag) (H : Hp) (ρ : List Addr) : D → V → Prop
  | non : RD K H ρ .non .non
  | bl (b : Bool) : RD K H ρ (.bl b) (.bl b)
  | int (i : Int) : RD K H ρ (.int i) (.int i)
  | str (x : Str) : RD K H ρ (.str x) (.str x)
  | tup {ds : List D} {a : Addr} {xs : List V} : SqT K H a xs → RDs K H ρ ds xs → RD K H ρ (.tup ds) (.ref a)
  | ref {n : Nat} {a : Addr} : ρ[n]? = some a → RD K H ρ (.ref n) (.ref a)
  | rol {ds : List D} {a : Addr} {xs : List V} : PermL K H a xs → RDs K H ρ ds xs → RD K H ρ (.rol ds) (.ref a)
  | obj {c : Str} {ks : List Str} {ds : List D} {a C dx : Addr} {xs : List V} : PySem.W.nsIn K mainGlobals c = some (some (.ref C)) → H a = some (.ins C dx (ks.zip xs)) → ks.length = xs.length → RDs K H ρ ds xs → RD K H ρ (.obj c ks ds) (.ref a)
inductive RDs (K : PySem.W.Frag) (H : Hp) (ρ : List Addr) : List D → List V → Prop
  | nil : RDs K H ρ [] []
  | cons {d : D} {v : V} {ds : List D} {vs : List V} : RD K H ρ d v → RDs K H ρ ds vs → RDs K H ρ (d :: ds) (v :: vs)
end
structure Ev (K : PySem.W.Frag) (H : Hp) (ρ : List Addr) (H' : Hp) (ρ' : List Addr) : Prop where
  tup : ∀ a xs, SqT K H a xs → SqT K H' a xs
  pre : ρ <+: ρ'
  perm : ∀ a xs, PermL K H a xs → PermL K H' a xs
  ins : ∀ a C dx fs, H a = some (.ins C dx fs) → H' a = some (.ins C dx fs)
theorem Ev.refl {K : PySem.W.Frag} {H : Hp} {ρ : List Addr} : Ev K H ρ H ρ := ⟨fun _ _ h => h, List.prefix_refl _, fun _ _ h => h, fun _ _ _ _ h => h⟩
theorem Ev.trans {K : PySem.W.Frag} {H H1 H2 : Hp} {ρ ρ1 ρ2 : List Addr} (a : Ev K H ρ H1 ρ1) (b : Ev K H1 ρ1 H2 ρ2) : Ev K H ρ H2 ρ2 := ⟨fun x xs h => b.tup x xs (a.tup x xs h), a.pre.trans b.pre, fun x xs h => b.perm x xs (a.perm x xs h), fun x C dx fs h => b.ins x C dx fs (a.ins x C dx fs h)⟩
theorem Ev.at {K : PySem.W.Frag} {H H' : Hp} {ρ ρ' : List Addr} (e : Ev K H ρ H' ρ') {n : Nat} {a : Addr} (h : ρ[n]? = some a) : ρ'[n]? = some a := by
  obtain ⟨t, rfl⟩ := e.pre
  obtain ⟨hl, _⟩ := List.getElem?_eq_some_iff.mp h
  rw [List.getElem?_append_left hl]; exact h
mutual
theorem RD.mono {K : PySem.W.Frag} {H H' : Hp} {ρ ρ' : List Addr} (e : Ev K H ρ H' ρ') : ∀ {d : D} {v : V}, RD K H ρ d v → RD K H' ρ' d v
  | _, _, .non => .non
  | _, _, .bl b => .bl b
  | _, _, .int i => .int i
  | _, _, .str x => .str x
  | _, _, .tup s r => .tup (e.tup _ _ s) (RDs.mono e r)
  | _, _, .ref h => .ref (e.at h)
  | _, _, .rol s r => .rol (e.perm _ _ s) (RDs.mono e r)
  | _, _, .obj n s l r => .obj n (e.ins _ _ _ _ s) l (RDs.mono e r)
theorem RDs.mono {K : PySem.W.Frag} {H H' : Hp} {ρ ρ' : List Addr} (e : Ev K H ρ H' ρ') : ∀ {ds : List D} {vs : List V}, RDs K H ρ ds vs → RDs K H' ρ' ds vs
  | _, _, .nil => .nil
  | _, _, .cons r t => .cons (RD.mono e r) (RDs.mono e t)
end
section
variable {K : PySem.W.Frag} {H H' : Hp} {ρ ρ' : List Addr}
theorem RDs.length : ∀ {ds : List D} {vs : List V}, RDs K H ρ ds vs → ds.length = vs.length
  | _, _, .nil => rfl
  | _, _, .cons _ t => by rw [List.length_cons, List.length_cons, RDs.length t]
theorem RDs.get : ∀ {ds : List D} {vs : List V} {i : Nat} {d : D}, RDs K H ρ ds vs → ds[i]? = some d → ∃ v, vs[i]? = some v ∧ RD K H ρ d v
  | _, _, _, _, .nil, e => by simp at e
  | _, _, 0, _, .cons r _, e => by simp at e; subst e; exact ⟨_, by simp, r⟩
  | _, _, i + 1, d, .cons _ t, e => by
    obtain ⟨v, h1, h2⟩ := RDs.get (i := i) (d := d) t (by simpa using e)
    exact ⟨v, by simpa using h1, h2⟩
theorem RDs.append : ∀ {ds es : List D} {vs us : List V}, RDs K H ρ ds vs → RDs K H ρ es us → RDs K H ρ (ds ++ es) (vs ++ us)
  | _, _, _, _, .nil, s => s
  | _, _, _, _, .cons r t, s => .cons r (RDs.append t s)
theorem RDs.take : ∀ {ds : List D} {vs : List V} (n : Nat), RDs K H ρ ds vs → RDs K H ρ (ds.take n) (vs.take n)
  | _, _, 0, _ => .nil
  | _, _, _ + 1, .nil => .nil
  | _, _, n + 1, .cons r t => .cons r (RDs.take n t)
theorem RDs.drop : ∀ {ds : List D} {vs : List V} (n : Nat), RDs K H ρ ds vs → RDs K H ρ (ds.drop n) (vs.drop n)
  | _, _, 0, r => r
  | _, _, _ + 1, .nil => .nil
  | _, _, n + 1, .cons _ t => RDs.drop n t
theorem RDs.set {d : D} {v : V} (r : RD K H ρ d v) : ∀ {ds : List D} {vs : List V} (n : Nat), RDs K H ρ ds vs → RDs K H ρ (ds.set n d) (vs.set n v)
  | _, _, _, .nil => .nil
  | _, _, 0, .cons _ t => .cons r t
  | _, _, n + 1, .cons q t => .cons q (RDs.set r n t)
theorem RDs.reverse {ds : List D} {vs : List V} (h : RDs K H ρ ds vs) : RDs K H ρ ds.reverse vs.reverse := by
  induction ds generalizing vs with
  | nil => cases h; exact .nil
  | cons d ds ih =>
    cases h with
    | cons r t =>
      rw [List.reverse_cons, List.reverse_cons]
      exact (ih t).append (.cons r .nil)
theorem RDs.ints : ∀ (ns : List Int), RDs K H ρ (ns.map D.int) (ns.map V.int)
  | [] => .nil
  | n :: r => .cons (.int n) (RDs.ints r)
noncomputable def RO (K : PySem.W.Frag) (H : Hp) (ρ : List Addr) (a : Addr) : MO → Prop
  | .lst ds => ∃ xs, H a = some (.lst xs) ∧ RDs K H ρ ds xs
structure RS (K : PySem.W.Frag) (H : Hp) (ρ : List Addr) (mh : MH) : Prop where
  len : ρ.length = mh.length
  nd : ρ.Nodup
  obj : ∀ (n : Nat) (a : Addr) (o : MO), ρ[n]? = some a → mh[n]? = some o → RO K H ρ a o
noncomputable def RL (K : PySem.W.Frag) (H : Hp) (ρ : List Addr) (loc : Loc) (σ : St) : Prop := loc.length = σ.length ∧ ∀ (i : Nat) (d : D), loc[i]? = some (some d) → ∃ v, σ[i]? = some (some v) ∧ RD K H ρ d v
theorem RL.mono {loc : Loc} {σ : St} (e : Ev K H ρ H' ρ') (h : RL K H ρ loc σ) : RL K H' ρ' loc σ := ⟨h.1, fun i d q => let ⟨v, e1, r⟩ := h.2 i d q; ⟨v, e1, r.mono e⟩⟩
theorem RL.set {loc : Loc} {σ : St} {d : D} {v : V} {i : Nat} (h : RL K H ρ loc σ) (r : RD K H ρ d v) : RL K H ρ (loc.set i (some d)) (σ.set i (some v)) := by
  refine ⟨by rw [List.length_set, List.length_set]; exact h.1, fun j d' q => ?_⟩
  by_cases e : i = j
  · subst e
    rw [List.getElem?_set] at q
    simp only [if_true] at q
    split at q
    · rename_i hl
      cases q
      refine ⟨v, ?_, r⟩
      rw [List.getElem?_set]
      simp only [if_true]
      rw [if_pos (by rw [← h.1]; exact hl)]
    · cases q
  · rw [List.getElem?_set_ne e] at q
    rw [List.getElem?_set_ne e]
    exact h.2 j d' q
theorem RS.at {mh : MH} (h : RS K H ρ mh) {n : Nat} {o : MO} (e : mh[n]? = some o) : ∃ a, ρ[n]? = some a ∧ RO K H ρ a o := by
  obtain ⟨hl, _⟩ := List.getElem?_eq_some_iff.mp e
  have hl' : n < ρ.length := by rw [h.len]; exact hl
  exact ⟨ρ[n], List.getElem?_eq_getElem hl', h.obj n _ o (List.getElem?_eq_getElem hl') e⟩
theorem RS.tracked {mh : MH} (h : RS K H ρ mh) {a : Addr} (ha : a ∈ ρ) : ∃ o, H a = some o := by
  obtain ⟨n, hn, rfl⟩ := List.getElem_of_mem ha
  have hl : n < mh.length := by rw [← h.len]; exact hn
  have q := h.obj n _ _ (List.getElem?_eq_getElem hn) (List.getElem?_eq_getElem hl)
  cases e : mh[n] with
  | lst ds => rw [e] at q; obtain ⟨xs, q, _⟩ := q; exact ⟨_, q⟩
theorem RO.read {a : Addr} {o : MO} (h : RO K H ρ a o) : ∃ xs, SqL K H a xs ∧ RDs K H ρ o.items xs := by
  cases o with
  | lst ds => obtain ⟨xs, q, r⟩ := h; exact ⟨xs, .inl (.inl q), r⟩
theorem sqT_new {a p : Addr} {o : HO} {xs : List V} (hp : H p = none) (h : SqT K H a xs) : SqT K (upd H p o) a xs := by
  rcases h with (h | ⟨ob, h⟩) | h
  · exact .inl (.inl (by rw [upd_ne (ne_of_none h hp)]; exact h))
  · exact .inl (.inr ⟨ob, by rw [upd_ne (ne_of_none h hp)]; exact h⟩)
  · exact .inr h
theorem sqT_lst {a p : Addr} {ys zs xs : List V} (hp : H p = some (.lst ys)) (h : SqT K H a xs) : SqT K (upd H p (.lst zs)) a xs := by
  rcases h with (h | ⟨ob, h⟩) | h
  · exact .inl (.inl (by rw [upd_ne (ne_of h hp (by intro z; cases z))]; exact h))
  · exact .inl (.inr ⟨ob, by rw [upd_ne (ne_of h hp (by intro z; cases z))]; exact h⟩)
  · exact .inr h
theorem perm_new {a p : Addr} {o : HO} {xs : List V} (hp : H p = none) (h : PermL K H a xs) : PermL K (upd H p o) a xs := by
  rcases h with ⟨ob, h⟩ | h
  · exact .inl ⟨ob, by rw [upd_ne (ne_of_none h hp)]; exact h⟩
  · exact .inr h
theorem perm_lst {a p : Addr} {ys zs xs : List V} (hp : H p = some (.lst ys)) (h : PermL K H a xs) : PermL K (upd H p (.lst zs)) a xs := by
  rcases h with ⟨ob, h⟩ | h
  · exact .inl ⟨ob, by rw [upd_ne (ne_of h hp (by intro z; cases z))]; exact h⟩
  · exact .inr h
theorem Ev.new {p : Addr} {o : HO} (hp : H p = none) : Ev K H ρ (upd H p o) ρ := ⟨fun _ _ h => sqT_new hp h, List.prefix_refl _, fun _ _ h => perm_new hp h, fun a _ _ _ h => by rw [upd_ne (ne_of_none h hp)]; exact h⟩
theorem Ev.newL {p : Addr} {o : HO} (hp : H p = none) : Ev K H ρ (upd H p o) (ρ ++ [p]) := ⟨fun _ _ h => sqT_new hp h, List.prefix_append _ _, fun _ _ h => perm_new hp h, fun a _ _ _ h => by rw [upd_ne (ne_of_none h hp)]; exact h⟩
theorem Ev.lst {p : Addr} {ys zs : List V} (hp : H p = some (.lst ys)) : Ev K H ρ (upd H p (.lst zs)) ρ := ⟨fun _ _ h => sqT_lst hp h, List.prefix_refl _, fun _ _ h => perm_lst hp h, fun a _ _ _ h => by rw [upd_ne (ne_of h hp (by intro z; cases z))]; exact h⟩
theorem RO.mono {a : Addr} {o : MO} (e : Ev K H ρ H' ρ') (s : H' a = H a) (h : RO K H ρ a o) : RO K H' ρ' a o := by
  cases o with
  | lst ds => obtain ⟨xs, q, r⟩ := h; exact ⟨xs, by rw [s]; exact q, r.mono e⟩
theorem RS.new {mh : MH} {p : Addr} {o : HO} (h : RS K H ρ mh) (hp : H p = none) : RS K (upd H p o) ρ mh :=
  ⟨h.len, h.nd, fun n a ob e1 e2 => (h.obj n a ob e1 e2).mono (Ev.new hp) (by
    obtain ⟨oo, q⟩ := h.tracked (List.mem_of_getElem? e1)
    rw [upd_ne (ne_of_none q hp)])⟩
theorem RS.newL {mh : MH} {p : Addr} {xs : List V} {ds : List D} (h : RS K H ρ mh) (hp : H p = none) (r : RDs K H ρ ds xs) : RS K (upd H p (.lst xs)) (ρ ++ [p]) (mh ++ [.lst ds]) := by
  have hnp : p ∉ ρ := fun z => by
    obtain ⟨o, q⟩ := h.tracked z
    rw [hp] at q; cases q
  refine ⟨by rw [List.length_append, List.length_append, h.len]; rfl, ?_, fun n a ob e1 e2 => ?_⟩
  · rw [List.nodup_append]
    exact ⟨h.nd, List.pairwise_singleton _ _, fun a ha b hb z => by
      rw [List.mem_singleton.mp hb] at z; rw [z] at ha; exact hnp ha⟩
  · by_cases hn : n < ρ.length
    · rw [List.getElem?_append_left hn] at e1
      rw [List.getElem?_append_left (by rw [← h.len]; exact hn)] at e2
      refine (h.obj n a ob e1 e2).mono (Ev.newL hp) ?_
      obtain ⟨oo, q⟩ := h.tracked (List.mem_of_getElem? e1)
      rw [upd_ne (ne_of_none q hp)]
    · rw [List.getElem?_append_right (by omega)] at e1
      rw [List.getElem?_append_right (by rw [← h.len]; omega)] at e2
      have n0 : n - ρ.length = 0 := by
        have := (List.getElem?_eq_some_iff.mp e1).1
        simp at this
        omega
      rw [n0] at e1
      rw [← h.len, n0] at e2
      cases e1
      cases e2
      exact ⟨xs, upd_same, r.mono (Ev.newL hp)⟩
theorem RS.setL {mh : MH} {n : Nat} {p : Addr} {ys xs : List V} {ds : List D} (h : RS K H ρ mh) (hn : ρ[n]? = some p) (hp : H p = some (.lst ys)) (r : RDs K H ρ ds xs) : RS K (upd H p (.lst xs)) ρ (mh.set n (.lst ds)) := by
  refine ⟨by rw [List.length_set]; exact h.len, h.nd, fun m a ob e1 e2 => ?_⟩
  by_cases hm : n = m
  · subst hm
    rw [hn] at e1
    cases e1
    rw [List.getElem?_set] at e2
    simp only [if_true] at e2
    split at e2
    · cases e2
      exact ⟨xs, upd_same, r.mono (Ev.lst hp)⟩
    · cases e2
  · rw [List.getElem?_set_ne hm] at e2
    refine (h.obj m a ob e1 e2).mono (Ev.lst hp) ?_
    rw [upd_ne]
    intro z
    subst z
    exact hm ((List.getElem?_inj (List.getElem?_eq_some_iff.mp hn).1 h.nd).mp (hn.trans e1.symm))
end
noncomputable abbrev DM (α : Type) := Loc → MH → Option (α × MH)
noncomputable def DM.bnd {α β : Type} (m : DM α) (f : α → DM β) : DM β := fun loc mh => match m loc mh with
  | none => none
  | some (a, mh') => f a loc mh'
theorem bnd_some {α β : Type} {m : DM α} {f : α → DM β} {loc : Loc} {mh : MH} {r : β × MH} (h : m.bnd f loc mh = some r) : ∃ a m1, m loc mh = some (a, m1) ∧ f a loc m1 = some r := by
  unfold DM.bnd at h
  split at h
  · cases h
  · rename_i a m1 e
    exact ⟨a, m1, e, h⟩
noncomputable def DM.ret {α : Type} (a : α) : DM α := fun _ mh => some (a, mh)
noncomputable def DM.lift {α : Type} (f : MH → Option (α × MH)) : DM α := fun _ mh => f mh
noncomputable def DM.bad {α : Type} : DM α := fun _ _ => none
noncomputable def Co (K : PySem.W.Frag) (H : Hp) (ρ : List Addr) (mh' : MH) (d : D) (Q : VK) : Prop := ∀ H' ρ' v, Ev K H ρ H' ρ' → RS K H' ρ' mh' → RD K H' ρ' d v → Q v H'
noncomputable def tD (K : PySem.W.Frag) (loc : Loc) (mh : MH) (r : Option (D × MH)) : TE := fun σ H Q => ∃ ρ d mh', r = some (d, mh') ∧ RL K H ρ loc σ ∧ RS K H ρ mh ∧ Co K H ρ mh' d Q
noncomputable def tDT (K : PySem.W.Frag) (loc : Loc) (mh : MH) (r : Option (Bool × MH)) : TT := fun σ H Q => ∃ ρ b mh', r = some (b, mh') ∧ RL K H ρ loc σ ∧ RS K H ρ mh ∧ ∀ H' ρ', Ev K H ρ H' ρ' → RS K H' ρ' mh' → Q b H'
noncomputable def tDA (K : PySem.W.Frag) (loc : Loc) (mh : MH) (r : Option (List D × MH)) : TA := fun σ H Q => ∃ ρ ds mh', r = some (ds, mh') ∧ RL K H ρ loc σ ∧ RS K H ρ mh ∧ ∀ H' ρ' vs, Ev K H ρ H' ρ' → RS K H' ρ' mh' → RDs K H' ρ' ds vs → Q vs H'
noncomputable def DE (X : Cx) (e : Expr) (m : DM D) : Prop := ∀ loc mh, PE X e (tD X.K loc mh (m loc mh))
noncomputable def DT (X : Cx) (e : Expr) (m : DM Bool) : Prop := ∀ loc mh, PT X e (tDT X.K loc mh (m loc mh))
noncomputable def DA (X : Cx) (es : List Expr) (m : DM (List D)) : Prop := ∀ loc mh, PA X es (tDA X.K loc mh (m loc mh))
theorem PE_imp {X : Cx} {e : Expr} {t t' : TE} (h : PE X e t) (i : ∀ σ H Q, t' σ H Q → t σ H Q) : PE X e t' := fun pins s σ H Q I q => h pins s σ H Q I (i σ H Q q)
theorem PT_imp {X : Cx} {e : Expr} {t t' : TT} (h : PT X e t) (i : ∀ σ H Q, t' σ H Q → t σ H Q) : PT X e t' := fun pins s σ H Q I q => h pins s σ H Q I (i σ H Q q)
theorem PA_imp {X : Cx} {es : List Expr} {t t' : TA} (h : PA X es t) (i : ∀ σ H Q, t' σ H Q → t σ H Q) : PA X es t' := fun pos pins s σ H Q I q => h pos pins s σ H Q I (i σ H Q q)
theorem tD_none {K : PySem.W.Frag} {loc : Loc} {mh : MH} {σ : St} {H : Hp} {Q : VK} (h : tD K loc mh none σ H Q) : False := by obtain ⟨_, _, _, e, _⟩ := h; cases e
theorem PE_none {X : Cx} {e : Expr} {loc : Loc} {mh : MH} : PE X e (tD X.K loc mh none) := fun _ _ _ _ _ _ h => (tD_none h).elim
theorem PT_none {X : Cx} {e : Expr} {loc : Loc} {mh : MH} : PT X e (tDT X.K loc mh none) := fun _ _ _ _ _ _ h => by obtain ⟨_, _, _, e, _⟩ := h; cases e
theorem PA_none {X : Cx} {es : List Expr} {loc : Loc} {mh : MH} : PA X es (tDA X.K loc mh none) := fun _ _ _ _ _ _ _ h => by obtain ⟨_, _, _, e, _⟩ := h; cases e
theorem de_bad {X : Cx} {e : Expr} : DE X e DM.bad := fun _ _ => PE_none
theorem dt_bad {X : Cx} {e : Expr} : DT X e DM.bad := fun _ _ => PT_none
theorem da_bad {X : Cx} {es : List Expr} : DA X es DM.bad := fun _ _ => PA_none
section
variable {X : Cx} {a b c e : Expr} {ma mb mc : DM D} {pos : Pos}
theorem de_c {d : D} {v : V} (h : PE X e (tC v)) (r : ∀ K H ρ, RD K H ρ d v) : DE X e (DM.ret d) := by
  refine fun loc mh => PE_imp h ?_
  rintro σ H Q ⟨ρ, d', mh', q, rl, rs, co⟩
  cases q
  exact co H ρ v Ev.refl rs (r _ _ _)
theorem de_var {i : Nat} {x : Str} (hN : X.N[i]? = some x) (hv : Vis X.env.scope x) (hd : (x == ("__debug__" : Str)) = false) (hcd : (x == ("__classdict__" : Str)) = false) :
    DE X (.Name x pos) (fun loc mh => match loc[i]? with | some (some d) => some (d, mh) | _ => none) := by
  refine fun loc mh => PE_imp (pe_var hN hv hd hcd) ?_
  rintro σ H Q ⟨ρ, d', mh', q, rl, rs, co⟩
  dsimp only at q
  split at q
  · rename_i d e
    cases q
    obtain ⟨v, h1, h2⟩ := rl.2 i d' e
    exact ⟨v, h1, co H ρ v Ev.refl rs h2⟩
  · cases q
noncomputable def rD (K : PySem.W.Frag) (f : D → D → MH → Option (D × MH)) : R2 := fun x y H Q => ∃ ρ mh dx dy d mh', f dx dy mh = some (d, mh') ∧ RS K H ρ mh ∧ RD K H ρ dx x ∧ RD K H ρ dy y ∧ Co K H ρ mh' d Q
noncomputable def rD1 (K : PySem.W.Frag) (f : D → MH → Option (D × MH)) : V → Hp → VK → Prop := fun x H Q => ∃ ρ mh dx d mh', f dx mh = some (d, mh') ∧ RS K H ρ mh ∧ RD K H ρ dx x ∧ Co K H ρ mh' d Q
noncomputable def rDs (K : PySem.W.Frag) (f : List D → MH → Option (D × MH)) : List V → Hp → VK → Prop := fun xs H Q => ∃ ρ mh ds d mh', f ds mh = some (d, mh') ∧ RS K H ρ mh ∧ RDs K H ρ ds xs ∧ Co K H ρ mh' d Q
theorem Co.ev {K : PySem.W.Frag} {H H1 : Hp} {ρ ρ1 : List Addr} {mh' : MH} {d : D} {Q : VK} (e : Ev K H ρ H1 ρ1) (c : Co K H ρ mh' d Q) : Co K H1 ρ1 mh' d Q := fun H' ρ' v e' rs r => c H' ρ' v (e.trans e') rs r
noncomputable def dop (f : D → D → MH → Option (D × MH)) (ma mb : DM D) : DM D := ma.bnd fun x => mb.bnd fun y => DM.lift (f x y)
theorem two {K : PySem.W.Frag} {f : D → D → MH → Option (D × MH)} {loc : Loc} {mh : MH} {σ : St} {H : Hp} {Q : VK} (h : tD K loc mh (dop f ma mb loc mh) σ H Q) :
    ∃ x m1, ma loc mh = some (x, m1) ∧ tOp (rD K f) (tD K loc mh (ma loc mh)) (tD K loc m1 (mb loc m1)) σ H Q := by
  obtain ⟨ρ, d, mh', q, rl, rs, co⟩ := h
  obtain ⟨x, m1, ea, q⟩ := bnd_some q
  obtain ⟨y, m2, eb, q⟩ := bnd_some q
  refine ⟨x, m1, ea, ρ, x, m1, ea, rl, rs, fun H1 ρ1 v1 e1 rs1 r1 => ⟨ρ1, y, m2, eb, rl.mono e1, rs1, fun H2 ρ2 v2 e2 rs2 r2 => ?_⟩⟩
  exact ⟨ρ2, m2, x, y, d, mh', q, rs2, r1.mono e2, r2, co.ev (e1.trans e2)⟩
theorem de_two {f : D → D → MH → Option (D × MH)} (h : ∀ ta tb, PE X a ta → PE X b tb → PE X e (tOp (rD X.K f) ta tb)) (ha : DE X a ma) (hb : DE X b mb) : DE X e (dop f ma mb) := fun loc mh => by
  cases ea : ma loc mh with
  | none =>
    have : dop f ma mb loc mh = none := by unfold dop DM.bnd; rw [ea]
    rw [this]; exact PE_none
  | some p =>
    refine PE_imp (h _ _ (ha loc mh) (hb loc p.2)) fun σ H Q q => ?_
    obtain ⟨x, m1, e1, q⟩ := two q
    rw [ea] at e1
    cases e1
    exact q
theorem de_op {op : Operator} {f : D → D → MH → Option (D × MH)} (ho : OpR X (binaryOp op) (rD X.K f)) (ha : DE X a ma) (hb : DE X b mb) : DE X (.BinOp a op b pos) (dop f ma mb) := de_two (fun _ _ p q => pe_op ho p q) ha hb
theorem de_cmp {op : CmpOp} {f : D → D → MH → Option (D × MH)} (ho : OpR X (compareOp op) (rD X.K f)) (hm : behindInMarks op b = false) (ha : DE X a ma) (hb : DE X b mb) : DE X (.Compare a [op] [b] pos) (dop f ma mb) := de_two (fun _ _ p q => pe_cmpR ho p q hm) ha hb
theorem de_ix {f : D → D → MH → Option (D × MH)} (ho : IxR X (rD X.K f)) (hs : PlainIx b) (ha : DE X a ma) (hb : DE X b mb) : DE X (.Subscript a b pos) (dop f ma mb) := de_two (fun _ _ p q => pe_ix ho p q hs) ha hb
theorem de_un {op : UnaryOp} {f : D → MH → Option (D × MH)} (ho : UnR X (unaryOp op) (rD1 X.K f)) (ha : DE X a ma) : DE X (.UnaryOp op a pos) (ma.bnd fun x => DM.lift (f x)) := fun loc mh =>
  PE_imp (pe_un ho (ha loc mh)) fun σ H Q ⟨ρ, d, mh', q, rl, rs, co⟩ => by
  obtain ⟨x, m1, ea, q⟩ := bnd_some q
  · exact ⟨ρ, x, m1, ea, rl, rs, fun H1 ρ1 v1 e1 rs1 r1 => ⟨ρ1, m1, x, d, mh', q, rs1, r1, co.ev e1⟩⟩
noncomputable def asB : D → Option Bool
  | .bl b => some b
  | _ => none
noncomputable def boolD (ma : DM D) : DM Bool := ma.bnd fun x => match asB x with | some b => DM.ret b | none => DM.bad
theorem dt_cmpd {f : D → D → MH → Option (D × MH)} (h : ∀ ta tb, PE X a ta → PE X b tb → PT X e (tTest (tOp (rD X.K f) ta tb))) (ha : DE X a ma) (hb : DE X b mb) : DT X e (boolD (dop f ma mb)) := fun loc mh => by
  cases ea : ma loc mh with
  | none =>
    have : boolD (dop f ma mb) loc mh = none := by unfold boolD dop DM.bnd; rw [ea]
    rw [this]; exact PT_none
  | some p =>
    refine PT_imp (h _ _ (ha loc mh) (hb loc p.2)) ?_
    rintro σ H Q ⟨ρ, k, mh', q, rl, rs, co⟩
    unfold boolD at q
    cases ed : dop f ma mb loc mh with
    | none => unfold DM.bnd at q; rw [ed] at q; cases q
    | some z =>
      obtain ⟨d, m2⟩ := z
      unfold DM.bnd at q
      rw [ed] at q
      cases d with
      | bl k' =>
        cases q
        have t : tD X.K loc mh (dop f ma mb loc mh) σ H (fun x H' => ∃ k, x = .bl k ∧ Q k H') := ⟨ρ, .bl k, mh', ed, rl, rs, fun H' ρ' v e' rs' r' => by cases r'; exact ⟨k, rfl, co H' ρ' e' rs'⟩⟩
        obtain ⟨x, m1, e1, q⟩ := two t
        rw [ea] at e1
        cases e1
        exact q
      | non => cases q
      | int i => cases q
      | str s => cases q
      | tup ds => cases q
      | ref n => cases q
      | rol ds => cases q
      | obj c ks ds => cases q
theorem dt_cmp {op : CmpOp} {f : D → D → MH → Option (D × MH)} (ho : OpR X (compareOp op) (rD X.K f)) (hm : behindInMarks op b = false) (ha : DE X a ma) (hb : DE X b mb) : DT X (.Compare a [op] [b] pos) (boolD (dop f ma mb)) := dt_cmpd (fun _ _ p q => pt_cmpR ho p q hm) ha hb
noncomputable def dAndT (t u : DM Bool) : DM Bool := t.bnd fun c => if c = true then u else DM.ret false
noncomputable def dOrT (t u : DM Bool) : DM Bool := t.bnd fun c => if c = true then DM.ret true else u
noncomputable def dNotT (t : DM Bool) : DM Bool := t.bnd fun c => DM.ret (!c)
noncomputable def DW (X : Cx) (e : Expr) (m : DM Bool) : Prop := ∀ loc mh, PW X e (tDT X.K loc mh (m loc mh))
theorem PW_none {loc : Loc} {mh : MH} : PW X e (tDT X.K loc mh none) := fun _ _ _ _ _ _ _ h => by obtain ⟨_, _, _, e, _⟩ := h; cases e
theorem PW_imp {t t' : TT} (h : PW X e t) (i : ∀ σ H Q, t' σ H Q → t σ H Q) : PW X e t' := fun wh pins s σ H Q I q => h wh pins s σ H Q I (i σ H Q q)
theorem DW.dt {m : DM Bool} (h : DW X e m) : DT X e m := fun loc mh => (h loc mh).pt
variable {t u : DM Bool} {rest : List Expr}
theorem dw_and1 (ha : DT X a t) : DW X (.BoolOp .And [a] pos) t := fun loc mh => pw_and1 (ha loc mh)
theorem dw_or1 (ha : DT X a t) : DW X (.BoolOp .Or [a] pos) t := fun loc mh => pw_or1 (ha loc mh)
theorem dw_and (ha : DT X a t) (hb : DW X (.BoolOp .And (b :: rest) pos) u) : DW X (.BoolOp .And (a :: b :: rest) pos) (dAndT t u) := fun loc mh => by
  cases ea : t loc mh with
  | none =>
    have : dAndT t u loc mh = none := by unfold dAndT DM.bnd; rw [ea]
    rw [this]; exact PW_none
  | some p =>
    obtain ⟨k, m1⟩ := p
    refine PW_imp (pw_and (ha loc mh) (hb loc m1)) ?_
    rintro σ H Q ⟨ρ, k', mh', q, rl, rs, co⟩
    have q' : (if k = true then u else DM.ret false) loc m1 = some (k', mh') := by unfold dAndT DM.bnd at q; rw [ea] at q; exact q
    refine ⟨ρ, k, m1, ea, rl, rs, fun H1 ρ1 e1 rs1 => ?_⟩
    cases k with
    | true => exact iteT ⟨ρ1, k', mh', q', rl.mono e1, rs1, fun H2 ρ2 e2 rs2 => co H2 ρ2 (e1.trans e2) rs2⟩
    | false => cases q'; exact iteF (co H1 ρ1 e1 rs1)
theorem dw_or (ha : DT X a t) (hb : DW X (.BoolOp .Or (b :: rest) pos) u) : DW X (.BoolOp .Or (a :: b :: rest) pos) (dOrT t u) := fun loc mh => by
  cases ea : t loc mh with
  | none =>
    have : dOrT t u loc mh = none := by unfold dOrT DM.bnd; rw [ea]
    rw [this]; exact PW_none
  | some p =>
    obtain ⟨k, m1⟩ := p
    refine PW_imp (pw_or (ha loc mh) (hb loc m1)) ?_
    rintro σ H Q ⟨ρ, k', mh', q, rl, rs, co⟩
    have q' : (if k = true then DM.ret true else u) loc m1 = some (k', mh') := by unfold dOrT DM.bnd at q; rw [ea] at q; exact q
    refine ⟨ρ, k, m1, ea, rl, rs, fun H1 ρ1 e1 rs1 => ?_⟩
    cases k with
    | true => cases q'; exact iteT (co H1 ρ1 e1 rs1)
    | false => exact iteF ⟨ρ1, k', mh', q', rl.mono e1, rs1, fun H2 ρ2 e2 rs2 => co H2 ρ2 (e1.trans e2) rs2⟩
theorem dt_not (ha : DT X a t) : DT X (.UnaryOp .Not a pos) (dNotT t) := fun loc mh => by
  refine PT_imp (pt_not (ha loc mh)) ?_
  rintro σ H Q ⟨ρ, k', mh', q, rl, rs, co⟩
  obtain ⟨k, m1, ea, q⟩ := bnd_some q
  · cases q
    exact ⟨ρ, k, mh', ea, rl, rs, fun H1 ρ1 e1 rs1 => co H1 ρ1 e1 rs1⟩
noncomputable def dIf (t : DM Bool) (ma mb : DM D) : DM D := t.bnd fun c => if c = true then ma else mb
theorem de_if (hc : DT X c t) (ha : DE X a ma) (hb : DE X b mb) : DE X (.IfExp c a b pos) (dIf t ma mb) := fun loc mh => by
  cases ea : t loc mh with
  | none =>
    have : dIf t ma mb loc mh = none := by unfold dIf DM.bnd; rw [ea]
    rw [this]; exact PE_none
  | some p =>
    obtain ⟨k, m1⟩ := p
    refine PE_imp (pe_ifExp (hc loc mh) (ha loc m1) (hb loc m1)) ?_
    rintro σ H Q ⟨ρ, d, mh', q, rl, rs, co⟩
    have q' : (if k = true then ma else mb) loc m1 = some (d, mh') := by unfold dIf DM.bnd at q; rw [ea] at q; exact q
    refine ⟨ρ, k, m1, ea, rl, rs, fun H1 ρ1 e1 rs1 => ?_⟩
    cases k with
    | true => exact iteT ⟨ρ1, d, mh', q', rl.mono e1, rs1, co.ev e1⟩
    | false => exact iteF ⟨ρ1, d, mh', q', rl.mono e1, rs1, co.ev e1⟩
noncomputable def dAndV (ma mb : DM D) : DM D := (boolD ma).bnd fun c => if c = true then mb else DM.ret (.bl false)
noncomputable def dOrV (ma mb : DM D) : DM D := (boolD ma).bnd fun c => if c = true then DM.ret (.bl true) else mb
theorem boolD_some {loc : Loc} {mh : MH} {k : Bool} {m1 : MH} (h : boolD ma loc mh = some (k, m1)) : ma loc mh = some (.bl k, m1) := by
  obtain ⟨x, m2, ea, h⟩ := bnd_some h
  · cases x with
    | bl b => cases h; exact ea
    | non => cases h
    | int i => cases h
    | str s => cases h
    | tup ds => cases h
    | ref n => cases h
    | rol ds => cases h
    | obj c ks ds => cases h
theorem de_one {op} (ha : DE X a ma) : DE X (.BoolOp op [a] pos) ma := fun loc mh => pe_one (ha loc mh)
theorem de_and (ha : DE X a ma) (hb : DE X (.BoolOp .And (b :: rest) pos) mb) : DE X (.BoolOp .And (a :: b :: rest) pos) (dAndV ma mb) := fun loc mh => by
  cases ea : boolD ma loc mh with
  | none =>
    have : dAndV ma mb loc mh = none := by unfold dAndV DM.bnd; rw [ea]
    rw [this]; exact PE_none
  | some p =>
    obtain ⟨k, m1⟩ := p
    refine PE_imp (pe_and (ha loc mh) (hb loc m1)) ?_
    rintro σ H Q ⟨ρ, d, mh', q, rl, rs, co⟩
    have q' : (if k = true then mb else DM.ret (.bl false)) loc m1 = some (d, mh') := by unfold dAndV DM.bnd at q; rw [ea] at q; exact q
    refine ⟨ρ, .bl k, m1, boolD_some ea, rl, rs, fun H1 ρ1 v e1 rs1 r1 => ?_⟩
    cases r1
    refine ⟨k, rfl, ?_⟩
    cases k with
    | true => exact iteT ⟨ρ1, d, mh', q', rl.mono e1, rs1, co.ev e1⟩
    | false => cases q'; exact iteF (co H1 ρ1 _ e1 rs1 (.bl false))
theorem de_or (ha : DE X a ma) (hb : DE X (.BoolOp .Or (b :: rest) pos) mb) : DE X (.BoolOp .Or (a :: b :: rest) pos) (dOrV ma mb) := fun loc mh => by
  cases ea : boolD ma loc mh with
  | none =>
    have : dOrV ma mb loc mh = none := by unfold dOrV DM.bnd; rw [ea]
    rw [this]; exact PE_none
  | some p =>
    obtain ⟨k, m1⟩ := p
    refine PE_imp (pe_or (ha loc mh) (hb loc m1)) ?_
    rintro σ H Q ⟨ρ, d, mh', q, rl, rs, co⟩
    have q' : (if k = true then DM.ret (.bl true) else mb) loc m1 = some (d, mh') := by unfold dOrV DM.bnd at q; rw [ea] at q; exact q
    refine ⟨ρ, .bl k, m1, boolD_some ea, rl, rs, fun H1 ρ1 v e1 rs1 r1 => ?_⟩
    cases r1
    refine ⟨k, rfl, ?_⟩
    cases k with
    | true => cases q'; exact iteT (co H1 ρ1 _ e1 rs1 (.bl true))
    | false => exact iteF ⟨ρ1, d, mh', q', rl.mono e1, rs1, co.ev e1⟩
theorem de_not (ha : DE X a ma) : DE X (.UnaryOp .Not a pos) ((boolD ma).bnd fun c => DM.ret (.bl (!c))) := fun loc mh => by
  refine PE_imp (pe_not (ha loc mh)) ?_
  rintro σ H Q ⟨ρ, d, mh', q, rl, rs, co⟩
  cases ea : boolD ma loc mh with
  | none => unfold DM.bnd at q; rw [ea] at q; cases q
  | some p =>
    obtain ⟨k, m1⟩ := p
    unfold DM.bnd at q
    rw [ea] at q
    cases q
    refine ⟨ρ, .bl k, mh', boolD_some ea, rl, rs, fun H1 ρ1 v e1 rs1 r1 => ?_⟩
    cases r1
    exact ⟨k, rfl, co H1 ρ1 _ e1 rs1 (.bl _)⟩
noncomputable def truD : D → MH → Option Bool
  | .non, _ => some false
  | .bl b, _ => some b
  | .int i, _ => some (i != 0)
  | .str y, _ => if y.length ≤ sizeLine then some ((y.length : Int) != 0) else none
  | .tup ds, _ => some (!ds.isEmpty)
  | .ref n, mh => match mh[n]? with | some o => some (!o.items.isEmpty) | none => none
  | .rol ds, _ => some (!ds.isEmpty)
  | .obj .., _ => none
theorem isEmpty_rds {K : PySem.W.Frag} {H : Hp} {ρ : List Addr} {ds : List D} {xs : List V} (r : RDs K H ρ ds xs) : ds.isEmpty = xs.isEmpty := by cases r <;> rfl
theorem truD_ok {K : PySem.W.Frag} {H : Hp} {ρ : List Addr} {mh : MH} {d : D} {v : V} {k : Bool} (rs : RS K H ρ mh) (r : RD K H ρ d v) (e : truD d mh = some k) : TruV K v H k := by
  cases r with
  | non => cases e; rfl
  | bl b => cases e; rfl
  | int i => cases e; rfl
  | str x =>
    have e : (if x.length ≤ sizeLine then some ((x.length : Int) != 0) else none) = some k := e
    split at e
    · rename_i hz
      cases e
      exact ⟨hz, rfl⟩
    · cases e
  | tup s r => cases e; exact .inr (.inl ⟨_, s, by rw [isEmpty_rds r]⟩)
  | rol s r => cases e; exact .inl ⟨_, s.sq, by rw [isEmpty_rds r]⟩
  | obj n s l r => cases e
  | @ref n a h =>
    have e : (match mh[n]? with | some o => some (!o.items.isEmpty) | none => none) = some k := e
    split at e
    · rename_i o eo
      cases e
      obtain ⟨a', ha, ro⟩ := rs.at eo
      rw [h] at ha
      cases ha
      obtain ⟨xs, q, r⟩ := ro.read
      exact .inl ⟨xs, q, by rw [isEmpty_rds r]⟩
    · cases e
noncomputable def truM (ma : DM D) : DM Bool := ma.bnd fun x => fun _ mh => match truD x mh with | some k => some (k, mh) | none => none
theorem dt_truth (ha : DE X a ma) (he : ∀ whole, isTrue a X.env whole = (do let v ← whole; standAt a.pos; holding [v] (truthy v))) : DT X a (truM ma) := fun loc mh => by
  refine PT_imp (pt_truth (ha loc mh) he) ?_
  rintro σ H Q ⟨ρ, k, mh', q, rl, rs, co⟩
  obtain ⟨x, m1, ea, q⟩ := bnd_some q
  · split at q
    · rename_i k' ek
      cases q
      exact ⟨ρ, x, mh', ea, rl, rs, fun H1 ρ1 v e1 rs1 r1 => ⟨k, truD_ok rs1 r1 ek, co H1 ρ1 e1 rs1⟩⟩
    · cases q
noncomputable def dCons (ma : DM D) (mr : DM (List D)) : DM (List D) := ma.bnd fun x => mr.bnd fun xs => DM.ret (x :: xs)
theorem da_nil : DA X [] (DM.ret []) := by
  refine fun loc mh => PA_imp pa_nil ?_
  rintro σ H Q ⟨ρ, ds, mh', q, rl, rs, co⟩
  cases q
  exact co H ρ [] Ev.refl rs .nil
theorem da_cons {es : List Expr} {mr : DM (List D)} (ha : DE X a ma) (hr : DA X es mr) (hs : starEach (a :: es) X.env = (false, eval a X.env) :: starEach es X.env) : DA X (a :: es) (dCons ma mr) := fun loc mh => by
  cases ea : ma loc mh with
  | none =>
    have : dCons ma mr loc mh = none := by unfold dCons DM.bnd; rw [ea]
    rw [this]; exact PA_none
  | some p =>
    obtain ⟨x, m1⟩ := p
    refine PA_imp (pa_cons (ha loc mh) (hr loc m1) hs) ?_
    rintro σ H Q ⟨ρ, ds, mh', q, rl, rs, co⟩
    obtain ⟨x2, m2, ea2, q⟩ := bnd_some q
    rw [ea] at ea2
    cases ea2
    obtain ⟨xs, m2, er, q'⟩ := bnd_some q
    · cases q'
      exact ⟨ρ, x, m1, ea, rl, rs, fun H1 ρ1 v e1 rs1 r1 => ⟨ρ1, xs, mh', er, rl.mono e1, rs1, fun H2 ρ2 vs e2 rs2 r2 => co H2 ρ2 _ (e1.trans e2) rs2 (.cons (r1.mono e2) r2)⟩⟩
noncomputable def mkTup (ds : List D) (mh : MH) : Option (D × MH) := if ds.length ≤ sizeLine then some (.tup ds, mh) else none
noncomputable def mkLst (ds : List D) (mh : MH) : Option (D × MH) := if ds.length ≤ sizeLine then some (.ref mh.length, mh ++ [.lst ds]) else none
theorem RS.last {K : PySem.W.Frag} {H : Hp} {ρ : List Addr} {mh : MH} (h : RS K H ρ mh) (p : Addr) : (ρ ++ [p])[mh.length]? = some p := by rw [← h.len]; simp
theorem Co.newT {K : PySem.W.Frag} {H : Hp} {ρ : List Addr} {mh : MH} {ds : List D} {vs : List V} {Q : VK} (rs : RS K H ρ mh) (r : RDs K H ρ ds vs) (co : Co K H ρ mh (.tup ds) Q) : ∀ p, H p = none → Q (.ref p) (upd H p (.tup vs)) := fun p hp =>
  co _ ρ _ (Ev.new hp) (rs.new hp) (.tup (.inl (.inl upd_same)) (r.mono (Ev.new hp)))
theorem Co.newL {K : PySem.W.Frag} {H : Hp} {ρ : List Addr} {mh : MH} {ds : List D} {vs : List V} {Q : VK} (rs : RS K H ρ mh) (r : RDs K H ρ ds vs) (co : Co K H ρ (mh ++ [.lst ds]) (.ref mh.length) Q) : ∀ p, H p = none → Q (.ref p) (upd H p (.lst vs)) := fun p hp =>
  co _ (ρ ++ [p]) _ (Ev.newL hp) (rs.newL hp r) (.ref (rs.last p))
theorem de_tup {es : List Expr} {mr : DM (List D)} {x1} (h : DA X es mr) : DE X (.Tuple es x1 pos) (mr.bnd fun ds => DM.lift (mkTup ds)) := fun loc mh => by
  refine PE_imp (pe_tup (h loc mh)) ?_
  rintro σ H Q ⟨ρ, d, mh', q, rl, rs, co⟩
  obtain ⟨ds, m1, ea, q⟩ := bnd_some q
  · unfold DM.lift mkTup at q
    split at q
    · rename_i hz
      cases q
      exact ⟨ρ, ds, mh', ea, rl, rs, fun H1 ρ1 vs e1 rs1 r1 => ⟨by rw [← r1.length]; exact hz, Co.newT rs1 r1 (co.ev e1)⟩⟩
    · cases q
theorem de_lst {es : List Expr} {mr : DM (List D)} (h : DA X es mr) : DE X (.List es pos) (mr.bnd fun ds => DM.lift (mkLst ds)) := fun loc mh => by
  refine PE_imp (pe_lst (h loc mh)) ?_
  rintro σ H Q ⟨ρ, d, mh', q, rl, rs, co⟩
  obtain ⟨ds, m1, ea, q⟩ := bnd_some q
  · unfold DM.lift mkLst at q
    split at q
    · rename_i hz
      cases q
      exact ⟨ρ, ds, m1, ea, rl, rs, fun H1 ρ1 vs e1 rs1 r1 => ⟨by rw [← r1.length]; exact hz, Co.newL rs1 r1 (co.ev e1)⟩⟩
    · cases q
theorem de_callB {f : List D → MH → Option (D × MH)} {es : List Expr} {mr : DM (List D)} {x : Str} {p : Pos} {id : String} (hc : CallR X (.builtin id) (rDs X.K f)) (hg : Gl X x) (hm : X.mg x = none) (hv : bootBuiltins x = some (.builtin id)) (ha : DA X (a :: es) mr)
    (hn : x ≠ "__name__") (hdb : (x == ("__debug__" : Str)) = false) (he : starEach (a :: es) X.env = (false, eval a X.env) :: starEach es X.env) (hpl : (backTo pos (starEach es X.env)).any (·.1) = false) :
    DE X (.Call (.Name x p) (a :: es) [] pos) (mr.bnd fun ds => DM.lift (f ds)) := fun loc mh => by
  refine PE_imp (pe_callB hc hg hm hv (ha loc mh) hn hdb he hpl) ?_
  rintro σ H Q ⟨ρ, d, mh', q, rl, rs, co⟩
  obtain ⟨ds, m1, ea, q⟩ := bnd_some q
  · exact ⟨ρ, ds, m1, ea, rl, rs, fun H1 ρ1 vs e1 rs1 r1 => ⟨ρ1, m1, ds, d, mh', q, rs1, r1, co.ev e1⟩⟩
theorem de_callTy {f : List D → MH → Option (D × MH)} {es : List Expr} {mr : DM (List D)} {x : Str} {p : Pos} {T : String} (hc : CallR X (.type T) (rDs X.K f)) (hg : Gl X x) (hm : X.mg x = none) (hv : bootBuiltins x = some (.type T)) (ha : DA X (a :: es) mr)
    (hn : x ≠ "__name__") (hdb : (x == ("__debug__" : Str)) = false) (he : starEach (a :: es) X.env = (false, eval a X.env) :: starEach es X.env) (hpl : (backTo pos (starEach es X.env)).any (·.1) = false) :
    DE X (.Call (.Name x p) (a :: es) [] pos) (mr.bnd fun ds => DM.lift (f ds)) := fun loc mh => by
  refine PE_imp (pe_callTy hc hg hm hv (ha loc mh) hn hdb he hpl) ?_
  rintro σ H Q ⟨ρ, d, mh', q, rl, rs, co⟩
  obtain ⟨ds, m1, ea, q⟩ := bnd_some q
  · exact ⟨ρ, ds, m1, ea, rl, rs, fun H1 ρ1 vs e1 rs1 r1 => ⟨ρ1, m1, ds, d, mh', q, rs1, r1, co.ev e1⟩⟩
end
section
variable {X : Cx}
theorem OpR_imp {f : Value → Value → Sem Value} {r r' : R2} (h : OpR X f r) (i : ∀ x y H Q, r' x y H Q → r x y H Q) : OpR X f r' := fun pins s σ H x y v u Q I rx ry q => h pins s σ H x y v u Q I rx ry (i x y H Q q)
noncomputable def iop (C : Int → Int → Bool) (g : Int → Int → Int) : D → D → MH → Option (D × MH)
  | .int i, .int j, mh => if C i j = true then some (.int (g i j), mh) else none
  | _, _, _ => none
theorem iop_ok {f : Value → Value → Sem Value} {C : Int → Int → Prop} {Cb : Int → Int → Bool} {g : Int → Int → Int} (h : OpR X f (rI C fun i j => .int (g i j))) (hC : ∀ i j, Cb i j = true → C i j) : OpR X f (rD X.K (iop Cb g)) := by
  refine OpR_imp h ?_
  rintro x y H Q ⟨ρ, mh, dx, dy, d, mh', q, rs, rx, ry, co⟩
  cases rx with
  | int i =>
    cases ry with
    | int j =>
      have q : (if Cb i j = true then some (D.int (g i j), mh) else none) = some (d, mh') := q
      split at q
      · rename_i hc
        cases q
        exact ⟨i, j, rfl, rfl, hC i j hc, co H ρ _ Ev.refl rs (.int _)⟩
      · cases q
    | _ => cases q
  | _ => cases q
theorem iop0_ok {f : Value → Value → Sem Value} {g : Int → Int → Int} (h : OpR X f (rI0 fun i j => .int (g i j))) : OpR X f (rD X.K (iop (fun _ _ => true) g)) :=
  iop_ok (C := fun _ _ => True) (OpR_imp h fun x y H Q ⟨i, j, e1, e2, _, q⟩ => ⟨i, j, e1, e2, q⟩) fun _ _ _ => trivial
noncomputable def icmp (g : Int → Int → Bool) : D → D → MH → Option (D × MH)
  | .int i, .int j, mh => some (.bl (g i j), mh)
  | _, _, _ => none
theorem icmp_ok {f : Value → Value → Sem Value} {g : Int → Int → Bool} (h : OpR X f (rI0 fun i j => .bl (g i j))) : OpR X f (rD X.K (icmp g)) := by
  refine OpR_imp h ?_
  rintro x y H Q ⟨ρ, mh, dx, dy, d, mh', q, rs, rx, ry, co⟩
  cases rx with
  | int i =>
    cases ry with
    | int j =>
      cases q
      exact ⟨i, j, rfl, rfl, co H ρ _ Ev.refl rs (.bl _)⟩
    | _ => cases q
  | _ => cases q
noncomputable def addD : D → D → MH → Option (D × MH)
  | .int i, .int j, mh => some (.int (i + j), mh)
  | .str i, .str j, mh => if i.length + j.length ≤ sizeLine then some (.str (i ++ j), mh) else none
  | .tup xs, .tup ys, mh => if xs.length + ys.length ≤ sizeLine then some (.tup (xs ++ ys), mh) else none
  | .ref n, .ref m, mh => match mh[n]?, mh[m]? with
    | some (.lst xs), some (.lst ys) => if xs.length + ys.length ≤ sizeLine then some (.ref mh.length, mh ++ [.lst (xs ++ ys)]) else none
    | _, _ => none
  | _, _, _ => none
end
noncomputable def mapO {α β : Type} (f : α → Option β) : List α → Option (List β)
  | [] => some []
  | x :: xs => match f x with
    | some y => match mapO f xs with
      | some ys => some (y :: ys)
      | none => none
    | none => none
noncomputable def py (mh : MH) : Nat → D → Option PyData
  | _, .non => some .none
  | _, .bl b => some (.bool b)
  | _, .int i => some (.int i)
  | _, .str x => if PyData.strOk x = true then some (.str x) else none
  | 0, .tup _ => none
  | 0, .ref _ => none
  | 0, .rol _ => none
  | 0, .obj .. => none
  | _ + 1, .obj .. => none
  | n + 1, .tup ds => match mapO (py mh n) ds with | some xs => some (.tuple xs) | none => none
  | n + 1, .rol ds => match mapO (py mh n) ds with | some xs => some (.list xs) | none => none
  | n + 1, .ref k => match mh[k]? with
    | some o => match mapO (py mh n) o.items with | some xs => some (.list xs) | none => none
    | none => none
section
variable {X : Cx} {pins : List (Addr × Obj)} {σ : St} {H : Hp} {s : Shared} {ρ : List Addr} {mh : MH}
theorem reads_of (I : Inv X pins σ H s) (rs : RS X.K H ρ mh) : ∀ (n : Nat) (d : D) (v : V) (u : Value) (a : PyData), py mh n d = some a → RD X.K H ρ d v → RelV v u → (∃ as, Reads s.heap u a as) ∧ a.canLay0 = true ∧ a.depth ≤ n := by
  intro n
  induction n with
  | zero =>
    intro d v u a e r rv
    cases r with
    | non => cases e; cases rv; exact ⟨⟨_, .none⟩, rfl, Nat.le_refl _⟩
    | bl b => cases e; cases rv; exact ⟨⟨_, .bool b⟩, rfl, Nat.le_refl _⟩
    | int i => cases e; obtain ⟨t, rfl⟩ := rv; exact ⟨⟨_, .int i t⟩, rfl, Nat.le_refl _⟩
    | str x =>
      have e : (if PyData.strOk x = true then some (PyData.str x) else none) = some a := e
      split at e
      · cases e; obtain ⟨t, rfl⟩ := rv; exact ⟨⟨_, .str x t⟩, by assumption, Nat.le_refl _⟩
      · cases e
    | tup s r => cases e
    | ref h => cases e
    | rol s r => cases e
    | obj n s l r => cases e
  | succ n ih =>
    have all : ∀ (ds : List D) (vs : List V) (us : List Value) (as : List PyData), mapO (py mh n) ds = some as → RDs X.K H ρ ds vs → Vals vs us → (∃ bs, ReadsAll s.heap us as bs) ∧ PyData.canLayAll0 as = true ∧ PyData.depthAll as ≤ n := by
      intro ds
      induction ds with
      | nil => intro vs us as e r rv; cases e; cases r; cases rv; exact ⟨⟨_, .nil⟩, rfl, Nat.zero_le _⟩
      | cons d ds ihd =>
        intro vs us as e r rv
        cases r with
        | cons r1 r2 =>
          cases rv with
          | cons v1 v2 =>
            simp only [mapO] at e
            split at e
            · rename_i y ey
              split at e
              · rename_i ys eys
                cases e
                obtain ⟨⟨a1, h1⟩, h2, h3⟩ := ih _ _ _ _ ey r1 v1
                obtain ⟨⟨b1, g1⟩, g2, g3⟩ := ihd _ _ _ eys r2 v2
                refine ⟨⟨_, .cons h1 g1⟩, ?_, ?_⟩
                · simp only [PyData.canLayAll0, h2, g2, Bool.and_self]
                · simp only [PyData.depthAll]; omega
              · cases e
            · cases e
    intro d v u a e r rv
    cases r with
    | non => cases e; cases rv; exact ⟨⟨_, .none⟩, rfl, Nat.zero_le _⟩
    | bl b => cases e; cases rv; exact ⟨⟨_, .bool b⟩, rfl, Nat.zero_le _⟩
    | int i => cases e; obtain ⟨t, rfl⟩ := rv; exact ⟨⟨_, .int i t⟩, rfl, Nat.zero_le _⟩
    | str x =>
      have e : (if PyData.strOk x = true then some (PyData.str x) else none) = some a := e
      split at e
      · cases e; obtain ⟨t, rfl⟩ := rv; exact ⟨⟨_, .str x t⟩, by assumption, Nat.zero_le _⟩
      · cases e
    | @tup ds a' xs sq r =>
      cases rv
      have e : (match mapO (py mh n) ds with | some xs => some (PyData.tuple xs) | none => none) = some a := e
      split at e
      · rename_i ys ey
        cases e
        obtain ⟨its, rv, ⟨o, h1, h2, n', h3⟩, _⟩ := I.tuple sq
        obtain ⟨⟨bs, g1⟩, g2, g3⟩ := all ds xs its ys ey r rv
        refine ⟨⟨_, .tuple h1 h2 h3 (by simpa using g1)⟩, by simpa [PyData.canLay0] using g2, ?_⟩
        simp only [PyData.depth]; omega
      · cases e
    | obj n s l r => cases e
    | @rol ds a' xs sq r =>
      cases rv
      have e : (match mapO (py mh n) ds with | some xs => some (PyData.list xs) | none => none) = some a := e
      split at e
      · rename_i ys ey
        cases e
        obtain ⟨its, rv, ⟨ob, n', h1, h2, h2', h3⟩, _⟩ := I.list sq.sq
        obtain ⟨⟨bs, g1⟩, g2, g3⟩ := all _ xs its ys ey r rv
        refine ⟨⟨_, .list h1 h2 h3 (by simpa using g1)⟩, by simpa [PyData.canLay0] using g2, ?_⟩
        simp only [PyData.depth]; omega
      · cases e
    | @ref k a' h =>
      cases rv
      have e : (match mh[k]? with | some o => (match mapO (py mh n) o.items with | some xs => some (PyData.list xs) | none => none) | none => none) = some a := e
      split at e
      · rename_i o eo
        split at e
        · rename_i ys ey
          cases e
          obtain ⟨a2, ha, ro⟩ := rs.at eo
          rw [h] at ha
          cases ha
          obtain ⟨xs, sq, r⟩ := ro.read
          obtain ⟨its, rv, ⟨ob, n', h1, h2, h2', h3⟩, _⟩ := I.list sq
          obtain ⟨⟨bs, g1⟩, g2, g3⟩ := all _ xs its ys ey r rv
          refine ⟨⟨_, .list h1 h2 h3 (by simpa using g1)⟩, by simpa [PyData.canLay0] using g2, ?_⟩
          simp only [PyData.depth]; omega
        · cases e
      · cases e
noncomputable def eqB (mh : MH) (x y : D) : Option Bool := match py mh 60 x, py mh 60 y with
  | some a, some b => some (PyData.eqv a b)
  | _, _ => none
noncomputable def eqD (x y : D) (mh : MH) : Option (D × MH) := match eqB mh x y with | some k => some (.bl k, mh) | none => none
noncomputable def neD (x y : D) (mh : MH) : Option (D × MH) := match eqB mh x y with | some k => some (.bl (!k), mh) | none => none
theorem room60 {A : Around} {a b : PyData} (hu : A.units + 64 < cLine) (h : a.depth ≤ 60) : A.units + min a.depth b.depth < cLine := by omega
theorem eqB_some {x y : D} {k : Bool} (h : eqB mh x y = some k) : ∃ a b, py mh 60 x = some a ∧ py mh 60 y = some b ∧ k = PyData.eqv a b := by
  unfold eqB at h
  split at h
  · rename_i a b ea eb
    cases h
    exact ⟨a, b, ea, eb, rfl⟩
  · cases h
theorem op_eqD (hu : X.A.units + 64 < cLine) : OpR X (compareOp .Eq) (rD X.K eqD) := by
  rintro pins s σ H x y v u Q I rx ry ⟨ρ, mh, dx, dy, d, mh', q, rs, r1, r2, co⟩
  unfold eqD at q
  split at q
  · rename_i k ek
    cases q
    obtain ⟨a, b, ea, eb, rfl⟩ := eqB_some ek
    obtain ⟨⟨as, h1⟩, h2, h3⟩ := reads_of I rs 60 dx x v a ea r1 rx
    obtain ⟨⟨bs, g1⟩, g2, g3⟩ := reads_of I rs 60 dy y u b eb r2 ry
    exact SeqAt.compareEq_reads h1 g1 h2 g2 (room60 hu h3) ⟨.bl _, H, I, rfl, co H ρ _ Ev.refl rs (.bl _)⟩
  · cases q
theorem op_neD (hu : X.A.units + 64 < cLine) : OpR X (compareOp .NotEq) (rD X.K neD) := by
  rintro pins s σ H x y v u Q I rx ry ⟨ρ, mh, dx, dy, d, mh', q, rs, r1, r2, co⟩
  unfold neD at q
  split at q
  · rename_i k ek
    cases q
    obtain ⟨a, b, ea, eb, rfl⟩ := eqB_some ek
    obtain ⟨⟨as, h1⟩, h2, h3⟩ := reads_of I rs 60 dx x v a ea r1 rx
    obtain ⟨⟨bs, g1⟩, g2, g3⟩ := reads_of I rs 60 dy y u b eb r2 ry
    exact SeqAt.compareNe_reads h1 g1 h2 g2 (room60 hu h3) ⟨.bl _, H, I, rfl, co H ρ _ Ev.refl rs (.bl _)⟩
  · cases q
noncomputable def inB (mh : MH) (x c : D) : Option Bool := match py mh 60 x, py mh 60 c with
  | some a, some (.list xs) => some (xs.any fun y => PyData.eqv y a)
  | some a, some (.tuple xs) => some (xs.any fun y => PyData.eqv y a)
  | _, _ => none
noncomputable def inD (neg : Bool) (x c : D) (mh : MH) : Option (D × MH) := match inB mh x c with | some k => some (.bl (if neg then !k else k), mh) | none => none
theorem op_inD (hu : X.A.units + 64 < cLine) : OpR X (compareOp .In) (rD X.K (inD false)) := by
  rintro pins s σ H x y v u Q I rx ry ⟨ρ, mh, dx, dy, d, mh', q, rs, r1, r2, co⟩
  unfold inD at q
  split at q
  · rename_i k ek
    cases q
    unfold inB at ek
    split at ek
    · rename_i a xs ea eb
      cases ek
      obtain ⟨⟨as, h1⟩, h2, h3⟩ := reads_of I rs 60 dx x v a ea r1 rx
      obtain ⟨⟨bs, g1⟩, g2, g3⟩ := reads_of I rs 60 dy y u _ eb r2 ry
      exact SeqAt.in_list_reads g1 h1 (by simpa [PyData.canLay0] using g2) h2 (by simp only [PyData.depth] at g3; omega) ⟨.bl _, H, I, rfl, co H ρ _ Ev.refl rs (.bl _)⟩
    · rename_i a xs ea eb
      cases ek
      obtain ⟨⟨as, h1⟩, h2, h3⟩ := reads_of I rs 60 dx x v a ea r1 rx
      obtain ⟨⟨bs, g1⟩, g2, g3⟩ := reads_of I rs 60 dy y u _ eb r2 ry
      exact SeqAt.in_tuple_reads g1 h1 (by simpa [PyData.canLay0] using g2) h2 (by simp only [PyData.depth] at g3; omega) ⟨.bl _, H, I, rfl, co H ρ _ Ev.refl rs (.bl _)⟩
    · cases ek
  · cases q
end
section
variable {X : Cx}
noncomputable def isD (neg : Bool) : D → D → MH → Option (D × MH)
  | x, .non, mh => some (.bl (if neg then !(match x with | .non => true | _ => false) else match x with | .non => true | _ => false), mh)
  | .bl a, .bl b, mh => some (.bl (if neg then a != b else a == b), mh)
  | _, _, _ => none
theorem op_isD : OpR X (compareOp .Is) (rD X.K (isD false)) := by
  rintro pins s σ H x y v u Q I rx ry ⟨ρ, mh, dx, dy, d, mh', q, rs, r1, r2, co⟩
  cases r2 with
  | non =>
    cases q
    cases ry
    refine is_none_gen ⟨.bl _, H, I, ?_, co H ρ _ Ev.refl rs (.bl _)⟩
    rw [rx.none_iff]
    cases r1 <;> rfl
  | bl b =>
    cases r1 with
    | bl a => cases q; cases rx; cases ry; exact is_bool ⟨.bl _, H, I, rfl, co H ρ _ Ev.refl rs (.bl _)⟩
    | _ => cases q
  | _ => cases r1 <;> cases q
theorem op_isNotD : OpR X (compareOp .IsNot) (rD X.K (isD true)) := by
  rintro pins s σ H x y v u Q I rx ry ⟨ρ, mh, dx, dy, d, mh', q, rs, r1, r2, co⟩
  cases r2 with
  | non =>
    cases q
    cases ry
    refine isnot_none_gen ⟨.bl _, H, I, ?_, co H ρ _ Ev.refl rs (.bl _)⟩
    rw [rx.none_iff]
    cases r1 <;> rfl
  | bl b =>
    cases r1 with
    | bl a => cases q; cases rx; cases ry; exact isnot_bool ⟨.bl _, H, I, rfl, co H ρ _ Ev.refl rs (.bl _)⟩
    | _ => cases q
  | _ => cases r1 <;> cases q
theorem op_catT0 : OpR X (binaryOp .Add) (fun x y H Q => ∃ a b ys, x = .ref a ∧ y = .ref b ∧ SqT X.K H a [] ∧ SqT X.K H b ys ∧ Q (.ref b) H) := by
  rintro pins s σ H x y v u Q I rx ry ⟨a, b, ys, e1, e2, ha, hb, q⟩
  subst e1; subst e2
  cases rx
  cases ry
  obtain ⟨its, r1, p1, _⟩ := I.tuple ha
  obtain ⟨its2, r2, p2, _⟩ := I.tuple hb
  cases r1
  obtain ⟨⟨cls, dd, data, sl⟩, ho, hc, n, hd⟩ := id p1
  obtain ⟨⟨cls2, dd2, data2, sl2⟩, ho2, hc2, n2, hd2⟩ := id p2
  simp only at hc hd hc2 hd2
  subst hc hd hc2 hd2
  exact concat_meets ⟨_, ho, rfl⟩ ⟨_, ho2, rfl⟩ noFill_tuple_add seq_tuple_add PySem.F.slot_tuple_add PySem.F.entry_tuple_add (PySem.F.args_tuple_add_2 _ _) (tuple_addW0 a b _ _ n n2 dd dd2 sl sl2 (by simp)) ⟨ho, ho2, ⟨.ref b, H, I, rfl, q⟩⟩
theorem op_addD : OpR X (binaryOp .Add) (rD X.K addD) := by
  refine OpR_imp (op_add.or (op_add_str.or (op_catT.or (op_cat.or op_catT0)))) ?_
  rintro x y H Q ⟨ρ, mh, dx, dy, d, mh', q, rs, rx, ry, co⟩
  cases rx with
  | int i =>
    cases ry with
    | int j => cases q; exact .inl ⟨i, j, rfl, rfl, co H ρ _ Ev.refl rs (.int _)⟩
    | _ => cases q
  | str i =>
    cases ry with
    | str j =>
      have q : (if i.length + j.length ≤ sizeLine then some (D.str (i ++ j), mh) else none) = some (d, mh') := q
      split at q
      · rename_i hz
        cases q; exact .inr (.inl ⟨i, j, rfl, rfl, hz, co H ρ _ Ev.refl rs (.str _)⟩)
      · cases q
    | _ => cases q
  | @tup xs a us s1 r1 =>
    cases ry with
    | @tup ys b ws s2 r2 =>
      have q : (if xs.length + ys.length ≤ sizeLine then some (D.tup (xs ++ ys), mh) else none) = some (d, mh') := q
      split at q
      · rename_i hz
        cases q
        by_cases hne : xs = []
        · subst hne
          cases r1
          exact .inr (.inr (.inr (.inr ⟨a, b, ws, rfl, rfl, s1, s2, co H ρ _ Ev.refl rs (.tup s2 r2)⟩)))
        · refine .inr (.inr (.inl ⟨a, b, us, ws, rfl, rfl, s1, s2, fun z => hne ?_, by rw [← r1.length, ← r2.length]; exact hz, ?_⟩))
          · rw [z] at r1; cases r1; rfl
          · refine ⟨fun z => ?_, fun z => Co.newT rs (r1.append r2) co⟩
            subst z
            cases r2
            exact co H ρ _ Ev.refl rs (.tup s1 (by rw [List.append_nil]; exact r1))
      · cases q
    | _ => cases q
  | @ref n a ha =>
    cases ry with
    | @ref m b hb =>
      have q : (match mh[n]?, mh[m]? with
        | some (.lst xs), some (.lst ys) => if xs.length + ys.length ≤ sizeLine then some (D.ref mh.length, mh ++ [.lst (xs ++ ys)]) else none
        | _, _ => none) = some (d, mh') := q
      split at q
      · rename_i xs ys e1 e2
        split at q
        · rename_i hz
          cases q
          obtain ⟨a2, h1, us, g1, r1⟩ := rs.at e1
          obtain ⟨b2, h2, ws, g2, r2⟩ := rs.at e2
          rw [ha] at h1
          rw [hb] at h2
          cases h1
          cases h2
          exact .inr (.inr (.inr (.inl ⟨a, b, us, ws, rfl, rfl, g1, g2, by rw [← r1.length, ← r2.length]; exact hz, Co.newL rs (r1.append r2) co⟩)))
        · cases q
      · cases q
    | _ => cases q
  | _ => cases q
end
section
variable {X : Cx}
theorem CallR_imp {f : Value} {r r' : List V → Hp → VK → Prop} (h : CallR X f r) (i : ∀ xs H Q, r' xs H Q → r xs H Q) : CallR X f r' := fun pins s σ H xs us Q I rx q => h pins s σ H xs us Q I rx (i xs H Q q)
theorem IxR_imp {r r' : R2} (h : IxR X r) (i : ∀ x y H Q, r' x y H Q → r x y H Q) : IxR X r' := fun a b pins s σ H x y v u Q I rx ry q hs => h a b pins s σ H x y v u Q I rx ry (i x y H Q q) hs
theorem SlR_imp {r r' : V → Option Int → Option Int → Hp → VK → Prop} (h : SlR X r) (i : ∀ x lo hi H Q, r' x lo hi H Q → r x lo hi H Q) : SlR X r' := fun pins s σ H x v vl vu lo hi sl Q I rx hs pl pu q => h pins s σ H x v vl vu lo hi sl Q I rx hs pl pu (i x lo hi H Q q)
noncomputable def seqD : D → MH → Option (List D)
  | .tup ds, _ => some ds
  | .ref n, mh => match mh[n]? with | some o => some o.items | none => none
  | .rol ds, _ => some ds
  | _, _ => none
theorem seqD_ok {K : PySem.W.Frag} {H : Hp} {ρ : List Addr} {mh : MH} {d : D} {v : V} {ds : List D} (rs : RS K H ρ mh) (r : RD K H ρ d v) (e : seqD d mh = some ds) : ∃ p xs, v = .ref p ∧ (SqL K H p xs ∨ SqT K H p xs) ∧ RDs K H ρ ds xs := by
  cases r with
  | tup s r => cases e; exact ⟨_, _, rfl, .inr s, r⟩
  | rol s r => cases e; exact ⟨_, _, rfl, .inl s.sq, r⟩
  | @ref n a h =>
    have e : (match mh[n]? with | some o => some o.items | none => none) = some ds := e
    split at e
    · rename_i o eo
      cases e
      obtain ⟨a', ha, ro⟩ := rs.at eo
      rw [h] at ha
      cases ha
      obtain ⟨xs, q, r⟩ := ro.read
      exact ⟨_, xs, rfl, .inl q, r⟩
    · cases e
  | _ => cases e
theorem atI_rds {K : PySem.W.Frag} {H : Hp} {ρ : List Addr} {ds : List D} {xs : List V} {i : Int} {d : D} (r : RDs K H ρ ds xs) (e : atI ds i = some d) : ∃ v, atI xs i = some v ∧ RD K H ρ d v := by
  unfold atI at e ⊢
  rw [← r.length]
  cases q : ixN ds.length i with
  | none => rw [q] at e; cases e
  | some j =>
    rw [q] at e
    exact r.get e
noncomputable def ixD : D → D → MH → Option (D × MH)
  | .str z, .int i, mh => if z.length ≤ sizeLine then (match atI z.cps.toList i with | some c => some (.str ⟨#[c]⟩, mh) | none => none) else none
  | x, .int i, mh => match seqD x mh with
    | some ds => (match atI ds i with | some d => some (d, mh) | none => none)
    | none => none
  | _, _, _ => none
theorem ix_D : IxR X (rD X.K ixD) := by
  refine IxR_imp (ix_seq (X := X)) ?_
  rintro x y H Q ⟨ρ, mh, dx, dy, d, mh', q, rs, rx, ry, co⟩
  have seq : ∀ i : Int, y = .int i → (match seqD dx mh with | some ds => (match atI ds i with | some d => some (d, mh) | none => none) | none => none) = some (d, mh') → rIx X.K x y H Q := fun i ey q => by
    split at q
    · rename_i ds e1
      split at q
      · rename_i d' e2
        cases q
        obtain ⟨p, xs, rfl, hq, r⟩ := seqD_ok rs rx e1
        obtain ⟨v, e3, r3⟩ := atI_rds r e2
        rcases hq with hq | hq
        · exact .inl ⟨p, xs, i, v, rfl, ey, hq, e3, co H ρ v Ev.refl rs r3⟩
        · exact .inr (.inl ⟨p, xs, i, v, rfl, ey, hq, e3, co H ρ v Ev.refl rs r3⟩)
      · cases q
    · cases q
  cases ry with
  | int i =>
    cases rx with
    | str z =>
      have q : (if z.length ≤ sizeLine then (match atI z.cps.toList i with | some c => some (D.str ⟨#[c]⟩, mh) | none => none) else none) = some (d, mh') := q
      split at q
      · rename_i hz
        split at q
        · rename_i c ec
          cases q
          exact .inr (.inr ⟨z, i, c, rfl, rfl, hz, ec, co H ρ _ Ev.refl rs (.str _)⟩)
        · cases q
      · cases q
    | non => exact seq i rfl q
    | bl b => exact seq i rfl q
    | int j => exact seq i rfl q
    | tup s r => exact seq i rfl q
    | ref h => exact seq i rfl q
    | rol s r => exact seq i rfl q
    | obj n s l r => exact seq i rfl q
  | non => cases rx <;> cases q
  | bl b => cases rx <;> cases q
  | str s => cases rx <;> cases q
  | tup s r => cases rx <;> cases q
  | ref h => cases rx <;> cases q
  | rol s r => cases rx <;> cases q
  | obj n s l r => cases rx <;> cases q
noncomputable def cutD {α : Type} (xs : List α) (lo hi : Option Int) : List α := (xs.drop (HT.sIx xs.length 0 lo)).take (HT.sIx xs.length xs.length hi - HT.sIx xs.length 0 lo)
theorem cut_rds {K : PySem.W.Frag} {H : Hp} {ρ : List Addr} {ds : List D} {xs : List V} {lo hi : Option Int} (r : RDs K H ρ ds xs) : RDs K H ρ (cutD ds lo hi) (cutV xs lo hi) := by
  unfold cutD cutV
  rw [r.length]
  exact (r.drop _).take _
theorem getItem_tuple_whole {prog : Program} {w : World} {A : Around} {E : Value → Shared → Prop} {s : Shared} {t sl : Addr} {items : Array Value} {vl vu : Value} {lo hi : Option Int} {Q : Value → Shared → Prop} (ht : IsTup s.heap t items) (hs : s.heap.IsSliceOf sl vl vu .none) (pl : IsPart vl lo) (pu : IsPart vu hi)
    (h0 : HT.sIx items.size 0 lo = 0) (h1 : HT.sIx items.size items.size hi = items.size) (h : Q (.ref t) s) : wpAny (model prog w) A (getItem (.ref t) (.ref sl)) Q E s := by
  obtain ⟨os, hos, hcs, hds⟩ := id hs
  have hTs : s.TypeIs (.ref sl) "slice" := ⟨os, hos, hcs⟩
  unfold getItem
  try with_reducible refine wpAny_holding ?_
  first | refine wpAny_bind (wpAny_pure ?_) | skip
  refine wpAny_bind (wpAny_sequenceKey ht.typeIs (by decide) ?_)
  refine wpAny_bind (wpAny_callSpecial?_slot (name := Str.ofString "__getitem__") ht.typeIs PyProof.Rows.slot_tuple_getitem
    (wpAny_call_entry PyProof.Rows.slot_tuple_getitem ht.typeIs entry_tuple_getitem ?_ (args_tuple_getitem _ _)))
  show wpAny _ _ (Builtin.Tuple.tupleItemsOf (.ref t) >>= _) _ _ s
  refine wpAny_bind (tupleItemsOf_ ht ?_)
  refine wpAny_bind (wpAny_typeOf hTs ?_)
  rw [if_pos (by decide)]
  refine wpAny_bind (HT.sliceApplied_gen hs pl pu ?_)
  rw [h0, h1]
  have hyes : ((((0 : Nat) : Int) == 0 && (1 : Int) == 1 && (items.size - 0) == items.size) = true) := by simp
  show wpAny _ _ (if (((0 : Nat) : Int) == 0 && (1 : Int) == 1 && (items.size - 0) == items.size) = true then _ else _) _ _ s
  rw [if_pos hyes]
  unfold Builtin.Tuple.tupleIsExact
  refine wpAny_bind (wpAny_bind (wpAny_typeOf ht.typeIs (wpAny_pure ?_)))
  rw [if_pos (by decide)]
  exact wpAny_bind (wpAny_rule (wpAny_pure ⟨_, rfl, wpAny_pure h⟩))
theorem sl_tupAll : SlR X (fun x lo hi H Q => ∃ a xs, x = .ref a ∧ SqT X.K H a xs ∧ HT.sIx xs.length 0 lo = 0 ∧ HT.sIx xs.length xs.length hi = xs.length ∧ Q (.ref a) H) := by
  intro pins s σ H x v vl vu lo hi sl Q I rx hs pl pu h
  obtain ⟨a, xs, rfl, hx, h0, h1, q⟩ := h
  cases rx
  obtain ⟨its, r, ht, hz⟩ := I.tuple hx
  have hlen : its.toArray.size = xs.length := by rw [List.size_toArray]; exact r.length.symm
  refine ⟨"tuple", _, PyProof.Rows.slot_tuple_getitem.lookup, ht.typeIs, ?_⟩
  exact getItem_tuple_whole ht hs pl pu (by rw [hlen]; exact h0) (by rw [hlen]; exact h1) ⟨.ref a, H, I, rfl, q⟩
noncomputable def slD (x : D) (lo hi : Option Int) (mh : MH) : Option (D × MH) := match x with
  | .tup ds => if HT.sIx ds.length 0 lo = 0 ∧ HT.sIx ds.length ds.length hi = ds.length then some (.tup ds, mh) else some (.tup (cutD ds lo hi), mh)
  | .ref n => match mh[n]? with
    | some o => some (.ref mh.length, mh ++ [.lst (cutD o.items lo hi)])
    | none => none
  | .rol ds => some (.ref mh.length, mh ++ [.lst (cutD ds lo hi)])
  | _ => none
noncomputable def rDSl (K : PySem.W.Frag) : V → Option Int → Option Int → Hp → VK → Prop := fun x lo hi H Q => ∃ ρ mh dx d mh', slD dx lo hi mh = some (d, mh') ∧ RS K H ρ mh ∧ RD K H ρ dx x ∧ Co K H ρ mh' d Q
theorem sl_D : SlR X (rDSl X.K) := by
  refine SlR_imp (sl_tupAll.or (sl_tup.or sl_list)) ?_
  rintro x lo hi H Q ⟨ρ, mh, dx, d, mh', q, rs, rx, co⟩
  cases rx with
  | @tup ds a xs s r =>
    have q : (if HT.sIx ds.length 0 lo = 0 ∧ HT.sIx ds.length ds.length hi = ds.length then some (D.tup ds, mh) else some (D.tup (cutD ds lo hi), mh)) = some (d, mh') := q
    have hl := r.length
    split at q
    · rename_i hw
      cases q
      exact .inl ⟨a, xs, rfl, s, by rw [← hl]; exact hw.1, by rw [← hl]; exact hw.2, co H ρ _ Ev.refl rs (.tup s r)⟩
    · rename_i hw
      cases q
      exact .inr (.inl ⟨a, xs, rfl, s, by rw [← hl]; exact hw, Co.newT rs (cut_rds r) co⟩)
  | @ref n a h =>
    have q : (match mh[n]? with | some o => some (D.ref mh.length, mh ++ [.lst (cutD o.items lo hi)]) | none => none) = some (d, mh') := q
    split at q
    · rename_i o eo
      cases q
      obtain ⟨a', ha, ro⟩ := rs.at eo
      rw [h] at ha
      cases ha
      obtain ⟨xs, sq, r⟩ := ro.read
      exact .inr (.inr ⟨a, xs, rfl, sq, Co.newL rs (cut_rds r) co⟩)
    · cases q
  | @rol ds a xs s r =>
    cases q
    exact .inr (.inr ⟨a, xs, rfl, s.sq, Co.newL rs (cut_rds r) co⟩)
  | _ => cases q
noncomputable def partD (m : Option (DM D)) : DM (Option Int) := match m with
  | none => DM.ret none
  | some m => m.bnd fun x => match x with | .int i => DM.ret (some i) | _ => DM.bad
noncomputable def DPart (X : Cx) (e : Option Expr) (m : Option (DM D)) : Prop := match e, m with
  | none, none => True
  | some e, some m => DE X e m
  | _, _ => False
noncomputable def tDO (K : PySem.W.Frag) (loc : Loc) (mh : MH) (r : Option (Option Int × MH)) : TO := fun σ H Q => ∃ ρ o mh', r = some (o, mh') ∧ RL K H ρ loc σ ∧ RS K H ρ mh ∧ ∀ H' ρ', Ev K H ρ H' ρ' → RS K H' ρ' mh' → Q o H'
theorem po_D {e : Option Expr} {m : Option (DM D)} (h : DPart X e m) (loc : Loc) (mh : MH) : PO X e (tDO X.K loc mh (partD m loc mh)) := by
  rintro pins s σ H Q I ⟨ρ, o, mh', q, rl, rs, co⟩
  cases e with
  | none =>
    cases m with
    | none =>
      cases q
      exact po_none pins s σ H Q I (co H ρ Ev.refl rs)
    | some m => exact h.elim
  | some e =>
    cases m with
    | none => exact h.elim
    | some m =>
      obtain ⟨x, m1, ea, q⟩ := bnd_some q
      cases x with
      | int i =>
        cases q
        refine po_some (h loc mh) pins s σ H Q I ⟨ρ, .int i, mh', ea, rl, rs, fun H' ρ' v e' rs' r' => ?_⟩
        cases r'
        exact ⟨i, rfl, co H' ρ' e' rs'⟩
      | non => cases q
      | bl b => cases q
      | str z => cases q
      | tup ds => cases q
      | ref n => cases q
      | rol ds => cases q
      | obj c ks ds => cases q
noncomputable def dSl (ma : DM D) (ml mu : Option (DM D)) : DM D := ma.bnd fun x => (partD ml).bnd fun l => (partD mu).bnd fun u => DM.lift (slD x l u)
theorem de_slice {a : Expr} {ma : DM D} {lo hi : Option Expr} {ml mu : Option (DM D)} {p2 pos : Pos} (ha : DE X a ma) (hl : DPart X lo ml) (hu : DPart X hi mu) : DE X (.Subscript a (.Slice lo hi none p2) pos) (dSl ma ml mu) := fun loc mh => by
  cases ea : ma loc mh with
  | none =>
    have : dSl ma ml mu loc mh = none := by unfold dSl DM.bnd; rw [ea]
    rw [this]; exact PE_none
  | some p =>
    obtain ⟨x, m1⟩ := p
    cases el : partD ml loc m1 with
    | none =>
      have : dSl ma ml mu loc mh = none := by unfold dSl; unfold DM.bnd; rw [ea]; dsimp only; rw [el]
      rw [this]; exact PE_none
    | some p2 =>
      obtain ⟨l, m2⟩ := p2
      refine PE_imp (pe_slice sl_D (ha loc mh) (po_D hl loc m1) (po_D hu loc m2)) ?_
      rintro σ H Q ⟨ρ, d, mh', q, rl, rs, co⟩
      obtain ⟨x', m1', ea', q⟩ := bnd_some q
      rw [ea] at ea'
      cases ea'
      obtain ⟨l', m2', el', q⟩ := bnd_some q
      rw [el] at el'
      cases el'
      obtain ⟨u, m3, eu, q⟩ := bnd_some q
      exact ⟨ρ, x, m1, ea, rl, rs, fun H1 ρ1 v e1 rs1 r1 => ⟨ρ1, l, m2, el, rl.mono e1, rs1, fun H2 ρ2 e2 rs2 => ⟨ρ2, u, m3, eu, (rl.mono e1).mono e2, rs2, fun H3 ρ3 e3 rs3 =>
        ⟨ρ3, m3, x, d, mh', q, rs3, (r1.mono e2).mono e3, co.ev (e1.trans (e2.trans e3))⟩⟩⟩⟩
end
section
variable {X : Cx}
noncomputable def lenD : List D → MH → Option (D × MH)
  | [.str z], mh => if z.length ≤ sizeLine then some (.int z.length, mh) else none
  | [x], mh => match seqD x mh with | some ds => some (.int ds.length, mh) | none => none
  | _, _ => none
theorem rds1 {K : PySem.W.Frag} {H : Hp} {ρ : List Addr} {d : D} {xs : List V} (h : RDs K H ρ [d] xs) : ∃ v, xs = [v] ∧ RD K H ρ d v := by
  cases h with
  | cons r t => cases t; exact ⟨_, rfl, r⟩
theorem call_lenD : CallR X (.builtin "len") (rDs X.K lenD) := by
  refine CallR_imp (call_len_seq.or call_len_str) ?_
  rintro xs H Q ⟨ρ, mh, ds, d, mh', q, rs, r, co⟩
  match ds, q with
  | [x], q =>
    obtain ⟨v, rfl, rx⟩ := rds1 r
    have seq : (match seqD x mh with | some ds => some (D.int ds.length, mh) | none => none) = some (d, mh') → ∃ p ys, [v] = [.ref p] ∧ (SqL X.K H p ys ∨ SqT X.K H p ys) ∧ Q (.int ys.length) H := fun q => by
      split at q
      · rename_i ds e1
        cases q
        obtain ⟨p, ys, rfl, hq, r⟩ := seqD_ok rs rx e1
        exact ⟨p, ys, rfl, hq, by rw [← r.length]; exact co H ρ _ Ev.refl rs (.int _)⟩
      · cases q
    cases rx with
    | str z =>
      have q : (if z.length ≤ sizeLine then some (D.int z.length, mh) else none) = some (d, mh') := q
      split at q
      · rename_i hz
        cases q
        exact .inr ⟨z, rfl, hz, co H ρ _ Ev.refl rs (.int _)⟩
      · cases q
    | non => exact .inl (seq q)
    | bl b => exact .inl (seq q)
    | int i => exact .inl (seq q)
    | tup s r => exact .inl (seq q)
    | ref h => exact .inl (seq q)
    | rol s r => exact .inl (seq q)
    | obj n s l r => exact .inl (seq q)
  | [], q => cases q
  | _ :: _ :: _, q => simp [lenD] at q
noncomputable def tupleD : List D → MH → Option (D × MH)
  | [x], mh => match seqD x mh with | some ds => some (.tup ds, mh) | none => none
  | _, _ => none
theorem call_tupleD : CallR X (.type "tuple") (rDs X.K tupleD) := by
  refine CallR_imp call_tuple_of ?_
  rintro xs H Q ⟨ρ, mh, ds, d, mh', q, rs, r, co⟩
  match ds, q with
  | [x], q =>
    obtain ⟨v, rfl, rx⟩ := rds1 r
    have q : (match seqD x mh with | some ds => some (D.tup ds, mh) | none => none) = some (d, mh') := q
    split at q
    · rename_i ds e1
      cases q
      obtain ⟨p, ys, rfl, hq, r⟩ := seqD_ok rs rx e1
      rcases hq with hq | hq
      · exact ⟨p, ys, rfl, .inl ⟨hq, Co.newT rs r co⟩⟩
      · exact ⟨p, ys, rfl, .inr ⟨hq, co H ρ _ Ev.refl rs (.tup hq r)⟩⟩
    · cases q
  | [], q => cases q
  | _ :: _ :: _, q => cases q
noncomputable def tyName : D → MH → Option String
  | .non, _ => some "NoneType"
  | .bl _, _ => some "bool"
  | .int _, _ => some "int"
  | .str _, _ => some "str"
  | .tup _, _ => some "tuple"
  | .ref n, mh => match mh[n]? with | some _ => some "list" | none => none
  | .rol _, _ => some "list"
  | .obj .., _ => none
noncomputable def isiB (t c : String) : Option Bool :=
  if t == c then some true else
  if ["NoneType", "bool", "int", "str", "tuple", "list"].contains t && ["bool", "int", "str", "tuple", "list", "dict"].contains c then some (t == "bool" && c == "int") else none
end
inductive Src where
  | seq (ds : List D) | lref (n : Nat) | enum (s : Src) | zip (s t : Src)
noncomputable def enumL : Nat → List D → List D
  | _, [] => []
  | i, d :: r => .tup [.int i, d] :: enumL (i + 1) r
noncomputable def Src.items : Src → MH → List D
  | .seq ds, _ => ds
  | .lref n, mh => match mh[n]? with | some o => o.items | none => []
  | .enum s, mh => enumL 0 (s.items mh)
  | .zip s t, mh => List.zipWith (fun a b => .tup [a, b]) (s.items mh) (t.items mh)
noncomputable def Src.ok : Src → MH → Bool
  | .seq _, _ => true
  | .lref n, mh => (mh[n]?).isSome
  | .enum s, mh => s.ok mh
  | .zip s t, mh => s.ok mh && t.ok mh
noncomputable def Src.get (s : Src) (mh : MH) (i : Nat) : Option D := (s.items mh)[i]?
noncomputable def Src.stop (s : Src) (mh : MH) (i : Nat) : Bool := s.ok mh && decide ((s.items mh).length ≤ i)
structure JR (K : PySem.W.Frag) (H0 : Hp) (ρ0 : List Addr) (src : Src) (J : It) : Prop where
  go : ∀ H ρ mh i d, Ev K H0 ρ0 H ρ → RS K H ρ mh → src.get mh i = some d → J.go i H ∧ ∀ x H', J.yld i H x H' → Ev K H ρ H' ρ ∧ RS K H' ρ mh ∧ RD K H' ρ d x
  stop : ∀ H ρ mh i, Ev K H0 ρ0 H ρ → RS K H ρ mh → src.stop mh i = true → J.stop i H
noncomputable def tDI (K : PySem.W.Frag) (loc : Loc) (mh : MH) (r : Option (Src × MH)) : TI := fun σ H R => ∃ ρ src mh', r = some (src, mh') ∧ RL K H ρ loc σ ∧ RS K H ρ mh ∧ ∀ H' ρ' J, Ev K H ρ H' ρ' → RS K H' ρ' mh' → JR K H' ρ' src J → R J H'
noncomputable def DI (X : Cx) (tg iter : Expr) (m : DM Src) : Prop := ∀ loc mh, PI X tg iter (tDI X.K loc mh (m loc mh))
theorem PI_imp {X : Cx} {tg e : Expr} {t t' : TI} (h : PI X tg e t) (i : ∀ σ H R, t' σ H R → t σ H R) : PI X tg e t' := fun pins s σ H R I q => h pins s σ H R I (i σ H R q)
theorem PI_none {X : Cx} {tg e : Expr} {loc : Loc} {mh : MH} : PI X tg e (tDI X.K loc mh none) := fun _ _ _ _ _ _ h => by obtain ⟨_, _, _, e, _⟩ := h; cases e
section
variable {X : Cx} {tg : Expr}
theorem JR.tup {K : PySem.W.Frag} {H0 : Hp} {ρ0 : List Addr} {ds : List D} {a : Addr} {xs : List V} (s : SqT K H0 a xs) (r : RDs K H0 ρ0 ds xs) : JR K H0 ρ0 (.seq ds) (Itt K a) where
  go := fun H ρ mh i d e rs q => by
    obtain ⟨v, e1, r1⟩ := (r.mono e).get q
    refine ⟨⟨xs, v, e.tup _ _ s, e1⟩, ?_⟩
    rintro x H' ⟨h1, h2⟩
    subst h1
    have := h2 xs (e.tup _ _ s)
    rw [e1] at this
    cases this
    exact ⟨Ev.refl, rs, r1⟩
  stop := fun H ρ mh i e rs q => by
    refine ⟨xs, e.tup _ _ s, ?_⟩
    rw [← r.length]
    have q : (true && decide (ds.length ≤ i)) = true := q
    rw [Bool.true_and] at q
    exact of_decide_eq_true q
theorem JR.lst {K : PySem.W.Frag} {H0 : Hp} {ρ0 : List Addr} {n : Nat} {a : Addr} (h : ρ0[n]? = some a) : JR K H0 ρ0 (.lref n) (Itl K a) where
  go := fun H ρ mh i d e rs q => by
    unfold Src.get Src.items at q
    cases eo : mh[n]? with
    | none => simp only [eo] at q; simp at q
    | some o =>
      simp only [eo] at q
      obtain ⟨a', ha, ro⟩ := rs.at eo
      rw [e.at h] at ha
      cases ha
      obtain ⟨xs, sq, r⟩ := ro.read
      obtain ⟨v, e1, r1⟩ := r.get q
      refine ⟨⟨xs, v, sq, e1⟩, ?_⟩
      rintro x H' ⟨h1, h2⟩
      subst h1
      have := h2 xs sq
      rw [e1] at this
      cases this
      exact ⟨Ev.refl, rs, r1⟩
  stop := fun H ρ mh i e rs q => by
    unfold Src.stop Src.ok Src.items at q
    cases eo : mh[n]? with
    | none => simp only [eo] at q; simp at q
    | some o =>
      simp only [eo] at q
      obtain ⟨a', ha, ro⟩ := rs.at eo
      rw [e.at h] at ha
      cases ha
      obtain ⟨xs, sq, r⟩ := ro.read
      exact ⟨xs, sq, by rw [← r.length]; simpa using q⟩
theorem JR.rol {K : PySem.W.Frag} {H0 : Hp} {ρ0 : List Addr} {ds : List D} {a : Addr} {xs : List V} (s : PermL K H0 a xs) (r : RDs K H0 ρ0 ds xs) : JR K H0 ρ0 (.seq ds) (Itl K a) where
  go := fun H ρ mh i d e rs q => by
    obtain ⟨v, e1, r1⟩ := (r.mono e).get q
    have sq := (e.perm _ _ s).sq
    refine ⟨⟨xs, v, sq, e1⟩, ?_⟩
    rintro x H' ⟨h1, h2⟩
    subst h1
    have := h2 xs sq
    rw [e1] at this
    cases this
    exact ⟨Ev.refl, rs, r1⟩
  stop := fun H ρ mh i e rs q => by
    refine ⟨xs, (e.perm _ _ s).sq, ?_⟩
    rw [← r.length]
    have q : (true && decide (ds.length ≤ i)) = true := q
    rw [Bool.true_and] at q
    exact of_decide_eq_true q
noncomputable def rangeL (lo : Int) (n : Nat) : List D := (List.range n).map fun (k : Nat) => D.int (lo + (k : Int))
theorem JR.rng {K : PySem.W.Frag} {H0 : Hp} {ρ0 : List Addr} {lo : Int} {n : Nat} : JR K H0 ρ0 (.seq (rangeL lo n)) (Itr lo n) where
  go := fun H ρ mh i d e rs q => by
    have q : (rangeL lo n)[i]? = some d := q
    unfold rangeL at q
    rw [List.getElem?_map] at q
    by_cases hi : i < n
    · rw [List.getElem?_range hi] at q
      cases q
      refine ⟨hi, ?_⟩
      rintro x H' ⟨h1, h2⟩
      subst h1
      subst h2
      exact ⟨Ev.refl, rs, .int _⟩
    · rw [List.getElem?_eq_none (by simp; omega)] at q
      cases q
  stop := fun H ρ mh i e rs q => by
    show n ≤ i
    have q : (true && decide ((rangeL lo n).length ≤ i)) = true := q
    rw [Bool.true_and] at q
    have := of_decide_eq_true q
    unfold rangeL at this
    simpa using this
noncomputable def srcOf : D → MH → Option Src
  | .tup ds, _ => some (.seq ds)
  | .ref n, mh => match mh[n]? with | some _ => some (.lref n) | none => none
  | .rol ds, _ => some (.seq ds)
  | _, _ => none
noncomputable def srcM (ma : DM D) : DM Src := ma.bnd fun x => fun _ mh => match srcOf x mh with | some s => some (s, mh) | none => none
theorem di_val {a : Expr} {ma : DM D} (ha : DE X a ma) : DI X tg a (srcM ma) := fun loc mh => by
  cases ea : ma loc mh with
  | none =>
    have : srcM ma loc mh = none := by unfold srcM DM.bnd; rw [ea]
    rw [this]; exact PI_none
  | some p =>
    obtain ⟨x, m1⟩ := p
    have eq : srcM ma loc mh = (match srcOf x m1 with | some s => some (s, m1) | none => none) := by unfold srcM DM.bnd; rw [ea]
    rw [eq]
    cases x with
    | tup ds =>
      rintro pins s σ H R I ⟨ρ, src, mh', q, rl, rs, co⟩
      cases q
      refine pi_tup (ha loc mh) pins s σ H R I ⟨ρ, _, _, ea, rl, rs, fun H1 ρ1 v e1 rs1 r1 => ?_⟩
      cases r1 with
      | tup s r => exact ⟨_, rfl, ⟨_, s⟩, co H1 ρ1 _ e1 rs1 (JR.tup s r)⟩
    | ref n =>
      rintro pins s σ H R I ⟨ρ, src, mh', q, rl, rs, co⟩
      cases eo : m1[n]? with
      | none => simp only [srcOf, eo] at q; cases q
      | some o =>
        simp only [srcOf, eo] at q
        cases q
        refine pi_list (ha loc mh) pins s σ H R I ⟨ρ, _, _, ea, rl, rs, fun H1 ρ1 v e1 rs1 r1 => ?_⟩
        cases r1 with
        | @ref _ a' h =>
          obtain ⟨a2, ha2, ro⟩ := rs1.at eo
          rw [h] at ha2
          cases ha2
          obtain ⟨xs, sq, r⟩ := ro.read
          exact ⟨_, rfl, ⟨xs, sq⟩, co H1 ρ1 _ e1 rs1 (JR.lst h)⟩
    | rol ds =>
      rintro pins s σ H R I ⟨ρ, src, mh', q, rl, rs, co⟩
      cases q
      refine pi_list (ha loc mh) pins s σ H R I ⟨ρ, _, _, ea, rl, rs, fun H1 ρ1 v e1 rs1 r1 => ?_⟩
      cases r1 with
      | rol s r => exact ⟨_, rfl, ⟨_, s.sq⟩, co H1 ρ1 _ e1 rs1 (JR.rol s r)⟩
    | non => exact PI_none
    | bl b => exact PI_none
    | int i => exact PI_none
    | str z => exact PI_none
    | obj c ks ds => exact PI_none
noncomputable def rng1 (ds : List D) : Option Src := match ds with
  | [.int j] => if -(2 ^ 62) ≤ j ∧ j < 2 ^ 62 then some (.seq (rangeL 0 j.toNat)) else none
  | _ => none
theorem rng1_some {ds : List D} {s : Src} (h : rng1 ds = some s) : ∃ j, ds = [.int j] ∧ -(2 ^ 62) ≤ j ∧ j < 2 ^ 62 ∧ s = .seq (rangeL 0 j.toNat) := by
  unfold rng1 at h
  split at h
  · rename_i j
    split at h
    · rename_i hj
      cases h
      exact ⟨j, rfl, hj.1, hj.2, rfl⟩
    · cases h
  · cases h
noncomputable def rngM (f : List D → Option Src) (mr : DM (List D)) : DM Src := mr.bnd fun ds => match f ds with | some s => DM.ret s | none => DM.bad
theorem rngM_some {f : List D → Option Src} {mr : DM (List D)} {loc : Loc} {mh : MH} {r : Src × MH} (h : rngM f mr loc mh = some r) : ∃ ds, mr loc mh = some (ds, r.2) ∧ f ds = some r.1 := by
  obtain ⟨ds, m1, ea, q⟩ := bnd_some h
  cases e : f ds with
  | none => rw [e] at q; cases q
  | some s => rw [e] at q; cases q; exact ⟨ds, ea, e⟩
theorem rds2 {K : PySem.W.Frag} {H : Hp} {ρ : List Addr} {d e : D} {xs : List V} (h : RDs K H ρ [d, e] xs) : ∃ v u, xs = [v, u] ∧ RD K H ρ d v ∧ RD K H ρ e u := by
  cases h with
  | cons r t =>
    cases t with
    | cons r2 t => cases t; exact ⟨_, _, rfl, r, r2⟩
theorem di_range1 {a : Expr} {mr : DM (List D)} {p pos : Pos} (hg : Gl X "range") (hm : X.mg "range" = none) (ha : DA X [a] mr) (hs : starEach [a] X.env = [(false, eval a X.env)]) : DI X tg (.Call (.Name "range" p) [a] [] pos) (rngM rng1 mr) := fun loc mh => by
  refine PI_imp (pi_range1 hg hm (ha loc mh) hs) ?_
  rintro σ H R ⟨ρ, src, mh', q, rl, rs, co⟩
  obtain ⟨ds, ea, q⟩ := rngM_some q
  refine ⟨ρ, ds, mh', ea, rl, rs, fun H1 ρ1 vs e1 rs1 r1 => ?_⟩
  obtain ⟨j, rfl, h1, h2, e⟩ := rng1_some q
  obtain ⟨v, rfl, rv⟩ := rds1 r1
  cases rv
  have e : src = .seq (rangeL 0 j.toNat) := e
  subst e
  exact ⟨j, rfl, h1, h2, co H1 ρ1 _ e1 rs1 JR.rng⟩
end
inductive Fl where
  | nx | bk | ct | rt (d : D)
noncomputable abbrev SM := Loc → MH → Option (Fl × Loc × MH)
noncomputable def CoS (K : PySem.W.Frag) (H : Hp) (ρ : List Addr) (f : Fl) (loc' : Loc) (mh' : MH) (N : Ends) : Prop := match f with
  | .nx => ∀ H' ρ' σ', Ev K H ρ H' ρ' → RS K H' ρ' mh' → RL K H' ρ' loc' σ' → N.nx σ' H'
  | .bk => ∀ H' ρ' σ', Ev K H ρ H' ρ' → RS K H' ρ' mh' → RL K H' ρ' loc' σ' → N.bk σ' H'
  | .ct => ∀ H' ρ' σ', Ev K H ρ H' ρ' → RS K H' ρ' mh' → RL K H' ρ' loc' σ' → N.ct σ' H'
  | .rt d => ∀ H' ρ' v, Ev K H ρ H' ρ' → RS K H' ρ' mh' → RD K H' ρ' d v → N.rt v H'
theorem CoS.ev {K : PySem.W.Frag} {H H1 : Hp} {ρ ρ1 : List Addr} {f : Fl} {loc' : Loc} {mh' : MH} {N : Ends} (e : Ev K H ρ H1 ρ1) (c : CoS K H ρ f loc' mh' N) : CoS K H1 ρ1 f loc' mh' N := by
  cases f with
  | nx => exact fun H' ρ' σ' e' rs r => c H' ρ' σ' (e.trans e') rs r
  | bk => exact fun H' ρ' σ' e' rs r => c H' ρ' σ' (e.trans e') rs r
  | ct => exact fun H' ρ' σ' e' rs r => c H' ρ' σ' (e.trans e') rs r
  | rt d => exact fun H' ρ' σ' e' rs r => c H' ρ' σ' (e.trans e') rs r
noncomputable def tS (K : PySem.W.Frag) (m : SM) : TS := fun N σ H => ∃ loc mh ρ f loc' mh', m loc mh = some (f, loc', mh') ∧ RL K H ρ loc σ ∧ RS K H ρ mh ∧ CoS K H ρ f loc' mh' N
noncomputable def DS (X : Cx) (st : Stmt) (m : SM) : Prop := PS X st (tS X.K m)
noncomputable def DSs (X : Cx) (sts : List Stmt) (m : SM) : Prop := PSs X sts (tS X.K m)
theorem PS_imp {X : Cx} {st : Stmt} {t t' : TS} (h : PS X st t) (i : ∀ N σ H, t' N σ H → t N σ H) : PS X st t' := fun pins s σ H N I q => h pins s σ H N I (i N σ H q)
theorem PSs_imp {X : Cx} {st : List Stmt} {t t' : TS} (h : PSs X st t) (i : ∀ N σ H, t' N σ H → t N σ H) : PSs X st t' := fun pins s σ H N I q => h pins s σ H N I (i N σ H q)
noncomputable def SM.bad : SM := fun _ _ => none
theorem ds_bad {X : Cx} {st : Stmt} : DS X st SM.bad := fun _ _ _ _ _ _ h => by obtain ⟨_, _, _, _, _, _, e, _⟩ := h; cases e
noncomputable def tDx (K : PySem.W.Frag) (m : DM D) : TE := fun σ H Q => ∃ loc mh, tD K loc mh (m loc mh) σ H Q
noncomputable def tTx (K : PySem.W.Frag) (m : DM Bool) : TT := fun σ H Q => ∃ loc mh, tDT K loc mh (m loc mh) σ H Q
noncomputable def tIx (K : PySem.W.Frag) (m : DM Src) : TI := fun σ H R => ∃ loc mh, tDI K loc mh (m loc mh) σ H R
theorem DE.x {X : Cx} {e : Expr} {m : DM D} (h : DE X e m) : PE X e (tDx X.K m) := fun pins s σ H Q I ⟨loc, mh, q⟩ => h loc mh pins s σ H Q I q
theorem DT.x {X : Cx} {e : Expr} {m : DM Bool} (h : DT X e m) : PT X e (tTx X.K m) := fun pins s σ H Q I ⟨loc, mh, q⟩ => h loc mh pins s σ H Q I q
theorem DI.x {X : Cx} {tg e : Expr} {m : DM Src} (h : DI X tg e m) : PI X tg e (tIx X.K m) := fun pins s σ H Q I ⟨loc, mh, q⟩ => h loc mh pins s σ H Q I q
section
variable {X : Cx} {st : Stmt} {sts : List Stmt} {m m1 m2 : SM} {e : Expr} {me : DM D} {pos : Pos}
noncomputable def SM.nxt : SM := fun loc mh => some (.nx, loc, mh)
noncomputable def seqS (m1 m2 : SM) : SM := fun loc mh => match m1 loc mh with
  | some (.nx, l, h) => m2 l h
  | r => r
theorem dss_nil : DSs X [] SM.nxt := by
  refine PSs_imp pss_nil ?_
  rintro N σ H ⟨loc, mh, ρ, f, loc', mh', q, rl, rs, co⟩
  cases q
  exact co H ρ σ Ev.refl rs rl
theorem dss_cons (h1 : DS X st m1) (h2 : DSs X sts m2) : DSs X (st :: sts) (seqS m1 m2) := by
  refine PSs_imp (pss_cons h1 h2) ?_
  rintro N σ H ⟨loc, mh, ρ, f, loc', mh', q, rl, rs, co⟩
  unfold seqS at q
  split at q
  · rename_i l h e1
    exact ⟨loc, mh, ρ, .nx, l, h, e1, rl, rs, fun H1 ρ1 σ1 ev1 rs1 rl1 => ⟨l, h, ρ1, f, loc', mh', q, rl1, rs1, co.ev ev1⟩⟩
  · rename_i r hne
    refine ⟨loc, mh, ρ, f, loc', mh', q, rl, rs, ?_⟩
    cases f with
    | nx => exact absurd q (hne _ _)
    | bk => exact co
    | ct => exact co
    | rt d => exact co
theorem ds_pass : DS X (.Pass pos) SM.nxt := by
  refine PS_imp ps_pass ?_
  rintro N σ H ⟨loc, mh, ρ, f, loc', mh', q, rl, rs, co⟩
  cases q
  exact co H ρ σ Ev.refl rs rl
theorem ds_break : DS X (.Break pos) (fun loc mh => some (.bk, loc, mh)) := by
  refine PS_imp ps_break ?_
  rintro N σ H ⟨loc, mh, ρ, f, loc', mh', q, rl, rs, co⟩
  cases q
  exact co H ρ σ Ev.refl rs rl
theorem ds_continue : DS X (.Continue pos) (fun loc mh => some (.ct, loc, mh)) := by
  refine PS_imp ps_continue ?_
  rintro N σ H ⟨loc, mh, ρ, f, loc', mh', q, rl, rs, co⟩
  cases q
  exact co H ρ σ Ev.refl rs rl
noncomputable def retS (me : DM D) : SM := fun loc mh => match me loc mh with | some (d, mh') => some (.rt d, loc, mh') | none => none
theorem ds_ret (he : DE X e me) : DS X (.Return (some e) pos) (retS me) := by
  refine PS_imp (ps_ret he.x) ?_
  rintro N σ H ⟨loc, mh, ρ, f, loc', mh', q, rl, rs, co⟩
  unfold retS at q
  split at q
  · rename_i d h1 ee
    cases q
    exact ⟨loc, mh, ρ, d, _, ee, rl, rs, co⟩
  · cases q
theorem ds_retN : DS X (.Return none pos) (fun loc mh => some (.rt .non, loc, mh)) := by
  refine PS_imp ps_retN ?_
  rintro N σ H ⟨loc, mh, ρ, f, loc', mh', q, rl, rs, co⟩
  cases q
  exact co H ρ _ Ev.refl rs .non
noncomputable def dropS (me : DM D) : SM := fun loc mh => match me loc mh with | some (_, mh') => some (.nx, loc, mh') | none => none
theorem ds_expr (he : DE X e me) (hs : swapsWith e none pos.line X.env = pure false) : DS X (.Expr e pos) (dropS me) := by
  refine PS_imp (ps_expr he.x hs) ?_
  rintro N σ H ⟨loc, mh, ρ, f, loc', mh', q, rl, rs, co⟩
  unfold dropS at q
  split at q
  · rename_i d h1 ee
    cases q
    exact ⟨loc, mh, ρ, d, _, ee, rl, rs, fun H' ρ' v e' rs' r' => co H' ρ' σ e' rs' (rl.mono e')⟩
  · cases q
noncomputable def ifS (t : DM Bool) (m1 m2 : SM) : SM := fun loc mh => match t loc mh with
  | some (k, h) => if k = true then m1 loc h else m2 loc h
  | none => none
theorem ds_if {c : Expr} {a b : List Stmt} {t : DM Bool} (hc : DT X c t) (ha : DSs X a m1) (hb : DSs X b m2) : DS X (.If c a b pos) (ifS t m1 m2) := by
  refine PS_imp (ps_if hc.x ha hb) ?_
  rintro N σ H ⟨loc, mh, ρ, f, loc', mh', q, rl, rs, co⟩
  unfold ifS at q
  split at q
  · rename_i k h ek
    refine ⟨loc, mh, ρ, k, h, ek, rl, rs, fun H1 ρ1 e1 rs1 => ?_⟩
    cases k with
    | true => exact iteT ⟨loc, h, ρ1, f, loc', mh', by rw [if_pos rfl] at q; exact q, rl.mono e1, rs1, co.ev e1⟩
    | false => exact iteF ⟨loc, h, ρ1, f, loc', mh', by rw [if_neg Bool.false_ne_true] at q; exact q, rl.mono e1, rs1, co.ev e1⟩
  · cases q
noncomputable abbrev GM := D → Loc → MH → Option (Loc × MH)
noncomputable def KeptBut (ws : List Nat) (σ σ' : St) : Prop := σ'.length = σ.length ∧ ∀ i, i ∉ ws → σ'[i]? = σ[i]?
noncomputable def tG (K : PySem.W.Frag) (ws : List Nat) (g : GM) : TG := fun v σ H Q => ∃ d loc mh ρ loc' mh', g d loc mh = some (loc', mh') ∧ RL K H ρ loc σ ∧ RS K H ρ mh ∧ RD K H ρ d v ∧
  ∀ H' ρ' σ', Ev K H ρ H' ρ' → RS K H' ρ' mh' → RL K H' ρ' loc' σ' → KeptBut ws σ σ' → Q σ' H'
noncomputable def DG (X : Cx) (tg : Expr) (ws : List Nat) (g : GM) : Prop := PG X tg (tG X.K ws g)
theorem PG_imp {tg : Expr} {t t' : TG} (h : PG X tg t) (i : ∀ v σ H Q, t' v σ H Q → t v σ H Q) : PG X tg t' := fun pins s σ H v u Q I r q => h pins s σ H v u Q I r (i v σ H Q q)
noncomputable def gSet (i : Nat) : GM := fun d loc mh => some (loc.set i (some d), mh)
theorem KeptBut.set {σ : St} {i : Nat} {o : Option V} : KeptBut [i] σ (σ.set i o) := ⟨List.length_set, fun j hj => List.getElem?_set_ne (fun e => hj (by simp [e]))⟩
theorem dg_name {i : Nat} {x : Str} (hN : X.N.Nodup) (hi : X.N[i]? = some x) (hx : L2.Loc X.env.scope x) (hf : X.fn x = true ∨ X.env.scope.names.lookup x = some .local) : DG X (.Name x pos) [i] (gSet i) := by
  refine PG_imp (pg_name hN hi hx hf) ?_
  rintro v σ H Q ⟨d, loc, mh, ρ, loc', mh', q, rl, rs, r, co⟩
  cases q
  exact co H ρ _ Ev.refl rs (rl.set r) KeptBut.set
noncomputable def setAll : List Nat → List D → Loc → Loc
  | i :: is, d :: ds, loc => setAll is ds (loc.set i (some d))
  | _, _, loc => loc
noncomputable def setAllV : List Nat → List V → St → St
  | i :: is, d :: ds, loc => setAllV is ds (loc.set i (some d))
  | _, _, loc => loc
noncomputable def gNs : List Nat → TGs
  | [] => gNil
  | i :: is => gCons (gName i) (gNs is)
theorem gNs_of : ∀ (is : List Nat) (vs : List V) (σ : St) (H : Hp) (Q : St → Hp → Prop), vs.length = is.length → Q (setAllV is vs σ) H → gNs is vs σ H Q
  | [], [], _, _, _, _, q => ⟨rfl, q⟩
  | [], _ :: _, _, _, _, h, _ => by simp at h
  | _ :: _, [], _, _, _, h, _ => by simp at h
  | i :: is, v :: vs, σ, H, Q, h, q => ⟨v, vs, rfl, gNs_of is vs _ H Q (by simpa using h) q⟩
theorem setAll_rl {K : PySem.W.Frag} {H : Hp} {ρ : List Addr} : ∀ (is : List Nat) {ds : List D} {vs : List V} {loc : Loc} {σ : St}, RDs K H ρ ds vs → RL K H ρ loc σ → RL K H ρ (setAll is ds loc) (setAllV is vs σ)
  | [], _, _, _, _, .nil, rl => rl
  | [], _, _, _, _, .cons _ _, rl => rl
  | _ :: _, _, _, _, _, .nil, rl => rl
  | i :: is, _, _, _, _, .cons r t, rl => setAll_rl is t (rl.set r)
theorem setAll_kept : ∀ (is : List Nat) (vs : List V) (σ : St), KeptBut is σ (setAllV is vs σ)
  | [], [], _ => ⟨rfl, fun _ _ => rfl⟩
  | [], _ :: _, _ => ⟨rfl, fun _ _ => rfl⟩
  | _ :: _, [], _ => ⟨rfl, fun _ _ => rfl⟩
  | i :: is, v :: vs, σ => by
    obtain ⟨h1, h2⟩ := setAll_kept is vs (σ.set i (some v))
    refine ⟨h1.trans List.length_set, fun j hj => ?_⟩
    have hj' : ¬ (j = i) ∧ j ∉ is := by simpa using hj
    show (setAllV is vs (σ.set i (some v)))[j]? = σ[j]?
    rw [h2 j hj'.2, List.getElem?_set_ne (fun e => hj'.1 e.symm)]
noncomputable def gTupD (is : List Nat) : GM := fun d loc mh => match d with
  | .tup ds => if ds.length = is.length then some (setAll is ds loc, mh) else none
  | _ => none
theorem dg_tup {es : List Expr} {k : Nat} {is : List Nat} (hc : X.calm = true) (h : PGs X es (gNs is)) (hn : (assignEach es X.env).length = is.length) (hst : (assignEach es X.env).findIdx? (·.1) = none) : DG X (.Tuple es k pos) is (gTupD is) := by
  refine PG_imp (pg_tup hc h hn hst) ?_
  rintro v σ H Q ⟨d, loc, mh, ρ, loc', mh', q, rl, rs, r, co⟩
  cases r with
  | @tup ds a xs s r =>
    have q : (if ds.length = is.length then some (setAll is ds loc, mh) else none) = some (loc', mh') := q
    split at q
    · rename_i hl
      cases q
      exact ⟨a, xs, rfl, s, by rw [← r.length]; exact hl, gNs_of is xs σ H Q (by rw [← r.length]; exact hl) (co H ρ _ Ev.refl rs (setAll_rl is r rl) (setAll_kept is xs σ))⟩
    · cases q
  | _ => cases q
noncomputable def setIx (o i v : D) (mh : MH) : Option MH := match o, i with
  | .ref n, .int k => match mh[n]? with
    | some (.lst ds) => match ixN ds.length k with
      | some j => some (mh.set n (.lst (ds.set j v)))
      | none => none
    | _ => none
  | _, _ => none
noncomputable def gSubD (mo mi : DM D) : GM := fun v loc mh => match mo loc mh with
  | some (o, m1) => match mi loc m1 with
    | some (i, m2) => match setIx o i v m2 with
      | some m3 => some (loc, m3)
      | none => none
    | none => none
  | none => none
theorem dg_sub {o i : Expr} {mo mi : DM D} (ho : DE X o mo) (hi : DE X i mi) (ha : ∀ v, assign (.Subscript o i pos) X.env v = (do
      let ov ← holding [v] (eval o X.env)
      let iv ← holding [v, ov] (eval i X.env)
      standAt pos
      holding [v, ov, iv] (setItem ov iv v)
      release [v, ov, iv] [])) : DG X (.Subscript o i pos) [] (gSubD mo mi) := by
  refine PG_imp (pg_sub ho.x hi.x set_list ha) ?_
  rintro v σ H Q ⟨d, loc, mh, ρ, loc', mh', q, rl, rs, r, co⟩
  unfold gSubD at q
  split at q
  · rename_i od m1 eo
    split at q
    · rename_i idx m2 ei
      split at q
      · rename_i m3 es
        cases q
        refine ⟨loc, mh, ρ, od, m1, eo, rl, rs, fun H1 ρ1 v1 e1 rs1 r1 => ⟨loc, m1, ρ1, idx, m2, ei, rl.mono e1, rs1, fun H2 ρ2 v2 e2 rs2 r2 => ?_⟩⟩
        have r1' := r1.mono e2
        have r' := (r.mono e1).mono e2
        cases r1' with
        | @ref n a hn =>
          cases r2 with
          | int k =>
            have es : (match m2[n]? with | some (.lst ds) => (match ixN ds.length k with | some j => some (m2.set n (.lst (ds.set j d))) | none => none) | _ => none) = some mh' := es
            split at es
            · rename_i ds em
              split at es
              · rename_i j ej
                cases es
                obtain ⟨a', ha', xs, hx, rx⟩ := rs2.at em
                rw [hn] at ha'
                cases ha'
                refine ⟨a, xs, k, j, rfl, rfl, hx, by rw [← rx.length]; exact ej, ?_⟩
                exact co _ ρ2 σ ((e1.trans e2).trans (Ev.lst hx)) (rs2.setL hn hx (rx.set r' j)) (((rl.mono e1).mono e2).mono (Ev.lst hx)) ⟨rfl, fun _ _ => rfl⟩
              · cases es
            · cases es
          | _ => cases es
        | _ => cases r2 <;> cases es
      · cases q
    · cases q
  · cases q
noncomputable def asgS (me : DM D) (g : GM) : SM := fun loc mh => match me loc mh with
  | some (d, h) => match g d loc h with
    | some (l, h') => some (.nx, l, h')
    | none => none
  | none => none
theorem asgS_imp {ws : List Nat} {g : GM} {N : Ends} {σ : St} {H : Hp} (h : tS X.K (asgS me g) N σ H) : tAsg (tDx X.K me) (tG X.K ws g) N σ H := by
  obtain ⟨loc, mh, ρ, f, loc', mh', q, rl, rs, co⟩ := h
  unfold asgS at q
  split at q
  · rename_i d h1 ee
    split at q
    · rename_i l h2 eg
      cases q
      exact ⟨loc, mh, ρ, d, h1, ee, rl, rs, fun H1 ρ1 v e1 rs1 r1 => ⟨d, loc, h1, ρ1, _, _, eg, rl.mono e1, rs1, r1, fun H2 ρ2 σ2 e2 rs2 rl2 _ => co H2 ρ2 σ2 (e1.trans e2) rs2 rl2⟩⟩
    · cases q
  · cases q
theorem ds_asg {tg : Expr} {ws : List Nat} {g : GM} (he : DE X e me) (hg : DG X tg ws g) (hs : swapsWithSole [tg] e pos.line X.env = pure false) (hw : swappedStores [tg] e X.env = pure none) (h1 : (assignEach [tg] X.env).map (·.2) = [assign tg X.env]) : DS X (.Assign [tg] e pos) (asgS me g) :=
  PS_imp (ps_asg he.x hg hs hw h1) fun N σ H h => asgS_imp h
noncomputable def forD (src : Src) (g : GM) (body : SM) : Nat → Nat → SM
  | 0, i, loc, mh => if src.stop mh i = true then some (.nx, loc, mh) else none
  | k + 1, i, loc, mh => match src.get mh i with
    | none => if src.stop mh i = true then some (.nx, loc, mh) else none
    | some d => match g d loc mh with
      | none => none
      | some (l1, h1) => match body l1 h1 with
        | some (.nx, l, h) => forD src g body k (i + 1) l h
        | some (.ct, l, h) => forD src g body k (i + 1) l h
        | some (.bk, l, h) => some (.nx, l, h)
        | some (.rt d, l, h) => some (.rt d, l, h)
        | none => none
noncomputable def forS (mi : DM Src) (g : GM) (body : SM) : SM := fun loc mh => match mi loc mh with
  | some (src, h) => forD src g body (src.items h).length 0 loc h
  | none => none
theorem ds_for {tg iter : Expr} {body : List Stmt} {mi : DM Src} {ws : List Nat} {g : GM} {mb : SM} (hp : PassesOwn (model X.prog X.w) X.A X.env X.xe) (hc : X.calm = true) (hi : DI X tg iter mi) (hg : DG X tg ws g) (hb : DSs X body mb)
    (hs : ∀ x, foldedSetIterable iter X.env x = pure x) : DS X (.For tg iter body [] pos) (forS mi g mb) := by
  refine PS_imp (ps_for hp hc hi.x hg hb hs) ?_
  rintro N σ H ⟨loc, mh, ρ, f, loc', mh', q, rl, rs, co⟩
  unfold forS at q
  split at q
  · rename_i src h0 ei
    refine ⟨loc, mh, ρ, src, h0, ei, rl, rs, fun H1 ρ1 J e1 rs1 jr => ?_⟩
    refine ⟨fun i k σ H => ∃ ρ loc mh f loc' mh', Ev X.K H1 ρ1 H ρ ∧ RL X.K H ρ loc σ ∧ RS X.K H ρ mh ∧ forD src g mb k i loc mh = some (f, loc', mh') ∧ CoS X.K H ρ f loc' mh' N,
      ⟨_, ρ1, loc, h0, f, loc', mh', Ev.refl, rl.mono e1, rs1, q, co.ev e1⟩, ?_⟩
    rintro i k σ H ⟨ρ, loc, mh, f, loc', mh', ev, rl, rs, q, co⟩
    have stop : (if src.stop mh i = true then some (Fl.nx, loc, mh) else none) = some (f, loc', mh') → J.stop i H ∧ N.nx σ H := fun q => by
      split at q
      · rename_i hst
        cases q
        exact ⟨jr.stop H ρ mh i ev rs hst, co H ρ σ Ev.refl rs rl⟩
      · cases q
    cases k with
    | zero => exact .inl (stop q)
    | succ k =>
      simp only [forD] at q
      split at q
      · exact .inl (stop q)
      · rename_i d ed
        obtain ⟨hgo, hyld⟩ := jr.go H ρ mh i d ev rs ed
        split at q
        · cases q
        · rename_i l1 h1 eg
          refine .inr ⟨hgo, fun σ' H' => ∃ ρ' loc mh f loc' mh', Ev X.K H1 ρ1 H' ρ' ∧ RL X.K H' ρ' loc σ' ∧ RS X.K H' ρ' mh ∧ forD src g mb k (i + 1) loc mh = some (f, loc', mh') ∧ CoS X.K H' ρ' f loc' mh' N,
            fun σ' H' h => ⟨k, Nat.lt_succ_self _, h⟩, fun x H' hy => ?_⟩
          obtain ⟨ev2, rs2, rd2⟩ := hyld x H' hy
          refine ⟨d, loc, mh, ρ, l1, h1, eg, rl.mono ev2, rs2, rd2, fun H3 ρ3 σ3 ev3 rs3 rl3 _ => ?_⟩
          split at q
          · rename_i l h eb
            exact ⟨l1, h1, ρ3, .nx, l, h, eb, rl3, rs3, fun H4 ρ4 σ4 ev4 rs4 rl4 => ⟨ρ4, l, h, f, loc', mh', ev.trans (ev2.trans (ev3.trans ev4)), rl4, rs4, q, co.ev (ev2.trans (ev3.trans ev4))⟩⟩
          · rename_i l h eb
            exact ⟨l1, h1, ρ3, .ct, l, h, eb, rl3, rs3, fun H4 ρ4 σ4 ev4 rs4 rl4 => ⟨ρ4, l, h, f, loc', mh', ev.trans (ev2.trans (ev3.trans ev4)), rl4, rs4, q, co.ev (ev2.trans (ev3.trans ev4))⟩⟩
          · rename_i l h eb
            cases q
            exact ⟨l1, h1, ρ3, .bk, _, _, eb, rl3, rs3, fun H4 ρ4 σ4 ev4 rs4 rl4 => co H4 ρ4 σ4 (ev2.trans (ev3.trans ev4)) rs4 rl4⟩
          · rename_i d' l h eb
            cases q
            exact ⟨l1, h1, ρ3, .rt d', _, _, eb, rl3, rs3, fun H4 ρ4 v4 ev4 rs4 r4 => co H4 ρ4 v4 (ev2.trans (ev3.trans ev4)) rs4 r4⟩
          · cases q
  · cases q
end
noncomputable def capD (cs : List (Option Nat)) (loc : Loc) : Loc := cs.map fun o => match o with | some j => (match loc[j]? with | some d => d | none => none) | none => none
noncomputable def capV (cs : List (Option Nat)) (σ : St) : St := cs.map fun o => match o with | some j => (match σ[j]? with | some d => d | none => none) | none => none
theorem cap_rl {K : PySem.W.Frag} {H : Hp} {ρ : List Addr} {loc : Loc} {σ : St} (cs : List (Option Nat)) (h : RL K H ρ loc σ) : RL K H ρ (capD cs loc) (capV cs σ) := by
  refine ⟨by unfold capD capV; rw [List.length_map, List.length_map], fun i d e => ?_⟩
  unfold capD at e
  unfold capV
  rw [List.getElem?_map] at e ⊢
  cases q : cs[i]? with
  | none => rw [q] at e; cases e
  | some o =>
    rw [q] at e
    cases o with
    | none => simp at e
    | some j =>
      simp only [Option.map_some, Option.some.injEq] at e
      cases ej : loc[j]? with
      | none => rw [ej] at e; cases e
      | some d' =>
        rw [ej] at e
        have e : d' = some d := e
        subst e
        obtain ⟨v, e1, r⟩ := h.2 j d ej
        exact ⟨v, by simp only [Option.map_some, e1], r⟩
structure CapOk (X : Cx) (N' : List Str) (scope : Scope) (cs : List (Option Nat)) : Prop where
  len : N'.length = cs.length
  cap : ∀ (i : Nat) (x : Str) (j : Nat), N'[i]? = some x → cs[i]? = some (some j) → scope.names.lookup x = some .free ∧ X.N[j]? = some x
theorem CapOk.to {X : Cx} {N' : List Str} {scope : Scope} {cs : List (Option Nat)} (h : CapOk X N' scope cs) (σ : St) : Cap X N' scope σ (capV cs σ) := by
  refine ⟨by unfold capV; rw [List.length_map]; exact h.len.symm, fun i x v e1 e2 => ?_⟩
  unfold capV at e2
  rw [List.getElem?_map] at e2
  cases q : cs[i]? with
  | none => rw [q] at e2; cases e2
  | some o =>
    rw [q] at e2
    cases o with
    | none => simp at e2
    | some j =>
      obtain ⟨h1, h2⟩ := h.cap i x j e1 q
      refine ⟨h1, j, h2, ?_⟩
      simp only [Option.map_some, Option.some.injEq] at e2
      cases ej : σ[j]? with
      | none => rw [ej] at e2; cases e2
      | some d' => rw [ej] at e2; have e2 : d' = some v := e2; rw [e2]
theorem kept_of {cs : List (Option Nat)} {ws : List Nat} {σ σ2 : St} (hw : ∀ i ∈ ws, ∀ j, cs[i]? ≠ some (some j)) (h : KeptBut ws (capV cs σ) σ2) : Kept (capV cs σ) σ2 := by
  refine ⟨h.1, fun i v e => ?_⟩
  rw [h.2 i fun hi => ?_]
  · exact e
  · unfold capV at e
    rw [List.getElem?_map] at e
    cases q : cs[i]? with
    | none => rw [q] at e; cases e
    | some o =>
      cases o with
      | none => rw [q] at e; simp at e
      | some j => exact hw i hi j q
noncomputable def compD (src : Src) (g : GM) (tc : DM Bool) (me : DM D) (loc : Loc) : Nat → Nat → List D → MH → Option (List D × MH)
  | 0, i, acc, mh => if src.stop mh i = true then some (acc, mh) else none
  | k + 1, i, acc, mh => match src.get mh i with
    | none => if src.stop mh i = true then some (acc, mh) else none
    | some d => match g d loc mh with
      | none => none
      | some (l1, h1) => match tc l1 h1 with
        | none => none
        | some (c, h2) => if c = true then (match me l1 h2 with
            | some (y, h3) => if acc.length < sizeLine then compD src g tc me loc k (i + 1) (acc ++ [y]) h3 else none
            | none => none) else compD src g tc me loc k (i + 1) acc h2
noncomputable def compM (mi : DM Src) (cs : List (Option Nat)) (g : GM) (tc : DM Bool) (me : DM D) : DM D := fun loc mh => match mi loc mh with
  | some (src, h) => match compD src g tc me (capD cs loc) (src.items h).length 0 [] h with
    | some (ds, h') => some (.ref h'.length, h' ++ [.lst ds])
    | none => none
  | none => none
section
variable {X : Cx} {N' : List Str} {scope : Scope} {cs : List (Option Nat)} {ws : List Nat} {mi : DM Src} {g : GM} {tc : DM Bool} {me : DM D} {elt target iter : Expr} {ifs : List Expr} {pos : Pos}
theorem comp_imp (hcap : CapOk X N' scope cs) (hw : ∀ i ∈ ws, ∀ j, cs[i]? ≠ some (some j)) {σ : St} {H : Hp} {Q : VK} (h : tDx X.K (compM mi cs g tc me) σ H Q) :
    tComp X N' scope (tIx X.K mi) (tG X.K ws g) (tTx X.K tc) (tDx X.K me) σ H Q := by
  obtain ⟨loc, mh, ρ, d, mh', q, rl, rs, co⟩ := h
  unfold compM at q
  split at q
  · rename_i src h0 ei
    split at q
    · rename_i ds h1 ec
      cases q
      refine ⟨loc, mh, ρ, src, h0, ei, rl, rs, fun H1 ρ1 J e1 rs1 jr => ?_⟩
      refine ⟨capV cs σ, hcap.to σ, fun i k acc H => ∃ ρ accD mh, Ev X.K H1 ρ1 H ρ ∧ RS X.K H ρ mh ∧ RDs X.K H ρ accD acc ∧ compD src g tc me (capD cs loc) k i accD mh = some (ds, h1), ⟨_, ρ1, [], h0, Ev.refl, rs1, .nil, ec⟩, ?_⟩
      have co1 := co.ev e1
      have rl1 := cap_rl cs (rl.mono e1)
      rintro i k acc H ⟨ρ, accD, mh, ev, rs, ra, q⟩
      have stop : (if src.stop mh i = true then some (accD, mh) else none) = some (ds, h1) → J.stop i H ∧ ∀ p, H p = none → Q (.ref p) (upd H p (.lst acc)) := fun q => by
        split at q
        · rename_i hst
          cases q
          exact ⟨jr.stop H ρ _ i ev rs hst, Co.newL rs ra (co1.ev ev)⟩
        · cases q
      cases k with
      | zero => exact .inl (stop q)
      | succ k =>
        simp only [compD] at q
        split at q
        · exact .inl (stop q)
        · rename_i d ed
          obtain ⟨hgo, hyld⟩ := jr.go H ρ mh i d ev rs ed
          split at q
          · cases q
          · rename_i l1 h2 eg
            refine .inr ⟨hgo, fun acc' H' => ∃ ρ accD mh, Ev X.K H1 ρ1 H' ρ ∧ RS X.K H' ρ mh ∧ RDs X.K H' ρ accD acc' ∧ compD src g tc me (capD cs loc) k (i + 1) accD mh = some (ds, h1), fun acc' H' h => ⟨k, Nat.lt_succ_self _, h⟩, fun x H' hy => ?_⟩
            obtain ⟨ev2, rs2, rd2⟩ := hyld x H' hy
            refine ⟨d, capD cs loc, mh, ρ, l1, h2, eg, rl1.mono (ev.trans ev2), rs2, rd2, fun H3 ρ3 σ3 ev3 rs3 rl3 kb => ⟨kept_of hw kb, ?_⟩⟩
            split at q
            · cases q
            · rename_i c h3 et
              refine ⟨l1, h2, ρ3, c, h3, et, rl3, rs3, fun H4 ρ4 ev4 rs4 => ?_⟩
              have evA := ev2.trans (ev3.trans ev4)
              cases c with
              | false =>
                rw [if_neg Bool.false_ne_true] at q
                exact iteF ⟨ρ4, accD, h3, ev.trans evA, rs4, ra.mono evA, q⟩
              | true =>
                rw [if_pos rfl] at q
                split at q
                · rename_i y h4 ey
                  split at q
                  · rename_i hz
                    refine iteT ⟨by rw [← ra.length]; exact hz, l1, h3, ρ4, y, h4, ey, rl3.mono ev4, rs4, fun H5 ρ5 v ev5 rs5 r5 => ⟨ρ5, accD ++ [y], h4, ev.trans (evA.trans ev5), rs5, (ra.mono (evA.trans ev5)).append (.cons r5 .nil), q⟩⟩
                  · cases q
                · cases q
    · cases q
  · cases q
noncomputable def DIf (X : Cx) (ifs : List Expr) (m : DM Bool) : Prop := PIf X ifs (tTx X.K m)
theorem dif_nil : DIf X [] (DM.ret true) := by
  rintro pins s σ H Q I ⟨loc, mh, ρ, b, mh', q, rl, rs, co⟩
  cases q
  exact pif_nil pins s σ H Q I (co H ρ Ev.refl rs)
theorem dif_one {c : Expr} {m : DM Bool} (h : DT X c m) : DIf X [c] m := pif_one h.x
theorem de_comp (hc : X.calm = true) (S : CompOk X scope) (hcap : CapOk X N' scope cs) (hw : ∀ i ∈ ws, ∀ j, cs[i]? ≠ some (some j)) (hit : DI X target iter mi)
    (hg : ∀ pins C cells s₀ H₀ fp, DG (cxComp X pins N' scope C cells s₀ H₀ fp) target ws g)
    (hi : ∀ pins C cells s₀ H₀ fp, DIf (cxComp X pins N' scope C cells s₀ H₀ fp) ifs tc)
    (he : ∀ pins C cells s₀ H₀ fp, DE (cxComp X pins N' scope C cells s₀ H₀ fp) elt me)
    (hs : ∀ x, foldedSetIterable iter X.env x = pure x) : DE X (.ListComp elt [⟨target, iter, ifs, 0⟩] scope pos) (compM mi cs g tc me) := fun loc mh =>
  PE_imp (pe_comp (N' := N') (g := tG X.K ws g) (tc := tTx X.K tc) (te := tDx X.K me) hc S hit.x (fun p C c s h f => hg p C c s h f) (fun p C c s h f => hi p C c s h f) (fun p C c s h f => (he p C c s h f).x) hs) fun σ H Q h => comp_imp hcap hw ⟨loc, mh, h⟩
theorem ds_setComp {y : Str} {py spos : Pos} {wy : List Nat} {gy : GM} (hc : X.calm = true) (S : CompOk X scope) (hcap : CapOk X N' scope cs) (hw : ∀ i ∈ ws, ∀ j, cs[i]? ≠ some (some j)) (hit : DI X target iter mi)
    (hg : ∀ pins C cells s₀ H₀ fp, DG (cxComp X pins N' scope C cells s₀ H₀ fp) target ws g)
    (hi : ∀ pins C cells s₀ H₀ fp, DIf (cxComp X pins N' scope C cells s₀ H₀ fp) ifs tc)
    (he : ∀ pins C cells s₀ H₀ fp, DE (cxComp X pins N' scope C cells s₀ H₀ fp) elt me) (hgy : DG X (.Name y py) wy gy)
    (hsw : swapsWith (.ListComp elt [⟨target, iter, ifs, 0⟩] scope pos) (some (.Name y py)) spos.line X.env = pure true)
    (hs : ∀ x, foldedSetIterable iter X.env x = pure x) : DS X (.Assign [.Name y py] (.ListComp elt [⟨target, iter, ifs, 0⟩] scope pos) spos) (asgS (compM mi cs g tc me) gy) :=
  PS_imp (ps_setComp (N' := N') (g := tG X.K ws g) (tc := tTx X.K tc) (te := tDx X.K me) hc S hit.x (fun p C c s h f => hg p C c s h f) (fun p C c s h f => hi p C c s h f) (fun p C c s h f => (he p C c s h f).x) hgy hsw hs) fun N σ H h => comp_imp hcap hw (asgS_imp h)
end
noncomputable def spD (K : PySem.W.Frag) (n : Nat) (f : List D → MH → Option (D × MH)) : Sp := fun vs H Q _ => vs.length = n ∧ rDs K f vs H Q
section
variable {X : Cx}
theorem de_call {CX : CXT} {k : Nat} {fa : Addr} {fd : FuncData} {ps : List Str} {f : List D → MH → Option (D × MH)} {x : Str} {p pos : Pos} {a : Expr} {es : List Expr} {mr : DM (List D)} {E : XK}
    (F : FnOk X.prog X.w X.K X.mg X.base CX k fa fd ps (spD X.K ps.length f)) (hr : Room k X.A) (hg : Gl X x) (hm : X.mg x = some (.ref fa)) (hk : PySem.W.keepIn X.K (.ref fa) = true) (hb : Binds X.K fd ps []) (hx : Passes CX X E)
    (ha : DA X (a :: es) mr) (hf : ∀ ds mh r, f ds mh = some r → ds.length = ps.length) (hdb : (x == ("__debug__" : Str)) = false) (he : starEach (a :: es) X.env = (false, eval a X.env) :: starEach es X.env) (hpl : (backTo pos (starEach es X.env)).any (·.1) = false) :
    DE X (.Call (.Name x p) (a :: es) [] pos) (mr.bnd fun ds => DM.lift (f ds)) := fun loc mh => by
  refine PE_imp (pe_call F hr hg hm hk hb .nil hx (ha loc mh) hdb he hpl) ?_
  rintro σ H Q ⟨ρ, d, mh', q, rl, rs, co⟩
  obtain ⟨ds, m1, ea, q⟩ := bnd_some q
  refine ⟨ρ, ds, m1, ea, rl, rs, fun H1 ρ1 vs e1 rs1 r1 => ?_⟩
  show spD X.K ps.length f (vs ++ []) H1 Q E
  rw [List.append_nil]
  exact ⟨by rw [← r1.length]; exact hf _ _ _ q, ρ1, m1, ds, d, mh', q, rs1, r1, co.ev e1⟩
theorem de_call0 {CX : CXT} {k : Nat} {fa : Addr} {fd : FuncData} {f : List D → MH → Option (D × MH)} {x : Str} {p pos : Pos} {E : XK}
    (F : FnOk X.prog X.w X.K X.mg X.base CX k fa fd [] (spD X.K 0 f)) (hr : Room k X.A) (hg : Gl X x) (hm : X.mg x = some (.ref fa)) (hk : PySem.W.keepIn X.K (.ref fa) = true) (hb : Binds X.K fd [] []) (hx : Passes CX X E) (hdb : (x == ("__debug__" : Str)) = false) :
    DE X (.Call (.Name x p) [] [] pos) (DM.lift (f [])) := fun loc mh => by
  refine PE_imp (pe_call0 F hr hg hm hk hb .nil hx hdb) ?_
  rintro σ H Q ⟨ρ, d, mh', q, rl, rs, co⟩
  exact ⟨rfl, ρ, mh, [], d, mh', q, rs, .nil, co⟩
noncomputable def isiD (c : String) (x : D) (mh : MH) : Option (D × MH) := match tyName x mh with
  | some t => match isiB t c with
    | some b => some (.bl b, mh)
    | none => none
  | none => none
end
section
variable {X : Cx} {a b c e o : Expr} {ma mb mc mo : DM D} {pos : Pos}
noncomputable def dchain (f f' : D → D → MH → Option (D × MH)) (ma mb mc : DM D) : DM D := ma.bnd fun x => mb.bnd fun y => (boolD (DM.lift (f x y))).bnd fun k => if k = true then mc.bnd fun z => DM.lift (f' y z) else DM.ret (.bl false)
theorem chain_imp {f f' : D → D → MH → Option (D × MH)} {σ : St} {H : Hp} {Q : VK} (h : tDx X.K (dchain f f' ma mb mc) σ H Q) : tChain (rD X.K f) (rD X.K f') (tDx X.K ma) (tDx X.K mb) (tDx X.K mc) σ H Q := by
  obtain ⟨loc, mh, ρ, d, mh', q, rl, rs, co⟩ := h
  obtain ⟨x, m1, ea, q⟩ := bnd_some q
  obtain ⟨y, m2, eb, q⟩ := bnd_some q
  obtain ⟨k, m3, ek, q⟩ := bnd_some q
  have ek := boolD_some ek
  refine ⟨loc, mh, ρ, x, m1, ea, rl, rs, fun H1 ρ1 v1 e1 rs1 r1 => ⟨loc, m1, ρ1, y, m2, eb, rl.mono e1, rs1, fun H2 ρ2 v2 e2 rs2 r2 => ⟨ρ2, m2, x, y, .bl k, m3, ek, rs2, r1.mono e2, r2, fun H3 ρ3 v3 e3 rs3 r3 => ?_⟩⟩⟩
  cases r3
  refine ⟨k, rfl, ?_⟩
  cases k with
  | true =>
    rw [if_pos rfl] at q
    obtain ⟨z, m4, ec, q⟩ := bnd_some q
    exact iteT ⟨loc, m3, ρ3, z, m4, ec, ((rl.mono e1).mono e2).mono e3, rs3, fun H4 ρ4 v4 e4 rs4 r4 => ⟨ρ4, m4, y, z, d, mh', q, rs4, (r2.mono e3).mono e4, r4, co.ev (e1.trans (e2.trans (e3.trans e4)))⟩⟩
  | false =>
    rw [if_neg Bool.false_ne_true] at q
    cases q
    exact iteF (co H3 ρ3 _ (e1.trans (e2.trans e3)) rs3 (.bl false))
theorem de_chain {op op' : CmpOp} {f f' : D → D → MH → Option (D × MH)} (ho : OpR X (compareOp op) (rD X.K f)) (ho' : OpR X (compareOp op') (rD X.K f')) (hm : lastMarks [op, op'] [b, c] = false) (ha : DE X a ma) (hb : DE X b mb) (hc : DE X c mc) :
    DE X (.Compare a [op, op'] [b, c] pos) (dchain f f' ma mb mc) := fun loc mh => PE_imp (pe_chain ho ho' ha.x hb.x hc.x hm) fun σ H Q h => chain_imp ⟨loc, mh, h⟩
theorem dt_chain {op op' : CmpOp} {f f' : D → D → MH → Option (D × MH)} (ho : OpR X (compareOp op) (rD X.K f)) (ho' : OpR X (compareOp op') (rD X.K f')) (hm : lastMarks [op, op'] [b, c] = false) (ha : DE X a ma) (hb : DE X b mb) (hc : DE X c mc) :
    DT X (.Compare a [op, op'] [b, c] pos) (boolD (dchain f f' ma mb mc)) := by
  refine fun loc mh => PT_imp (pt_chain ho ho' ha.x hb.x hc.x hm) ?_
  rintro σ H Q ⟨ρ, k, mh', q, rl, rs, co⟩
  have q := boolD_some q
  exact chain_imp ⟨loc, mh, ρ, _, _, q, rl, rs, fun H' ρ' v e' rs' r' => by cases r'; exact ⟨k, rfl, co H' ρ' e' rs'⟩⟩
noncomputable def rDM (K : PySem.W.Frag) (f : D → List D → MH → Option (D × MH)) : V → List V → Hp → VK → Prop := fun x xs H Q => ∃ ρ mh dx ds d mh', f dx ds mh = some (d, mh') ∧ RS K H ρ mh ∧ RD K H ρ dx x ∧ RDs K H ρ ds xs ∧ Co K H ρ mh' d Q
noncomputable def tyOk (T : String) (x : D) (mh : MH) : Bool := match x with
  | .str _ => T == "str"
  | .int _ => T == "int"
  | .ref n => T == "list" && (mh[n]?).isSome
  | .tup _ => T == "tuple"
  | _ => false
theorem tyOk_V {K : PySem.W.Frag} {H : Hp} {ρ : List Addr} {mh : MH} {T : String} {x : D} {v : V} (rs : RS K H ρ mh) (r : RD K H ρ x v) (h : tyOk T x mh = true) : tyV K T v H := by
  cases r with
  | str z => exact eq_of_beq h
  | int i => exact eq_of_beq h
  | @ref n a hn =>
    have h : (T == "list" && (mh[n]?).isSome) = true := h
    rw [Bool.and_eq_true] at h
    obtain ⟨o, eo⟩ := Option.isSome_iff_exists.mp h.2
    obtain ⟨a', ha, ro⟩ := rs.at eo
    rw [hn] at ha
    cases ha
    obtain ⟨xs, sq, _⟩ := ro.read
    exact .inl ⟨eq_of_beq h.1, xs, sq⟩
  | tup s r => exact .inr (.inl ⟨eq_of_beq h, _, s⟩)
  | _ => cases h
noncomputable def methM (T : String) (f : D → List D → MH → Option (D × MH)) (mo : DM D) (mr : DM (List D)) : DM D := mo.bnd fun x => fun loc mh => if tyOk T x mh = true then (mr.bnd fun ds => DM.lift (f x ds)) loc mh else none
theorem de_bm {T id : String} {name : Str} {apos : Pos} {es : List Expr} {mr : DM (List D)} {f : D → List D → MH → Option (D × MH)} (pa : PlainAttrs T) (slot : Slot T name id) (hty : typeOf (.builtin id) = pure (.type "method_descriptor")) (hm : MtR X id (rDM X.K f)) (ho : DE X o mo) (ha : DA X (a :: es) mr)
    (hbase : attributeBase o name X.env (eval o X.env) = eval o X.env)
    (hfew : ((backTo pos (starEach (a :: es) X.env)).all (fun x => !x.1) && (backToKw pos (keywordEach [] X.env)).all (fun x => x.1.isSome)
      && decide ((a :: es).length + ([] : List Keyword).length + (if ([] : List Keyword).isEmpty then 0 else 1) < 30)) = true)
    (hline : (apos.endLine == pos.line) = true) (hs : starEach (a :: es) X.env = (false, eval a X.env) :: starEach es X.env) (hplain : (backTo pos (starEach es X.env)).any (·.1) = false) :
    DE X (.Call (.Attribute o name apos) (a :: es) [] pos) (methM T f mo mr) := fun loc mh => by
  cases eo : mo loc mh with
  | none =>
    have : methM T f mo mr loc mh = none := by unfold methM DM.bnd; rw [eo]
    rw [this]; exact PE_none
  | some p =>
    obtain ⟨x, m1⟩ := p
    refine PE_imp (pe_bm pa slot hty hm (ho loc mh) (ha loc m1) hbase hfew hline hs hplain) ?_
    rintro σ H Q ⟨ρ, d, mh', q, rl, rs, co⟩
    obtain ⟨x', m1', eo', q⟩ := bnd_some q
    rw [eo] at eo'
    cases eo'
    split at q
    · rename_i ht
      obtain ⟨ds, m2, er, q⟩ := bnd_some q
      exact ⟨ρ, x, m1, eo, rl, rs, fun H1 ρ1 v e1 rs1 r1 => ⟨tyOk_V rs1 r1 ht, ρ1, ds, m2, er, rl.mono e1, rs1, fun H2 ρ2 vs e2 rs2 r2 => ⟨ρ2, m2, x, ds, d, mh', q, rs2, r1.mono e2, r2, co.ev (e1.trans e2)⟩⟩⟩
    · cases q
theorem de_bm0 {T id : String} {name : Str} {apos : Pos} {f : D → List D → MH → Option (D × MH)} (pa : PlainAttrs T) (slot : Slot T name id) (hty : typeOf (.builtin id) = pure (.type "method_descriptor")) (hm : MtR X id (rDM X.K f)) (ho : DE X o mo)
    (hbase : attributeBase o name X.env (eval o X.env) = eval o X.env) (hline : (apos.endLine == pos.line) = true) : DE X (.Call (.Attribute o name apos) [] [] pos) (methM T f mo (DM.ret [])) := fun loc mh => by
  refine PE_imp (pe_bm0 pa slot hty hm (ho loc mh) hbase hline) ?_
  rintro σ H Q ⟨ρ, d, mh', q, rl, rs, co⟩
  obtain ⟨x, m1, eo, q⟩ := bnd_some q
  split at q
  · rename_i ht
    exact ⟨ρ, x, m1, eo, rl, rs, fun H1 ρ1 v e1 rs1 r1 => ⟨tyOk_V rs1 r1 ht, ρ1, m1, x, [], d, mh', q, rs1, r1, .nil, co.ev e1⟩⟩
  · cases q
theorem MtR_imp {id : String} {r r' : V → List V → Hp → VK → Prop} (h : MtR X id r) (i : ∀ x xs H Q, r' x xs H Q → r x xs H Q) : MtR X id r' := fun pins s σ H x xs v us Q I rx rs q => h pins s σ H x xs v us Q I rx rs (i x xs H Q q)
noncomputable def appendD : D → List D → MH → Option (D × MH)
  | .ref n, [y], mh => match mh[n]? with
    | some (.lst ds) => if ds.length < sizeLine then some (.non, mh.set n (.lst (ds ++ [y]))) else none
    | _ => none
  | _, _, _ => none
theorem mt_appendD : MtR X "list.append" (rDM X.K appendD) := by
  refine MtR_imp mt_append ?_
  rintro x xs H Q ⟨ρ, mh, dx, ds, d, mh', q, rs, rx, r, co⟩
  match ds, q with
  | [y], q =>
    obtain ⟨v, rfl, rv⟩ := rds1 r
    cases rx with
    | @ref n a hn =>
      have q : (match mh[n]? with | some (.lst ds) => if ds.length < sizeLine then some (D.non, mh.set n (.lst (ds ++ [y]))) else none | _ => none) = some (d, mh') := q
      split at q
      · rename_i ds em
        split at q
        · rename_i hz
          cases q
          obtain ⟨a', ha, us, hu, ru⟩ := rs.at em
          rw [hn] at ha
          cases ha
          exact ⟨a, us, v, rfl, rfl, hu, by rw [← ru.length]; exact hz, co _ ρ _ (Ev.lst hu) (rs.setL hn hu (ru.append (.cons rv .nil))) .non⟩
        · cases q
      · cases q
    | _ => cases q
  | [], q => cases dx <;> cases q
  | _ :: _ :: _, q => cases dx <;> cases q
noncomputable def negD : D → MH → Option (D × MH)
  | .int i, mh => some (.int (-i), mh)
  | _, _ => none
theorem un_negD : UnR X (unaryOp .USub) (rD1 X.K negD) := by
  rintro pins s σ H x v Q I rx ⟨ρ, mh, dx, d, mh', q, rs, r1, co⟩
  cases r1 with
  | int i => cases q; exact un_neg pins s σ H _ v Q I rx ⟨i, rfl, co H ρ _ Ev.refl rs (.int _)⟩
  | _ => cases q
end
noncomputable def Rise (xs : Array Nat) : Prop := xs.toList.Pairwise (· < ·)
theorem Rise.lt {xs : Array Nat} (h : Rise xs) {i j : Nat} {x y : Nat} (hij : i < j) (hx : xs[i]? = some x) (hy : xs[j]? = some y) : x < y := by
  obtain ⟨h1, rfl⟩ := Array.getElem?_eq_some_iff.mp hx
  obtain ⟨h2, rfl⟩ := Array.getElem?_eq_some_iff.mp hy
  have := List.pairwise_iff_getElem.mp h i j (by simpa using h1) (by simpa using h2) hij
  simpa using this
structure Below (xs : Array Nat) (j p : Nat) : Prop where
  le : p ≤ xs.size
  lo : ∀ i x, i < p → xs[i]? = some x → x < j
  hi : ∀ i x, p ≤ i → xs[i]? = some x → j ≤ x
theorem Below.same {xs : Array Nat} {j p q : Nat} (a : Below xs j p) (b : Below xs j q) : p = q := by
  rcases Nat.lt_trichotomy p q with h | h | h
  · have := b.le
    have hp : p < xs.size := by omega
    have := b.lo p _ h (Array.getElem?_eq_getElem hp)
    have := a.hi p _ (Nat.le_refl _) (Array.getElem?_eq_getElem hp)
    omega
  · exact h
  · have := a.le
    have hq : q < xs.size := by omega
    have := a.lo q _ h (Array.getElem?_eq_getElem hq)
    have := b.hi q _ (Nat.le_refl _) (Array.getElem?_eq_getElem hq)
    omega
structure Good (b : Bool) (t : SetTable) : Prop where
  led : t.led = b
  rise : t.plain = true → Rise t.place
theorem Good.stand {b : Bool} {t : SetTable} (h : Good b t) (n : Nat) : Good b (t.standIn n) := ⟨h.led, fun z => by cases z⟩
section
variable {P : Program} {w : World}
structure SetD (P : Program) (w : World) (o : Obj) (es : Array (Int × Value)) (ep : Nat) (t : SetTable) (S : Int → Bool) (n : Nat) : Prop where
  ex : o.ExactSet
  dt : o.data = .set es ep t
  el : ElemsOf (intKind P w) es.toList
  mem : ∀ k, S k = true ↔ ∃ e ∈ es.toList, (intKind P w).is k e.2 = true
  few : es.size < scanBound
  fit : t.fits es.size = true
  sz : es.size = n
  good : Good (!w.params.followText "set-order") t
noncomputable def SetG (P : Program) (w : World) (h : Heap) (a : Addr) (S : Int → Bool) (n : Nat) : Prop := ∃ o es ep t, h.get? a = some o ∧ SetD P w o es ep t S n
theorem SetG.of {h : Heap} {a : Addr} {S : Int → Bool} {n : Nat} (g : SetG P w h a S n) : h.SetOf (intKind P w) a S n := by
  obtain ⟨o, es, ep, t, e, d⟩ := g
  exact ⟨o, es, ep, t, e, d.ex, d.dt, d.el, d.mem, d.few, d.fit, d.sz⟩
theorem SetG.stay {h h' : Heap} {a : Addr} {S : Int → Bool} {n : Nat} (g : SetG P w h a S n) (k : ∀ o, h.get? a = some o → h'.get? a = some o) : SetG P w h' a S n := by
  obtain ⟨o, es, ep, t, e, d⟩ := g
  exact ⟨o, es, ep, t, k o e, d⟩
variable {A : Around} {E : Value → Shared → Prop} {s : Shared}
end
section
variable {P : Program} {w : World} {A : Around} {R : Result → Shared → Prop} {I : Addr} {fp wr : List Addr} {G : Array GenState → Array GenState → Prop} {n : Nat} {V : Nat → Value → Prop} {T : Nat → Shared → Prop}
end
section
variable {P : Program} {w : World} {A : Around} {E : Value → Shared → Prop} {s : Shared}
end
section
variable {P : Program} {w : World} {A : Around} {E : Value → Shared → Prop} {s : Shared}
noncomputable def metOf (ns : List Int) : List Int := firstMet (fun i => ns.getD i 0) ns.length
end
section
variable {P : Program} {w : World} {A : Around} {E : Value → Shared → Prop} {s : Shared}
end
theorem perm_erase {α : Type} : ∀ {l : List α} {i : Nat} (h : i < l.length), List.Perm (l[i] :: l.eraseIdx i) l
  | a :: r, 0, _ => .refl _
  | a :: r, i + 1, h => by
    have hi : i < r.length := by simpa using h
    have := perm_erase (l := r) (i := i) hi
    show List.Perm (r[i] :: a :: r.eraseIdx i) (a :: r)
    exact (List.Perm.swap _ _ _).trans (this.cons a)
theorem pick_go {α : Type} (nx : Nat → Nat) : ∀ (fuel k : Nat) (left : List α) (out : Array α), left.length = fuel → List.Perm (pickOrder.go nx fuel k left out).toList (out.toList ++ left)
  | 0, k, left, out, h => by
    have : left = [] := List.length_eq_zero_iff.mp h
    subst this
    unfold pickOrder.go
    rw [List.append_nil]
  | fuel + 1, k, left, out, h => by
    unfold pickOrder.go
    have hl : nx k % left.length < left.length := Nat.mod_lt _ (by omega)
    rw [List.getElem?_eq_getElem hl]
    dsimp only
    refine (pick_go nx fuel _ _ _ (by rw [List.length_eraseIdx, if_pos hl]; omega)).trans ?_
    rw [Array.toList_push, List.append_assoc]
    exact List.Perm.append_left _ (by
      show List.Perm (left[nx k % left.length] :: left.eraseIdx (nx k % left.length)) left
      exact perm_erase hl)
theorem pick_perm {α : Type} (nx : Nat → Nat) (xs : Array α) : List.Perm (pickOrder nx xs).toList xs.toList := by
  unfold pickOrder
  simpa using pick_go nx xs.size 0 xs.toList #[] (by simp)
section
variable {P : Program} {w : World} {A : Around} {E : Value → Shared → Prop}
end
inductive Mode where
  | txt | slt | drw (tp : Addr) (pl : List Nat)
noncomputable def Mode.first (t : SetTable) : Mode → Nat → Value
  | .txt, _ => .int 0 0
  | .slt, 0 => .int 0 0
  | .slt, i + 1 => .int ((t.place.getD i 0 + 1 : Nat) : Int) 0
  | .drw tp _, _ => .ref tp
noncomputable def Mode.ord (w : World) (a : Addr) (es : Array (Int × Value)) (ep : Nat) : Mode → List Value
  | .txt => (pickOrder (w.params.setOrder a ep) es).toList.map (·.2)
  | .slt => es.toList.map (·.2)
  | .drw _ pl => pl.filterMap fun p => (es[p]?).map (·.2)
noncomputable def Mode.ok (w : World) (es : Array (Int × Value)) (t : SetTable) : Mode → Heap → Prop
  | .txt, _ => w.params.followText "set-order" = true
  | .slt, _ => w.params.followText "set-order" = false ∧ (t.plain = true ∨ es.size ≤ 1)
  | .drw tp pl, h => w.params.followText "set-order" = false ∧ pl.Perm (List.range es.size) ∧ ∃ n, h.get? tp = some { cls := .type "tuple", data := .seq (pl.map fun (p : Nat) => rawInt (p : Int)).toArray n }
theorem Mode.perm {w : World} {a : Addr} {es : Array (Int × Value)} {ep : Nat} {t : SetTable} {m : Mode} {h : Heap} (k : m.ok w es t h) : List.Perm (m.ord w a es ep) (es.toList.map (·.2)) := by
  cases m with
  | txt => exact (pick_perm _ _).map _
  | slt => exact .refl _
  | drw tp pl =>
    obtain ⟨_, hp, _⟩ := k
    refine (hp.filterMap _).trans ?_
    have := congrArg (List.map (fun x : Int × Value => x.2)) (filterMap_getElem?_range es)
    rw [List.map_filterMap] at this
    rw [← this]
noncomputable abbrev itRec (f : Value) (i : Nat) (a : Addr) (n ep : Nat) : Obj := { cls := .type "set_iterator", data := .fields #[f, .int i 0, .ref a, .int n 0, .int ep 0] }
namespace SI
end SI
section
variable {P : Program} {w : World} {A : Around} {E : Value → Shared → Prop} {s : Shared} {a I : Addr} {o : Obj} {es : Array (Int × Value)} {ep n : Nat} {t : SetTable} {S : Int → Bool}
structure SetSt (w : World) (o : Obj) (es : Array (Int × Value)) (ep : Nat) (t : SetTable) (a I : Addr) (m : Mode) (i : Nat) (h : Heap) : Prop where
  it : h.get? I = some (itRec (m.first t i) i a es.size ep)
  st : h.get? a = some o
  ok : m.ok w es t h
end
section
variable {P : Program} {w : World} {A : Around} {E : Value → Shared → Prop} {s : Shared} {a I : Addr} {o : Obj} {es : Array (Int × Value)} {ep n : Nat} {t : SetTable} {S : Int → Bool}
noncomputable def Mode.fp : Mode → List Addr
  | .drw tp _ => [tp]
  | _ => []
end
noncomputable def sortU (ns : List Int) : List Int := (metOf ns).mergeSort fun a b => decide (a ≤ b)
theorem vals_ints : ∀ {us : List Value} {ns : List Int}, IntsAre us ns → Vals (ns.map V.int) us
  | _, _, .nil => .nil
  | _, _, .cons n t h => .cons ⟨t, rfl⟩ (vals_ints h)
noncomputable abbrev memS (ns : List Int) : Int → Bool := fun j => (metOf ns).any (· == j)
section
variable {X : Cx}
noncomputable def SetO (P : Program) (w : World) (a : Addr) (ns : List Int) : HO := .ext fun h => SetG P w h a (memS ns) (metOf ns).length
end
section
variable {P : Program} {w : World} {A : Around} {E : Value → Shared → Prop} {s : Shared} {a b : Addr} {o o' : Obj} {es es' : Array (Int × Value)} {ep n ep' n' : Nat} {t t' : SetTable} {S S' : Int → Bool}
end
noncomputable def setEq (ns ms : List Int) : Bool := ns.all (fun k => ms.contains k) && ms.all fun k => ns.contains k
noncomputable def intsOf : List D → Option (List Int)
  | [] => some []
  | .int i :: r => match intsOf r with
    | some l => some (i :: l)
    | none => none
  | _ => none
noncomputable def intsD : D → MH → Option (List Int)
  | .ref n, mh => match mh[n]? with
    | some o => intsOf o.items
    | none => none
  | .rol ds, _ => intsOf ds
  | .tup ds, _ => intsOf ds
  | _, _ => none
theorem intsOf_map : ∀ (ns : List Int), intsOf (ns.map D.int) = some ns
  | [] => rfl
  | n :: r => by
    show (match intsOf (r.map D.int) with | some l => some (n :: l) | none => none) = _
    rw [intsOf_map r]
theorem intsOf_some : ∀ {ds : List D} {ns : List Int}, intsOf ds = some ns → ds = ns.map D.int
  | [], ns, h => by cases h; rfl
  | d :: r, ns, h => by
    cases d with
    | int i =>
      have h : (match intsOf r with | some l => some (i :: l) | none => none) = some ns := h
      split at h
      · rename_i l e
        cases h
        rw [intsOf_some e]; rfl
      · cases h
    | _ => cases h
section
variable {K : PySem.W.Frag} {H : Hp} {ρ : List Addr} {mh : MH}
theorem rds_ints {ns : List Int} {vs : List V} (h : RDs K H ρ (ns.map D.int) vs) : vs = ns.map V.int := by
  induction ns generalizing vs with
  | nil => cases h; rfl
  | cons n r ih =>
    cases h with
    | cons a t => cases a; rw [ih t]; rfl
end
noncomputable def lenSetD (x : D) (mh : MH) : Option (D × MH) := match intsD x mh with
  | some ns => if ns.length < 4000 then some (.int (metOf ns).length, mh) else none
  | none => none
noncomputable def sortSetD (x : D) (mh : MH) : Option (D × MH) := match intsD x mh with
  | some ns => if ns.length < 4000 then (if (metOf ns).length < 64 then some (.ref mh.length, mh ++ [.lst ((sortU ns).map D.int)]) else none) else none
  | none => none
noncomputable def setEqD (x y : D) (mh : MH) : Option (D × MH) := match intsD x mh, intsD y mh with
  | some ns, some ms => if ns.length < 4000 ∧ ms.length < 4000 then some (.bl (setEq ns ms), mh) else none
  | _, _ => none
section
variable {X : Cx} {a : Expr} {ma : DM D} {p p2 pos pos2 : Pos}
noncomputable def setEqM (mx my : DM D) : DM D := mx.bnd fun x => my.bnd fun y => DM.lift (setEqD x y)
end
section
variable {X : Cx} {pins : List (Addr × Obj)} {σ : L2.St} {H : Hp} {s : Shared}
theorem walk_seq (I : Inv X pins σ H s) {A : Around} (hh : A.handled = none) {p : Addr} {ys : List V} (hq : SqL X.K H p ys ∨ SqT X.K H p ys) {Q : Value → Shared → Prop} {E : Value → Shared → Prop}
    (h : ∀ (its : List Value) (St : Nat → Heap → Prop) (h2 : Heap), Vals ys its → Walks X.prog X.w A s.heap.objs.size [s.heap.objs.size, p] [s.heap.objs.size] its.length (fun i v => its[i]? = some v) St → St 0 h2 →
      (∀ b ∈ [s.heap.objs.size, p], b < h2.objs.size) → (∀ b o, s.heap.get? b = some o → h2.get? b = some o) → Q (.ref s.heap.objs.size) { s with heap := h2 }) :
    wpAny (model X.prog X.w) A (pyIter (.ref p)) Q E s := by
  rcases hq with hq | hq
  · obtain ⟨its, rv, pl, hz⟩ := I.list hq
    have hlt : p < s.heap.objs.size := by obtain ⟨_, _, e, _⟩ := pl; exact Heap.lt_size e
    refine wpAny_pyIter_list pl.isList ?_
    have W := Walks.list (prog := X.prog) (w := X.w) hh s.heap.objs.size p (Nat.ne_of_lt hlt) its.toArray
    refine h its (fun i h => h.IsListIter s.heap.objs.size p i ∧ h.IsList p its.toArray) _ rv (by simpa using W) ⟨⟨_, Heap.get?_push_size _ rfl, rfl, rfl⟩, pl.isList.push _⟩ (fun b hb => ?_) fun b o e => Heap.get?_push_of_some _ e
    rw [Heap.size_push]
    simp at hb
    rcases hb with e | e
    · rw [e]; exact Nat.lt_succ_self _
    · rw [e]; exact Nat.lt_succ_of_lt hlt
  · obtain ⟨its, rv, pl, hz⟩ := I.tuple hq
    have pl : s.heap.IsTuple p its.toArray := pl
    have hlt : p < s.heap.objs.size := by obtain ⟨_, e, _⟩ := id pl; exact Heap.lt_size e
    refine wpAny_pyIter_tuple pl ?_
    have W := Walks.tuple (prog := X.prog) (w := X.w) hh s.heap.objs.size p (Nat.ne_of_lt hlt) its.toArray
    refine h its (fun i h => h.IsTupleIter s.heap.objs.size p i ∧ h.IsTuple p its.toArray) _ rv (by simpa using W) ⟨⟨_, Heap.get?_push_size _ rfl, rfl, rfl⟩, pl.push _⟩ (fun b hb => ?_) fun b o e => Heap.get?_push_of_some _ e
    rw [Heap.size_push]
    simp at hb
    rcases hb with e | e
    · rw [e]; exact Nat.lt_succ_self _
    · rw [e]; exact Nat.lt_succ_of_lt hlt
theorem kept_new {h2 h' : Heap} (hk : ∀ b o, b ∉ [s.heap.objs.size] → h2.get? b = some o → h'.get? b = some o) (h1 : ∀ b o, s.heap.get? b = some o → h2.get? b = some o) : ∀ b o, s.heap.get? b = some o → h'.get? b = some o :=
  fun b o e => hk b o (fun hm => by rw [List.mem_singleton.mp hm] at e; exact Nat.lt_irrefl _ (Heap.lt_size e)) (h1 b o e)
end
theorem vals_int : ∀ {ns : List Int} {its : List Value} {i : Nat} {v : Value}, Vals (ns.map V.int) its → its[i]? = some v → ∃ n t, ns[i]? = some n ∧ v = .int n t
  | [], _, _, _, .nil, e => by simp at e
  | n :: r, _, 0, _, .cons h t, e => by
    obtain ⟨k, rfl⟩ := h
    cases e
    exact ⟨n, k, rfl, rfl⟩
  | n :: r, _, i + 1, _, .cons h t, e => by
    obtain ⟨m, k, h1, h2⟩ := vals_int (i := i) t (by simpa using e)
    exact ⟨m, k, by simpa using h1, h2⟩
section
variable {X : Cx}
end
noncomputable def maxI : Int → List Int → Int
  | m, [] => m
  | m, x :: r => maxI (if m < x then x else m) r
noncomputable def minI : Int → List Int → Int
  | m, [] => m
  | m, x :: r => minI (if x < m then x else m) r
theorem argBest_fold (bt : Nat → Nat → Bool) (f : Int → List Int → Int) (ns : List Int) (b : Int → Int → Bool) (hb : ∀ i j x y, ns[i]? = some x → ns[j]? = some y → bt i j = b x y) (f0 : ∀ m, f m [] = m) (f1 : ∀ m l x, f m (l ++ [x]) = if b x (f m l) = true then x else f m l) :
    ∀ (k : Nat) (h : k < ns.length), ∀ m r, ns = m :: r → ns[argBest bt k]? = some (f m (r.take k))
  | 0, h, m, r, e => by
    subst e
    simp [argBest, f0]
  | k + 1, h, m, r, e => by
    have ih := argBest_fold bt f ns b hb f0 f1 k (by omega) m r e
    have hk : k < r.length := by rw [e, List.length_cons] at h; omega
    have e1 : ns[k + 1]? = some r[k] := by rw [e, List.getElem?_cons_succ, List.getElem?_eq_getElem hk]
    have e2 : r.take (k + 1) = r.take k ++ [r[k]] := by rw [List.take_add_one, List.getElem?_eq_getElem hk]; rfl
    have e3 := hb (k + 1) (argBest bt k) _ _ e1 ih
    rw [e2, f1]
    unfold argBest
    rw [e3]
    split
    · exact e1
    · exact ih
theorem maxI_snoc : ∀ (l : List Int) (m x : Int), maxI m (l ++ [x]) = if decide (maxI m l < x) = true then x else maxI m l
  | [], m, x => by by_cases h : m < x <;> simp [maxI, h]
  | y :: l, m, x => by
    show maxI _ (l ++ [x]) = _
    rw [maxI_snoc l]; rfl
theorem minI_snoc : ∀ (l : List Int) (m x : Int), minI m (l ++ [x]) = if decide (x < minI m l) = true then x else minI m l
  | [], m, x => by by_cases h : x < m <;> simp [minI, h]
  | y :: l, m, x => by
    show minI _ (l ++ [x]) = _
    rw [minI_snoc l]; rfl
noncomputable def bestFn (f : Int → List Int → Int) : List D → MH → Option (D × MH)
  | [x], mh => match seqD x mh with
    | some ds => match intsOf ds with
      | some (n :: r) => some (.int (f n r), mh)
      | _ => none
    | none => none
  | _, _ => none
theorem bestFn_some {f : Int → List Int → Int} {ds : List D} {mh mh' : MH} {d : D} (h : bestFn f ds mh = some (d, mh')) : ∃ x n r, ds = [x] ∧ seqD x mh = some ((n :: r).map D.int) ∧ d = .int (f n r) ∧ mh' = mh := by
  match ds, h with
  | [x], h =>
    have h : (match seqD x mh with | some ds => (match intsOf ds with | some (n :: r) => some (D.int (f n r), mh) | _ => none) | none => none) = some (d, mh') := h
    split at h
    · rename_i es e
      split at h
      · rename_i n r eb
        cases h
        rw [intsOf_some eb] at e
        exact ⟨x, n, r, rfl, e, rfl, rfl⟩
      · cases h
    · cases h
  | [], h => cases h
  | _ :: _ :: _, h => cases h
noncomputable def maxD : List D → MH → Option (D × MH) := bestFn maxI
noncomputable def minD : List D → MH → Option (D × MH) := bestFn minI
section
variable {X : Cx}
theorem best_at (hc : X.calm = true) {id : String} {f : Int → List Int → Int} {op : CmpOp} {b : Int → Int → Bool} (f0 : ∀ m, f m [] = m) (f1 : ∀ m l x, f m (l ++ [x]) = if b x (f m l) = true then x else f m l)
    (cmp : ∀ {A : Around} {x y : Int} {t u : Tok} {Q : Value → Shared → Prop} {E : Value → Shared → Prop} {s : Shared}, Q (.bool (b x y)) s → wpAny (model X.prog X.w) A (richCompare op (.int x t) (.int y u)) Q E s)
    (call_w : ∀ {A : Around} {x : Value} {Q : Value → Shared → Prop} {E : Value → Shared → Prop} {s : Shared}, wpAny (model X.prog X.w) A.in1 (pyIter x) (fun it s₂ => ∃ I fp wr n P St bt, it = .ref I ∧ Walks X.prog X.w A.in1 I fp wr n P St ∧ St 0 s₂.heap ∧ (∀ b ∈ fp, b < s₂.heap.objs.size) ∧ 0 < n ∧ CmpOf X.prog X.w A.in1 op P bt ∧
      ∀ v h' tk, P (argBest bt (n - 1)) v → (∀ b o, b ∉ wr → s₂.heap.get? b = some o → h'.get? b = some o) → Q v { s₂ with heap := h', toks := tk }) E s → wpAny (model X.prog X.w) A (call (.builtin id) [x]) Q E s) :
    CallR X (.builtin id) (rDs X.K (bestFn f)) := by
  rintro pins s σ H xs us Q I r ⟨ρ, mh, ds, d, mh', q, rs, rd, co⟩
  obtain ⟨x, n, l, rfl, e, rfl, rfl⟩ := bestFn_some q
  obtain ⟨v, rfl, rx⟩ := rds1 rd
  obtain ⟨u, rfl, ru⟩ := vals1 r
  obtain ⟨p, ys, rfl, hq, ry⟩ := seqD_ok rs rx e
  cases ru
  rw [rds_ints ry] at hq
  refine call_w (walk_seq I (A := X.A.in1) (I.ok.hd hc) hq fun its St h2 rv W st hfp hk => ?_)
  have hlen : (n :: l).length = its.length := by have := rv.length; simpa using this
  refine ⟨_, _, _, its.length, _, St, fun i j => (match (n :: l)[i]?, (n :: l)[j]? with | some x, some y => b x y | _, _ => false), rfl, W, st, hfp, by rw [← hlen]; simp, fun i j vi vj s' Q' E' hi hj hQ => ?_, fun v h' tk hP hk' => ?_⟩
  · obtain ⟨a, t, e1, rfl⟩ := vals_int rv hi
    obtain ⟨a', t', e2, rfl⟩ := vals_int rv hj
    simp only [e1, e2] at hQ
    exact cmp hQ
  · have ar := argBest_fold (fun i j => (match (n :: l)[i]?, (n :: l)[j]? with | some x, some y => b x y | _, _ => false)) f (n :: l) b (fun i j x y e1 e2 => by simp only [e1, e2]) f0 f1 (its.length - 1) (by rw [hlen]; simp at hlen; omega) n l rfl
    obtain ⟨a, t, e1, rfl⟩ := vals_int rv hP
    rw [ar] at e1
    have e3 : l.take (its.length - 1) = l := List.take_of_length_le (by rw [← hlen]; simp)
    rw [e3] at e1
    cases e1
    exact ⟨.int _, H, I.kept (t' := tk) (kept_new hk' hk), ⟨t, rfl⟩, co H ρ _ Ev.refl rs (.int _)⟩
end
section
variable {X : Cx}
theorem call_maxD (hc : X.calm = true) : CallR X (.builtin "max") (rDs X.K maxD) := best_at (op := .Gt) (b := fun x m => decide (m < x)) hc (fun _ => rfl) (fun m l x => maxI_snoc l m x) (fun h => PyProof.Rows.gt_int h) fun h => call_max_walk h
theorem call_minD (hc : X.calm = true) : CallR X (.builtin "min") (rDs X.K minD) := best_at (op := .Lt) (b := fun x m => decide (x < m)) hc (fun _ => rfl) (fun m l x => minI_snoc l m x) (fun h => PyProof.Rows.lt_int h) fun h => call_min_walk h
theorem RDs.eraseIdx {K : PySem.W.Frag} {H : Hp} {ρ : List Addr} : ∀ {ds : List D} {vs : List V} (n : Nat), RDs K H ρ ds vs → RDs K H ρ (ds.eraseIdx n) (vs.eraseIdx n)
  | _, _, _, .nil => .nil
  | _, _, 0, .cons _ t => t
  | _, _, n + 1, .cons r t => .cons r (RDs.eraseIdx n t)
noncomputable def extendD : D → List D → MH → Option (D × MH)
  | .ref n, [.ref m], mh => match mh[n]?, mh[m]? with
    | some (.lst xs), some (.lst ys) => if xs.length + ys.length ≤ sizeLine then some (.non, mh.set n (.lst (xs ++ ys))) else none
    | _, _ => none
  | _, _, _ => none
theorem mt_extendD : MtR X "list.extend" (rDM X.K extendD) := by
  refine MtR_imp mt_extend ?_
  rintro x xs H Q ⟨ρ, mh, dx, ds, d, mh', q, rs, rx, r, co⟩
  match ds, q with
  | [.ref m], q =>
    obtain ⟨v, rfl, rv⟩ := rds1 r
    cases rv with
    | @ref _ b hb =>
      cases rx with
      | @ref n a hn =>
        simp only [extendD] at q
        split at q
        · rename_i es fs e1 e2
          split at q
          · rename_i hz
            cases q
            obtain ⟨a', ha, us, hu, ru⟩ := rs.at e1
            obtain ⟨b', hb', ws, hw, rw'⟩ := rs.at e2
            rw [hn] at ha
            cases ha
            rw [hb] at hb'
            cases hb'
            exact ⟨a, b, us, ws, rfl, rfl, hu, hw, by rw [← ru.length, ← rw'.length]; exact hz, co _ ρ _ (Ev.lst hu) (rs.setL hn hu (ru.append rw')) .non⟩
          · cases q
        · cases q
      | _ => cases q
  | [], q => cases dx <;> cases q
  | .non :: _, q => cases dx <;> simp [extendD] at q
  | .bl _ :: _, q => cases dx <;> simp [extendD] at q
  | .str _ :: _, q => cases dx <;> simp [extendD] at q
  | .tup _ :: _, q => cases dx <;> simp [extendD] at q
  | .int _ :: _, q => cases dx <;> simp [extendD] at q
  | .rol _ :: _, q => cases dx <;> simp [extendD] at q
  | .obj .. :: _, q => cases dx <;> simp [extendD] at q
  | .ref _ :: _ :: _, q => cases dx <;> simp [extendD] at q
end
section
variable {X : Cx} {pins : List (Addr × Obj)} {σ : L2.St} {H : Hp} {s : Shared} {fp : List Addr} {h' : Heap}
end
section
variable {prog : Program} {w : World} {A : Around} {E : Value → Shared → Prop} {s : Shared}
theorem tup_next {it l : Addr} {i : Nat} {items : Array Value} {x : Value} {Q : Value → Shared → Prop} (hit : s.heap.IsTupleIter it l i) (hl : s.heap.IsTuple l items) (hx : items[i]? = some x)
    (hQ : ∀ h', h'.IsTupleIter it l (i + 1) → Heap.SameBut it s.heap h' → Q x { s with heap := h' }) : wpAny (model prog w) A (Builtin.SmallTypes.nextOf (.ref it)) Q E s := by
  obtain ⟨o, ho, hc, hd⟩ := id hit
  obtain ⟨ol, hol, _, nl, hdl⟩ := hl
  unfold Builtin.SmallTypes.nextOf
  refine wpAny_bind (wpAny_callSpecial?_slot (name := Str.ofString "__next__") hit.typeIs F.slot_tuple_iterator_next (wpAny_call_entry F.slot_tuple_iterator_next hit.typeIs F.entry_tuple_iterator_next ?_ (F.args_tuple_iterator_next_1 _)))
  show wpAny _ _ (field (.ref it) 0 >>= _) _ _ s; refine wpAny_bind (wpAny_field ho hd (x := .ref l) rfl ?_)
  show wpAny _ _ (if (Value.ref l == Value.none) = true then _ else _) _ _ s; rw [if_neg (show ¬ ((Value.ref l == Value.none) = true) from Bool.false_ne_true)]
  show wpAny _ _ (field (.ref it) 1 >>= _) _ _ s; refine wpAny_bind (wpAny_field ho hd (x := .int i 0) rfl ?_)
  show wpAny _ _ (seqItems? (.ref l) >>= _) _ _ s; refine wpAny_bind (wpAny_seqItems hol hdl ?_)
  simp only [Int.toNat_natCast, hx]
  refine wpAny_bind (wpAny_setField ho hd (by simp) (wpAny_pure ⟨x, rfl, wpAny_pure (hQ _ ⟨_, Heap.get?_update_self _ ho (Obj.isFreed_of_fields (Obj.data_mapFields hd _)), (Obj.cls_mapFields ..).trans hc, ?_⟩ (Heap.SameBut.update ..))⟩))
  rw [Obj.data_mapFields hd]; simp [rawInt]
theorem tup_stop {it l : Addr} {i : Nat} {items : Array Value} {Q : Value → Shared → Prop} (hh : A.handled = none) (hit : s.heap.IsTupleIter it l i) (hl : s.heap.IsTuple l items) (hx : items[i]? = none)
    (hE : ∀ h' e, Heap.ExtBut it s.heap h' → (∃ o, h'.get? e = some o ∧ o.cls = .type "StopIteration") → E (.ref e) { s with heap := h' }) : wpAny (model prog w) A (Builtin.SmallTypes.nextOf (.ref it)) Q E s := by
  obtain ⟨o, ho, hc, hd⟩ := id hit
  obtain ⟨ol, hol, _, nl, hdl⟩ := hl
  unfold Builtin.SmallTypes.nextOf
  refine wpAny_bind (wpAny_callSpecial?_slot (name := Str.ofString "__next__") hit.typeIs F.slot_tuple_iterator_next (wpAny_call_entry F.slot_tuple_iterator_next hit.typeIs F.entry_tuple_iterator_next ?_ (F.args_tuple_iterator_next_1 _)))
  show wpAny _ _ (field (.ref it) 0 >>= _) _ _ s; refine wpAny_bind (wpAny_field ho hd (x := .ref l) rfl ?_)
  show wpAny _ _ (if (Value.ref l == Value.none) = true then _ else _) _ _ s; rw [if_neg (show ¬ ((Value.ref l == Value.none) = true) from Bool.false_ne_true)]
  show wpAny _ _ (field (.ref it) 1 >>= _) _ _ s; refine wpAny_bind (wpAny_field ho hd (x := .int i 0) rfl ?_)
  show wpAny _ _ (seqItems? (.ref l) >>= _) _ _ s; refine wpAny_bind (wpAny_seqItems hol hdl ?_)
  simp only [Int.toNat_natCast, hx]
  refine wpAny_bind (wpAny_rule (wpAny_bind (wpAny_setField ho hd (by simp) ?_))); show wpAny _ _ (newExc (.type "StopIteration") [] >>= _) _ _ _
  refine wpAny_bind ?_; simp only [newExc, newTuple]
  refine wpAny_bind (wpAny_newObj_type ?_ (by size_fits)); refine wpAny_bind (m := firstArgMember _ _) (wpAny_of_eq (a := Value.none) (by first | rfl | (simp only [firstArgMember]; rfl)) ?_)
  refine wpAny_newObj_type ?_ (by size_fits); simp only [raiseNew]
  refine wpAny_bind (wpAny_handled ?_); first | rw [show A.in1.handled = none from hh] | rw [hh]
  refine wpAny_bind (wpAny_pure (wpAny_throw (hE _ _ (((Heap.SameBut.update ..).extBut.push _).push _) ⟨_, Heap.get?_push_size _ rfl, rfl⟩)))
theorem tup_draws (hh : A.handled = none) (it l : Addr) (hne : l ≠ it) (items : Array Value) : Draws prog w A it [it, l] items.size (fun i v => items[i]? = some v) (fun i h => h.IsTupleIter it l i ∧ h.IsTuple l items) where
  live := fun _ _ st => let ⟨o, ho, _⟩ := st.1; ⟨o, ho⟩
  frame := fun _ _ _ st hk => ⟨let ⟨o, ho, r⟩ := st.1; ⟨o, hk it (by simp) o ho, r⟩, let ⟨o, ho, r⟩ := st.2; ⟨o, hk l (by simp) o ho, r⟩⟩
  item := fun i s Q E hi st hQ => tup_next st.1 st.2 (x := items[i]) (by simp [hi]) fun h' hit' hs' => hQ _ h' s.toks (by simp [hi]) ⟨hit', st.2.extBut hs'.extBut hne⟩ hs'
  done := fun s Q E st hE => tup_stop hh st.1 st.2 (by simp) hE
end
theorem k_ne {X : Cx} {pins : List (Addr × Obj)} {σ : L2.St} {H : Hp} {s : Shared} {a b : Addr} {o : Obj} (I : Inv X pins σ H s) (e : X.K.lookup a = some o) (f : FpOk X pins H b) : a ≠ b := fun z => by
  have hb := I.ok.mod.kin a o e
  rcases f.2.2.2.1 with q | q
  · exact I.ok.noex a o hb (z ▸ q)
  · have h1 : a < X.base.objs.size := Heap.lt_size hb
    have h2 := I.ok.bsz
    have h3 : X.s₀.heap.objs.size ≤ a := z ▸ q
    exact absurd (Nat.lt_of_lt_of_le h1 h2) (Nat.not_lt.mpr h3)
theorem rd_ne {H : Hp} {a b : Addr} {u : HO} (h : Rd H a u) (f : H b = none) : a ≠ b := fun z => by
  rcases h with h | ⟨o, h⟩ <;> (rw [z, f] at h; cases h)
structure SeqK where
  sq : PySem.W.Frag → Hp → Addr → List V → Prop
  isIt : Heap → Addr → Addr → Nat → Prop
  isSeq : Heap → Addr → Array Value → Prop
  cls : String
  get : ∀ {X : Cx} {pins : List (Addr × Obj)} {σ : L2.St} {H : Hp} {s : Shared} {a : Addr} {xs : List V}, Inv X pins σ H s → sq X.K H a xs → ∃ its : List Value, Vals xs its ∧ isSeq s.heap a its.toArray ∧ xs.length ≤ sizeLine
  inj : ∀ {X : Cx} {pins : List (Addr × Obj)} {σ : L2.St} {H : Hp} {s : Shared} {a : Addr} {xs ys : List V}, Inv X pins σ H s → sq X.K H a xs → sq X.K H a ys → xs = ys
  itO : ∀ {h : Heap} {it l : Addr} {i : Nat}, isIt h it l i → ∃ o, h.get? it = some o ∧ o.cls = .type cls ∧ ∃ vs, o.data = .fields vs
  itK : ∀ {h h' : Heap} {it l : Addr} {i : Nat}, isIt h it l i → (∀ o, h.get? it = some o → h'.get? it = some o) → isIt h' it l i
  seqO : ∀ {h : Heap} {l : Addr} {items : Array Value}, isSeq h l items → ∃ o, h.get? l = some o ∧ ∃ n, o.data = .seq items n
  seqK : ∀ {h h' : Heap} {l : Addr} {items : Array Value}, isSeq h l items → (∀ o, h.get? l = some o → h'.get? l = some o) → isSeq h' l items
  draws : ∀ {prog : Program} {w : World} {A : Around}, A.handled = none → ∀ (it l : Addr), l ≠ it → ∀ (items : Array Value), Draws prog w A it [it, l] items.size (fun i v => items[i]? = some v) (fun i h => isIt h it l i ∧ isSeq h l items)
  iter : ∀ {prog : Program} {w : World} {A : Around} {E : Value → Shared → Prop} {s : Shared} {l : Addr} {items : Array Value} {Q : Value → Shared → Prop}, isSeq s.heap l items →
    Q (.ref s.heap.objs.size) { s with heap := s.heap.push { cls := .type cls, data := .fields #[.ref l, .int 0 0] } } → wpAny (model prog w) A (pyIter (.ref l)) Q E s
  stop : ∀ {prog : Program} {w : World} {A : Around} {E : Value → Shared → Prop} {s : Shared} {it l : Addr} {i : Nat} {items : Array Value} {Q : Value → Shared → Prop}, A.handled = none → isIt s.heap it l i → isSeq s.heap l items → items[i]? = none →
    (∀ h' e, Heap.ExtBut it s.heap h' → (∃ o, h'.get? e = some o ∧ o.cls = .type "StopIteration") → E (.ref e) { s with heap := h' }) → wpAny (model prog w) A (Builtin.SmallTypes.nextOf (.ref it)) Q E s
  next : ∀ {prog : Program} {w : World} {A : Around} {E : Value → Shared → Prop} {s : Shared} {it l : Addr} {i : Nat} {items : Array Value} {x : Value} {Q : Value → Shared → Prop}, isIt s.heap it l i → isSeq s.heap l items → items[i]? = some x →
    (∀ h', isIt h' it l (i + 1) → Heap.SameBut it s.heap h' → Q x { s with heap := h' }) → wpAny (model prog w) A (Builtin.SmallTypes.nextOf (.ref it)) Q E s
  ne : ∀ {X : Cx} {pins : List (Addr × Obj)} {σ : L2.St} {H : Hp} {s : Shared} {a b : Addr} {xs : List V}, Inv X pins σ H s → sq X.K H a xs → FpOk X pins H b → a ≠ b
  new : ∀ (h : Heap) (l : Addr), isIt (h.push { cls := .type cls, data := .fields #[.ref l, .int 0 0] }) h.objs.size l 0
noncomputable def seqL : SeqK where
  sq := SqL
  isIt := fun h it l i => h.IsListIter it l i
  isSeq := fun h l its => h.IsList l its
  cls := "list_iterator"
  get := fun I h => let ⟨its, r, p, z⟩ := I.list h; ⟨its, r, p.isList, z⟩
  inj := fun I h h' => I.list_inj h h'
  itO := fun ⟨o, e, c, d⟩ => ⟨o, e, c, _, d⟩
  itK := fun st k => st.at k
  seqO := fun ⟨o, e, _, n, d⟩ => ⟨o, e, n, d⟩
  seqK := fun ⟨o, e, r⟩ k => ⟨o, k o e, r⟩
  draws := fun hh it l hne items => Draws.list hh it l hne items
  iter := fun hs q => wpAny_pyIter_list hs q
  stop := fun hh a b c d => wpAny_nextOf_list_end hh a b c d
  next := fun a b c d => wpAny_nextOf_list_item a b c d
  ne := fun I h f => by
    rcases h with h | ⟨o, its, n, hk, _⟩
    · exact rd_ne h f.1
    · exact k_ne I hk f
  new := fun h l => ⟨_, Heap.get?_push_size _ rfl, rfl, rfl⟩
noncomputable def seqT : SeqK where
  sq := SqT
  isIt := fun h it l i => h.IsTupleIter it l i
  isSeq := fun h l its => h.IsTuple l its
  cls := "tuple_iterator"
  get := fun I h => let ⟨its, r, p, z⟩ := I.tuple h; ⟨its, r, p, z⟩
  inj := fun I h h' => I.tuple_inj h h'
  itO := fun ⟨o, e, c, d⟩ => ⟨o, e, c, _, d⟩
  itK := fun ⟨o, e, r⟩ k => ⟨o, k o e, r⟩
  seqO := fun ⟨o, e, _, n, d⟩ => ⟨o, e, n, d⟩
  seqK := fun ⟨o, e, r⟩ k => ⟨o, k o e, r⟩
  draws := fun hh it l hne items => tup_draws hh it l hne items
  iter := fun hs q => wpAny_pyIter_tuple hs q
  stop := fun hh a b c d => tup_stop hh a b c d
  next := fun a b c d => tup_next a b c d
  ne := fun I h f => by
    rcases h with h | ⟨o, its, n, hk, _⟩
    · exact rd_ne h f.1
    · exact k_ne I hk f
  new := fun h l => ⟨_, Heap.get?_push_size _ rfl, rfl, rfl⟩
noncomputable def Ite (k : SeqK) (K : PySem.W.Frag) (a : Addr) : It :=
  ⟨fun i H => ∃ xs x, k.sq K H a xs ∧ xs[i]? = some x, fun i H y H' => ∃ T x, H T = none ∧ y = .ref T ∧ (∀ xs, k.sq K H a xs → xs[i]? = some x) ∧ H' = upd H T (.tup [.int i, x]), fun i H => ∃ xs, k.sq K H a xs ∧ xs.length ≤ i⟩
section
variable {prog : Program} {w : World} {A : Around} {E : Value → Shared → Prop} {s : Shared}
end
structure SR (k : SeqK) (K : PySem.W.Frag) (H0 : Hp) (ρ0 : List Addr) (src : Src) (a : Addr) : Prop where
  rd : ∀ H ρ mh, Ev K H0 ρ0 H ρ → RS K H ρ mh → src.ok mh = true → ∃ xs, k.sq K H a xs ∧ RDs K H ρ (src.items mh) xs
  ok : ∀ (mh : MH) (i : Nat) (d : D), (src.items mh)[i]? = some d → src.ok mh = true
theorem SR.tup {K : PySem.W.Frag} {H0 : Hp} {ρ0 : List Addr} {ds : List D} {a : Addr} {xs : List V} (s : SqT K H0 a xs) (r : RDs K H0 ρ0 ds xs) : SR seqT K H0 ρ0 (.seq ds) a :=
  ⟨fun H ρ mh e rs _ => ⟨xs, e.tup _ _ s, r.mono e⟩, fun _ _ _ _ => rfl⟩
theorem SR.rol {K : PySem.W.Frag} {H0 : Hp} {ρ0 : List Addr} {ds : List D} {a : Addr} {xs : List V} (s : PermL K H0 a xs) (r : RDs K H0 ρ0 ds xs) : SR seqL K H0 ρ0 (.seq ds) a :=
  ⟨fun H ρ mh e rs _ => ⟨xs, (e.perm _ _ s).sq, r.mono e⟩, fun _ _ _ _ => rfl⟩
theorem SR.lst {K : PySem.W.Frag} {H0 : Hp} {ρ0 : List Addr} {n : Nat} {a : Addr} (h : ρ0[n]? = some a) : SR seqL K H0 ρ0 (.lref n) a := by
  refine ⟨fun H ρ mh e rs ok => ?_, fun mh i d q => ?_⟩
  · have ok : (mh[n]?).isSome = true := ok
    obtain ⟨o, eo⟩ := Option.isSome_iff_exists.mp ok
    obtain ⟨a', ha, ro⟩ := rs.at eo
    rw [e.at h] at ha
    cases ha
    obtain ⟨xs, sq, r⟩ := ro.read
    refine ⟨xs, sq, ?_⟩
    show RDs K H ρ (match mh[n]? with | some o => o.items | none => []) xs
    rw [eo]
    exact r
  · have q : (match mh[n]? with | some o => o.items | none => [])[i]? = some d := q
    show (mh[n]?).isSome = true
    cases e : mh[n]? with
    | none => rw [e] at q; simp at q
    | some o => rfl
theorem enumL_get : ∀ (l : List D) (j i : Nat), (enumL j l)[i]? = (l[i]?).map fun d => D.tup [.int ((j + i : Nat) : Int), d]
  | [], _, _ => by simp [enumL]
  | d :: r, j, 0 => by simp [enumL]
  | d :: r, j, i + 1 => by
    show (enumL (j + 1) r)[i]? = _
    rw [enumL_get r (j + 1) i, List.getElem?_cons_succ]
    have e : j + 1 + i = j + (i + 1) := by omega
    rw [e]
theorem enumL_len : ∀ (l : List D) (j : Nat), (enumL j l).length = l.length
  | [], _ => rfl
  | _ :: r, j => by show (enumL (j + 1) r).length + 1 = r.length + 1; rw [enumL_len r]
theorem JR.enum {k : SeqK} {K : PySem.W.Frag} {H0 : Hp} {ρ0 : List Addr} {src : Src} {a : Addr} (S : SR k K H0 ρ0 src a) : JR K H0 ρ0 (.enum src) (Ite k K a) where
  go := fun H ρ mh i d e rs q => by
    have q : (enumL 0 (src.items mh))[i]? = some d := q
    rw [enumL_get] at q
    cases e1 : (src.items mh)[i]? with
    | none => rw [e1] at q; cases q
    | some d' =>
      rw [e1] at q
      cases q
      obtain ⟨xs, sq, r⟩ := S.rd H ρ mh e rs (S.ok mh i d' e1)
      obtain ⟨v, ev, rv⟩ := r.get e1
      refine ⟨⟨xs, v, sq, ev⟩, ?_⟩
      rintro x H' ⟨T, x', hT, h1, h2, h3⟩
      subst h1
      subst h3
      have := h2 xs sq
      rw [ev] at this
      cases this
      refine ⟨Ev.new hT, rs.new hT, .tup (.inl (.inl upd_same)) (.cons ?_ (.cons (rv.mono (Ev.new hT)) .nil))⟩
      rw [Nat.zero_add]
      exact .int _
  stop := fun H ρ mh i e rs q => by
    have q : (src.ok mh && decide ((enumL 0 (src.items mh)).length ≤ i)) = true := q
    rw [Bool.and_eq_true, enumL_len] at q
    obtain ⟨xs, sq, r⟩ := S.rd H ρ mh e rs q.1
    exact ⟨xs, sq, by rw [← r.length]; exact of_decide_eq_true q.2⟩
noncomputable def enumM (ma : DM D) : DM Src := ma.bnd fun x => fun _ mh => match srcOf x mh with | some s => some (.enum s, mh) | none => none
section
variable {X : Cx}
end
section
variable {X : Cx}
theorem collect_range {prog : Program} {w : World} {A : Around} {E : Value → Shared → Prop} {s : Shared} {r : Addr} {a b c : Int} {t u v : Tok} {n : Nat} {Q : List Value → Shared → Prop} (hh : A.handled = none) (hr : IsRange s.heap r a b c t u v) (hsmall : Builtin.Range.small a b c = true)
    (hn : Builtin.Range.rangeSize a b c = n) (hlen : n ≤ 2 ^ 24)
    (hQ : ∀ h' tk acc, (∀ b o, s.heap.get? b = some o → h'.get? b = some o) → ItemsOf (fun i v => ∃ t, v = .int (a + i * c) t) acc n → Q acc.toList { s with heap := h', toks := tk }) : wpAny (model prog w) A (collect (.ref r)) Q E s := by
  have key : ∀ R : Result → Shared → Prop, (∀ h' tk acc' c', (∀ b o, b ≠ s.heap.objs.size → (s.heap.push { cls := .type "list", data := .seq ([] : List Value).toArray }).get? b = some o → h'.get? b = some o) → h'.get? s.heap.objs.size = some { cls := .type "list", dict := none, data := .seq acc' c', slots := #[] } →
      ItemsOf (fun i v => ∃ t, v = .int (a + i * c) t) acc' n → R (.ok (.ret (.ref s.heap.objs.size))) { s with heap := h', toks := tk }) → codeAny (model prog w) A (.builtin "proto.collect" ⟨[.ref r], []⟩) R s := fun R hR => by
    refine codeAny_builtin F.entry_proto_collect ?_
    rw [Around.under_plainId F.plain_proto_collect _]
    show wpAny _ A.in1 (newList [] >>= fun l => again (.builtin "list.__iadd__" ⟨[l, .ref r], []⟩)) _ _ s
    refine wpAny_bind (wpAny_newObj_type ?_); refine wpAny_pure ⟨plainId_quiet F.plain_list_iadd _, codeAny_builtin F.entry_list_iadd ?_⟩
    rw [Around.under_plainId F.plain_list_iadd _]
    have hS : (s.heap.push { cls := .type "list", data := .seq ([] : List Value).toArray }).get? s.heap.objs.size = some { cls := .type "list", data := .seq #[] 0 } := Heap.get?_push_size _ rfl
    show wpAny _ A.in1 (Builtin.List.listExtendWith (.ref s.heap.objs.size) (.ref r) (.ref s.heap.objs.size)) _ _ _
    exact wpAny_extend_range (A := A) (R := R) (s := { s with heap := s.heap.push { cls := .type "list", data := .seq ([] : List Value).toArray } }) hh (Heap.get?_push_of_some _ hr) hsmall hn hlen s.heap.objs.size _ 0 hS hR
  unfold collect
  refine wpAny_bind (wpAny_runValue (key _ fun h' tk acc' c' hk hS' hacc => ?_))
  show wpAny _ A (load s.heap.objs.size >>= _) _ _ _
  refine wpAny_bind (wpAny_load hS' ?_)
  exact wpAny_pure (hQ h' tk acc' (fun b o e => hk b o (Nat.ne_of_lt (Heap.lt_size e)) (Heap.get?_push_of_some _ e)) hacc)
theorem meets_tupRange (r : Addr) (a b c : Int) (t u v : Tok) (n : Nat) (hsmall : Builtin.Range.small a b c = true) (hn : Builtin.Range.rangeSize a b c = n) (hlen : n ≤ 2 ^ 24) :
    Meets (Builtin.«tuple.__new__» ⟨[.type "tuple", .ref r], []⟩) (fun A R s => A.handled = none ∧ IsRange s.heap r a b c t u v ∧ ∀ (h' : Heap) (tk : Nat) (acc : Array Value), (∀ b o, s.heap.get? b = some o → h'.get? b = some o) → ItemsOf (fun i v => ∃ t, v = .int (a + i * c) t) acc n →
        R (.ok (.ret (.ref h'.objs.size))) { s with heap := h'.push { cls := .type "tuple", data := .seq acc }, toks := tk }) :=
  .of_wp fun prog w A R s h => by
    obtain ⟨hh, hr, h⟩ := h
    have hsub := sub_tuple_self; have hinit := init_tuple_lookup; have hmh := madeHere_tuple
    have hT : s.TypeIs (.ref r) "range" := ⟨_, hr, rfl⟩
    have hh1 : A.in1.handled = none := hh
    wp_walk using wpAny_typeOf hT, collect_range hh1 hr hsmall hn hlen
    intro h' tk acc hk hacc
    show wpAny _ _ (Builtin.Tuple.tupleExact acc.toList.toArray >>= fun v => ret v) _ _ _
    unfold Builtin.Tuple.tupleExact
    refine wpAny_bind (wpAny_newObj_type (wpAny_pure ⟨_, rfl, ?_⟩) (show acc.toList.toArray.size ≤ sizeLine by simp only [Array.toArray_toList]; rw [hacc.1, sizeLine_eq]; omega))
    have e : acc.toList.toArray = acc := by simp
    rw [e]
    exact h h' tk acc hk hacc
theorem call_tupRange {prog : Program} {w : World} {A : Around} {E : Value → Shared → Prop} {s : Shared} {r : Addr} {a b c : Int} {t u v : Tok} {n : Nat} {Q : Value → Shared → Prop} (hh : A.handled = none) (hr : IsRange s.heap r a b c t u v) (hsmall : Builtin.Range.small a b c = true)
    (hn : Builtin.Range.rangeSize a b c = n) (hlen : n ≤ 2 ^ 24)
    (h : ∀ (h' : Heap) (tk : Nat) (acc : Array Value), (∀ b o, s.heap.get? b = some o → h'.get? b = some o) → ItemsOf (fun i v => ∃ t, v = .int (a + i * c) t) acc n → Q (.ref h'.objs.size) { s with heap := h'.push { cls := .type "tuple", data := .seq acc }, toks := tk }) :
    wpAny (model prog w) A (call (.type "tuple") [.ref r]) Q E s := by
  refine callType_new F.called_tuple (by decide) (F.typeCall_tuple_1 _) (F.newCall_tuple_1 _) (fun obj => F.args_object_init_2 obj _) F.entry_tuple_new
    (meets_tupRange r a b c t u v n hsmall hn hlen) ⟨hh, hr, fun h' tk acc hk hacc => ⟨⟨_, Heap.get?_push_size _ rfl, rfl⟩, h h' tk acc hk hacc⟩⟩
theorem items_vals {a : Int} {n : Nat} {acc : Array Value} (h : ItemsOf (fun i v => ∃ t, v = .int (a + i * 1) t) acc n) : Vals ((List.range n).map fun (i : Nat) => V.int (a + (i : Int))) acc.toList := by
  have key : ∀ (m : Nat) (l : List Value) (j : Nat), l.length = m → (∀ (i : Nat) (v : Value), l[i]? = some v → ∃ t, v = Value.int (a + ((j + i : Nat) : Int)) t) → Vals ((List.range' j m).map fun (i : Nat) => V.int (a + (i : Int))) l := by
    intro m
    induction m with
    | zero => intro l j hl _; rw [List.length_eq_zero_iff.mp hl]; exact .nil
    | succ m ih =>
      intro l j hl hv
      match l, hl with
      | x :: r, hl =>
        rw [List.range'_succ, List.map_cons]
        refine .cons ?_ (ih r (j + 1) (by simpa using hl) fun i v e => ?_)
        · obtain ⟨t, e⟩ := hv 0 x rfl
          exact ⟨t, e⟩
        · obtain ⟨t, q⟩ := hv (i + 1) v (by simpa using e)
          have e2 : j + (i + 1) = j + 1 + i := by omega
          rw [e2] at q
          exact ⟨t, q⟩
  rw [List.range_eq_range']
  refine key n acc.toList 0 (by rw [Array.length_toList]; exact h.1) fun i v e => ?_
  obtain ⟨t, q⟩ := h.2 i v (by simpa using e)
  rw [Int.mul_one] at q
  rw [Nat.zero_add]
  exact ⟨t, q⟩
theorem call_rngO : CallR X (.type "range") (fun xs H Q => ∃ j : Int, xs = [.int j] ∧ -(2 ^ 62) ≤ j ∧ j < 2 ^ 62 ∧ ∀ p, H p = none → Q (.ref p) (upd H p (.rng 0 j))) := by
  rintro pins s σ H xs us Q I r ⟨j, e, h1, h2, q⟩
  subst e
  obtain ⟨u, rfl, ru⟩ := vals1 r
  obtain ⟨t, rfl⟩ := ru
  exact call_range_1 ⟨.ref s.heap.objs.size, _, I.laid (o := .rng 0 j) (fun b o e => Heap.get?_push_of_some _ e) (Nat.le_refl _) ⟨_, _, _, Heap.get?_push_size _ rfl⟩, rfl, q _ (I.hok.fresh (Nat.le_refl _))⟩
theorem rng_facts {j : Int} (h1 : -(2 ^ 62) ≤ j) (h2 : j < 2 ^ 62) : Builtin.Range.small 0 j 1 = true ∧ Builtin.Range.rangeSize 0 j 1 = (j.toNat : Int) := by
  refine ⟨small_one (by omega) (by omega) h1 h2, ?_⟩
  rw [rangeSize_one]
  split <;> omega
theorem call_listRng (hc : X.calm = true) : CallR X (.type "list") (fun xs H Q => ∃ a j, xs = [.ref a] ∧ H a = some (.rng 0 j) ∧ -(2 ^ 62) ≤ j ∧ j ≤ 1000000 ∧ ∀ p, H p = none → Q (.ref p) (upd H p (.lst ((List.range j.toNat).map fun (i : Nat) => V.int (0 + (i : Int)))))) := by
  rintro pins s σ H xs us Q I r ⟨a, j, e, hH, h1, h2, q⟩
  subst e
  obtain ⟨u, rfl, ru⟩ := vals1 r
  cases ru
  obtain ⟨t, u, v, hr⟩ := I.hok a _ hH
  obtain ⟨f1, f2⟩ := rng_facts h1 (show j < 2 ^ 62 by omega)
  refine call_list_range (I.ok.hd hc) hr f1 f2 (by omega) fun h' tk acc c hk hS hacc => ?_
  exact ⟨.ref s.heap.objs.size, _, I.laid (t' := tk) (o := .lst ((List.range j.toNat).map fun (i : Nat) => V.int (0 + (i : Int)))) hk (Nat.le_refl _) ⟨by simp [sizeLine_eq]; omega, acc.toList, c, items_vals hacc, by simpa using hS⟩, rfl, q _ (I.hok.fresh (Nat.le_refl _))⟩
theorem call_tupleRng (hc : X.calm = true) : CallR X (.type "tuple") (fun xs H Q => ∃ a j, xs = [.ref a] ∧ H a = some (.rng 0 j) ∧ -(2 ^ 62) ≤ j ∧ j ≤ 1000000 ∧ ∀ p, H p = none → Q (.ref p) (upd H p (.tup ((List.range j.toNat).map fun (i : Nat) => V.int (0 + (i : Int)))))) := by
  rintro pins s σ H xs us Q I r ⟨a, j, e, hH, h1, h2, q⟩
  subst e
  obtain ⟨u, rfl, ru⟩ := vals1 r
  cases ru
  obtain ⟨t, u, v, hr⟩ := I.hok a _ hH
  obtain ⟨f1, f2⟩ := rng_facts h1 (show j < 2 ^ 62 by omega)
  refine call_tupRange (I.ok.hd hc) hr f1 f2 (by omega) fun h' tk acc hk hacc => ?_
  have I1 : Inv X pins σ H { s with heap := h', toks := tk } := I.kept (t' := tk) hk
  exact ⟨.ref h'.objs.size, _, I1.laid (t' := tk) (o := .tup ((List.range j.toNat).map fun (i : Nat) => V.int (0 + (i : Int)))) (fun b o e => Heap.get?_push_of_some _ e) (Nat.le_refl _) ⟨by simp [sizeLine_eq]; omega, acc.toList, items_vals hacc, by simpa using TupP.new h' acc⟩, rfl, q _ (I1.hok.fresh (Nat.le_refl _))⟩
noncomputable def listRngD (x : D) (mh : MH) : Option (D × MH) := match x with
  | .int j => if -(2 ^ 62) ≤ j ∧ j ≤ 1000000 then some (.ref mh.length, mh ++ [.lst (rangeL 0 j.toNat)]) else none
  | _ => none
noncomputable def tupRngD (x : D) (mh : MH) : Option (D × MH) := match x with
  | .int j => if -(2 ^ 62) ≤ j ∧ j ≤ 1000000 then some (.tup (rangeL 0 j.toNat), mh) else none
  | _ => none
theorem rds_range {K : PySem.W.Frag} {H : Hp} {ρ : List Addr} (n : Nat) : RDs K H ρ (rangeL 0 n) ((List.range n).map fun (i : Nat) => V.int (0 + (i : Int))) := by
  unfold rangeL
  generalize List.range n = l
  induction l with
  | nil => exact .nil
  | cons i r ih => exact .cons (.int _) ih
variable {a : Expr} {ma : DM D} {p p2 pos pos2 : Pos}
theorem de_listRng (hc : X.calm = true) (hg : Gl X "list") (hm : X.mg "list" = none) (hg2 : Gl X "range") (hm2 : X.mg "range" = none) (ha : DE X a ma) (hs : starEach [a] X.env = (false, eval a X.env) :: starEach [] X.env) :
    DE X (.Call (.Name "list" p) [.Call (.Name "range" p2) [a] [] pos2] [] pos) (ma.bnd fun x => DM.lift (listRngD x)) := fun loc mh =>
  PE_imp (pe_callTy (call_listRng hc) hg hm (by decide +kernel) (pa_cons (pe_callTy call_rngO hg2 hm2 boot_range (pa_cons (ha loc mh) pa_nil hs) (by decide) (by decide) hs) pa_nil)) fun σ H Q ⟨ρ, d, mh', q, rl, rs, co⟩ => by
    obtain ⟨x, m1, ea, q⟩ := bnd_some q
    refine ⟨ρ, x, m1, ea, rl, rs, fun H1 ρ1 v e1 rs1 r1 => ?_⟩
    have q : listRngD x m1 = some (d, mh') := q
    cases r1 with
    | int j =>
      simp only [listRngD] at q
      split at q
      · rename_i hl
        cases q
        exact ⟨j, rfl, hl.1, by omega, fun b hb => ⟨b, j, rfl, upd_same, hl.1, hl.2, Co.newL (rs1.new hb) (rds_range _) (co.ev (e1.trans (Ev.new hb)))⟩⟩
      · cases q
    | _ => cases q
theorem de_tupRng (hc : X.calm = true) (hg : Gl X "tuple") (hm : X.mg "tuple" = none) (hg2 : Gl X "range") (hm2 : X.mg "range" = none) (ha : DE X a ma) (hs : starEach [a] X.env = (false, eval a X.env) :: starEach [] X.env) :
    DE X (.Call (.Name "tuple" p) [.Call (.Name "range" p2) [a] [] pos2] [] pos) (ma.bnd fun x => DM.lift (tupRngD x)) := fun loc mh =>
  PE_imp (pe_callTy (call_tupleRng hc) hg hm (by decide +kernel) (pa_cons (pe_callTy call_rngO hg2 hm2 boot_range (pa_cons (ha loc mh) pa_nil hs) (by decide) (by decide) hs) pa_nil)) fun σ H Q ⟨ρ, d, mh', q, rl, rs, co⟩ => by
    obtain ⟨x, m1, ea, q⟩ := bnd_some q
    refine ⟨ρ, x, m1, ea, rl, rs, fun H1 ρ1 v e1 rs1 r1 => ?_⟩
    have q : tupRngD x m1 = some (d, mh') := q
    cases r1 with
    | int j =>
      simp only [tupRngD] at q
      split at q
      · rename_i hl
        cases q
        exact ⟨j, rfl, hl.1, by omega, fun b hb => ⟨b, j, rfl, upd_same, hl.1, hl.2, Co.newT (rs1.new hb) (rds_range _) (co.ev (e1.trans (Ev.new hb)))⟩⟩
      · cases q
    | _ => cases q
end
end DL
namespace DL
open PySem PySem.Spec PyProof.Rows L2 PySem.W
section
variable {prog : Program} {w : World} {A : Around} {E : Value → Shared → Prop} {κ : SortKind} {it : Array Keyed} {s : Shared}
end
noncomputable def TI (h : Heap) (v : Value) (ns : List Int) : Prop := ∃ (a : Addr) (o : Obj) (its : List Value) (n : Nat), v = .ref a ∧ h.get? a = some o ∧ o.cls = .type "tuple" ∧ o.data = .seq its.toArray n ∧ IntsAre its ns
inductive TIs (h : Heap) : List Value → List (List Int) → Prop
  | nil : TIs h [] []
  | cons {v : Value} {n : Int} {ns : List Int} {vs : List Value} {ts : List (List Int)} : TI h v (n :: ns) → TIs h vs ts → TIs h (v :: vs) ((n :: ns) :: ts)
theorem TIs.grow {h h' : Heap} (k : ∀ b o, h.get? b = some o → h'.get? b = some o) : ∀ {vs : List Value} {ts : List (List Int)}, TIs h vs ts → TIs h' vs ts
  | _, _, .nil => .nil
  | _, _, .cons ⟨a, o, its, n, e1, e2, e3⟩ t => .cons ⟨a, o, its, n, e1, k _ _ e2, e3⟩ (t.grow k)
theorem TIs.tups {h : Heap} : ∀ {vs : List Value} {ts : List (List Int)}, TIs h vs ts → ∃ fs, KatTups h vs fs ∧ fs.length = vs.length ∧ ∀ v ∈ fs, ∃ n t, v = Value.int n t
  | _, _, .nil => ⟨[], KatTups.nil, rfl, fun v hv => by cases hv⟩
  | _, _, .cons ⟨a, o, its, n, e1, e2, e3, e4, e5⟩ t => by
    obtain ⟨fs, k, l, f⟩ := t.tups
    subst e1
    cases e5 with
    | cons _ t0 r => exact ⟨_ :: fs, KatTups.cons e2 e3 e4 rfl k, by simp [l], fun v hv => by
        rcases List.mem_cons.mp hv with rfl | hv
        · exact ⟨_, _, rfl⟩
        · exact f v hv⟩
theorem TIs.at {h : Heap} : ∀ {vs : List Value} {ts : List (List Int)} (k : Nat), TIs h vs ts → k < vs.length → ∃ ns, ts[k]? = some ns ∧ TI h (vs.getD k Value.none) ns
  | _, _, _, .nil, hk => by simp at hk
  | _, _, 0, .cons e t, _ => ⟨_, rfl, e⟩
  | _, _, k + 1, .cons e t, hk => by
    obtain ⟨ns, a1, a2⟩ := TIs.at k t (by simpa using hk)
    exact ⟨ns, by simpa using a1, by simpa using a2⟩
section
variable {prog : Program} {w : World} {A : Around} {E : Value → Shared → Prop} {s : Shared}
end
section
variable {X : Cx}
end
end DL
namespace DL
open PySem PySem.Spec PyProof.Rows L2
structure ZNe (z TI TO i1 i2 : Addr) : Prop where
  TIz : TI ≠ z
  TOz : TO ≠ z
  i1z : i1 ≠ z
  i2z : i2 ≠ z
  TITO : TI ≠ TO
  TIi1 : TI ≠ i1
  TIi2 : TI ≠ i2
  TOi1 : TO ≠ i1
  TOi2 : TO ≠ i2
  i12 : i1 ≠ i2
section
variable {prog : Program} {w : World} {A : Around} {E : Value → Shared → Prop} {s : Shared}
end
noncomputable def Itz (k1 k2 : SeqK) (K : PySem.W.Frag) (l1 l2 : Addr) : It :=
  ⟨fun i H => ∃ xs ys x y, k1.sq K H l1 xs ∧ k2.sq K H l2 ys ∧ xs[i]? = some x ∧ ys[i]? = some y,
   fun i H v H' => ∃ T x y, H T = none ∧ v = .ref T ∧ (∀ xs, k1.sq K H l1 xs → xs[i]? = some x) ∧ (∀ ys, k2.sq K H l2 ys → ys[i]? = some y) ∧ H' = upd H T (.tup [x, y]),
   fun i H => ∃ xs ys, k1.sq K H l1 xs ∧ k2.sq K H l2 ys ∧ (xs.length ≤ i ∨ ys.length ≤ i)⟩
section
variable {prog : Program} {w : World} {A : Around} {E : Value → Shared → Prop} {s : Shared}
end
noncomputable def zipS : List D → MH → Option (Src × MH)
  | [x, y], mh => match srcOf x mh, srcOf y mh with
    | some s, some t => some (.zip s t, mh)
    | _, _ => none
  | _, _ => none
noncomputable def zipM (mr : DM (List D)) : DM Src := mr.bnd fun ds => fun _ mh => zipS ds mh
theorem JR.zip {k1 k2 : SeqK} {K : PySem.W.Frag} {H0 : Hp} {ρ0 : List Addr} {s1 s2 : Src} {a1 a2 : Addr} (S1 : SR k1 K H0 ρ0 s1 a1) (S2 : SR k2 K H0 ρ0 s2 a2) : JR K H0 ρ0 (.zip s1 s2) (Itz k1 k2 K a1 a2) where
  go := fun H ρ mh i d e rs q => by
    have q : (List.zipWith (fun a b => D.tup [a, b]) (s1.items mh) (s2.items mh))[i]? = some d := q
    rw [List.getElem?_zipWith] at q
    cases e1 : (s1.items mh)[i]? with
    | none => rw [e1] at q; simp at q
    | some d1 =>
      cases e2 : (s2.items mh)[i]? with
      | none => rw [e1, e2] at q; simp at q
      | some d2 =>
        rw [e1, e2] at q
        cases q
        obtain ⟨xs, sq, r⟩ := S1.rd H ρ mh e rs (S1.ok mh i d1 e1)
        obtain ⟨ys, sq2, r2⟩ := S2.rd H ρ mh e rs (S2.ok mh i d2 e2)
        obtain ⟨v, ev, rv⟩ := r.get e1
        obtain ⟨u, eu, ru⟩ := r2.get e2
        refine ⟨⟨xs, ys, v, u, sq, sq2, ev, eu⟩, ?_⟩
        rintro x H' ⟨T, x', y', hT, h1, h2, h3, h4⟩
        subst h1
        subst h4
        have t1 := h2 xs sq
        rw [ev] at t1
        cases t1
        have t2 := h3 ys sq2
        rw [eu] at t2
        cases t2
        exact ⟨Ev.new hT, rs.new hT, .tup (.inl (.inl upd_same)) (.cons (rv.mono (Ev.new hT)) (.cons (ru.mono (Ev.new hT)) .nil))⟩
  stop := fun H ρ mh i e rs q => by
    have q : ((s1.ok mh && s2.ok mh) && decide ((List.zipWith (fun a b => D.tup [a, b]) (s1.items mh) (s2.items mh)).length ≤ i)) = true := q
    rw [Bool.and_eq_true, Bool.and_eq_true, List.length_zipWith] at q
    obtain ⟨xs, sq, r⟩ := S1.rd H ρ mh e rs q.1.1
    obtain ⟨ys, sq2, r2⟩ := S2.rd H ρ mh e rs q.1.2
    have := of_decide_eq_true q.2
    refine ⟨xs, ys, sq, sq2, ?_⟩
    rw [← r.length, ← r2.length]
    omega
section
variable {X : Cx}
end
section
variable {X : Cx}
end
noncomputable def methE (T1 : String) (f1 : D → List D → MH → Option (D × MH)) (T2 : String) (f2 : D → List D → MH → Option (D × MH)) (mo : DM D) (mr : DM (List D)) : DM D := fun loc mh => match mo loc mh with
  | some (x, m1) => if tyOk T1 x m1 then methM T1 f1 mo mr loc mh else methM T2 f2 mo mr loc mh
  | none => none
theorem de_methE {X : Cx} {e : Expr} {T1 T2 : String} {f1 f2 : D → List D → MH → Option (D × MH)} {mo : DM D} {mr : DM (List D)} (h1 : DE X e (methM T1 f1 mo mr)) (h2 : DE X e (methM T2 f2 mo mr)) : DE X e (methE T1 f1 T2 f2 mo mr) := fun loc mh => by
  unfold methE
  split
  · split
    · exact h1 loc mh
    · exact h2 loc mh
  · exact PE_none
section
variable {prog : Program} {w : World} {A : Around} {E : Value → Shared → Prop} {s : Shared}
end
inductive DEnts (w : World) (K : PySem.W.Frag) : List DictEntry → List (Str × D) → Prop
  | nil : DEnts w K [] []
  | cons {k : Str} {t : Tok} {u : Value} {v : V} {d : D} {es : List DictEntry} {kvs : List (Str × D)} : RelV v u → (∀ H ρ, RD K H ρ d v) → DEnts w K es kvs → DEnts w K ({ hash := hashStr w k, key := .str k t, val := u } :: es) ((k, d) :: kvs)
structure DicOk (w : World) (K : PySem.W.Frag) (a : Addr) (kvs : List (Str × D)) : Prop where
  ns : (a == sysModules) = false
  ob : ∃ o es ep, K.lookup a = some o ∧ o.ExactDict ∧ o.data = .dict es ep ∧ DEnts w K es.toList kvs
noncomputable def foundAt (es : List DictEntry) (k : Str) : Option Value := match es with
  | [] => none
  | e :: r => if Value.isStrOf k e.key then some e.val else foundAt r k
theorem findBy_list (es : Array DictEntry) (k : Str) : findBy Value.isStrOf es k = foundAt es.toList k := by
  obtain ⟨l⟩ := es
  simp only [findBy, List.find?_toArray]
  induction l with
  | nil => rfl
  | cons e r ih =>
    rw [List.find?_cons]
    show _ = (if Value.isStrOf k e.key = true then some e.val else foundAt r k)
    cases h : Value.isStrOf k e.key with
    | true => rfl
    | false => exact ih
theorem dents_find {w : World} {K : PySem.W.Frag} : ∀ {es : List DictEntry} {kvs : List (Str × D)}, DEnts w K es kvs → ∀ k : Str, (∃ d u v, kvs.lookup k = some d ∧ foundAt es k = some u ∧ RelV v u ∧ ∀ H ρ, RD K H ρ d v) ∨ (kvs.lookup k = none ∧ foundAt es k = none)
  | _, _, .nil, k => .inr ⟨rfl, rfl⟩
  | _, _, @DEnts.cons _ _ k0 t u v d es kvs rv rd h, k => by
    by_cases e : k = k0
    · subst e
      left
      refine ⟨d, u, v, by simp [List.lookup], ?_, rv, rd⟩
      simp [foundAt, Value.isStrOf]
    · have e1 : (k == k0) = false := by simpa using e
      have e2 : Value.isStrOf k (.str k0 t) = false := by
        simp [Value.isStrOf]
        exact fun z => e z.symm
      rcases dents_find h k with ⟨d', u', v', h1, h2, h3, h4⟩ | ⟨h1, h2⟩
      · left
        refine ⟨d', u', v', by rw [List.lookup_cons, e1]; exact h1, ?_, h3, h4⟩
        show (if Value.isStrOf k (.str k0 t) = true then some u else foundAt es k) = some u'
        rw [e2]; exact h2
      · right
        refine ⟨by rw [List.lookup_cons, e1]; exact h1, ?_⟩
        show (if Value.isStrOf k (.str k0 t) = true then some u else foundAt es k) = none
        rw [e2]; exact h2
theorem dents_keys {P : Program} {w : World} {K : PySem.W.Frag} {es : List DictEntry} {kvs : List (Str × D)} (h : DEnts w K es kvs) : ∀ e ∈ es, ∃ k, (PySem.strKind P w).is k e.key = true ∧ e.hash = (PySem.strKind P w).hash k := by
  induction h with
  | nil => intro e he; cases he
  | cons rv rd h ih =>
    intro e he
    rcases List.mem_cons.mp he with rfl | he
    · exact ⟨_, by simp [PySem.strKind, Value.isStrOf], rfl⟩
    · exact ih e he
section
variable {X : Cx} {a : Addr} {kvs : List (Str × D)}
theorem DicOk.map {pins : List (Addr × Obj)} {σ : L2.St} {H : Hp} {s : Shared} (D : DicOk X.w X.K a kvs) (I : Inv X pins σ H s) : ∃ f, s.heap.MapOf (PySem.strKind X.prog X.w) a f ∧ ∀ k, (∃ d u v, kvs.lookup k = some d ∧ f k = some u ∧ RelV v u ∧ ∀ H ρ, RD X.K H ρ d v) ∨ (kvs.lookup k = none ∧ f k = none) := by
  obtain ⟨o, es, ep, h1, h2, h3, h4⟩ := D.ob
  refine ⟨foundAt es.toList, ⟨o, es, ep, I.kIn a o h1, h2, h3, fun e he => dents_keys h4 e (by simpa using he), fun k => findBy_list es k⟩, dents_find h4⟩
theorem op_inDic (D : DicOk X.w X.K a kvs) : OpR X (compareOp .In) (fun y x H Q => ∃ k, y = .str k ∧ x = .ref a ∧ Q (.bl (kvs.lookup k).isSome) H) := by
  rintro pins s σ H x y v u Q I rx ry ⟨k, ex, ey, q⟩
  subst ex; subst ey
  obtain ⟨t, rfl⟩ := rx
  cases ry
  obtain ⟨f, m, hf⟩ := D.map I
  refine wpAny_in_of (knd := PySem.strKind X.prog X.w) (strKind_is _ _ k t) D.ns m ?_
  have e : (f k).isSome = (kvs.lookup k).isSome := by
    rcases hf k with ⟨d, u, v, h1, h2, _⟩ | ⟨h1, h2⟩
    · rw [h1, h2]; rfl
    · rw [h1, h2]; rfl
  rw [e]
  exact ⟨.bl _, H, I.tok _, rfl, q⟩
theorem op_notInDic (D : DicOk X.w X.K a kvs) : OpR X (compareOp .NotIn) (fun y x H Q => ∃ k, y = .str k ∧ x = .ref a ∧ Q (.bl (!(kvs.lookup k).isSome)) H) := by
  rintro pins s σ H x y v u Q I rx ry ⟨k, ex, ey, q⟩
  subst ex; subst ey
  obtain ⟨t, rfl⟩ := rx
  cases ry
  obtain ⟨f, m, hf⟩ := D.map I
  refine wpAny_notIn_of (knd := PySem.strKind X.prog X.w) (strKind_is _ _ k t) D.ns m ?_
  have e : (f k).isSome = (kvs.lookup k).isSome := by
    rcases hf k with ⟨d, u, v, h1, h2, _⟩ | ⟨h1, h2⟩
    · rw [h1, h2]; rfl
    · rw [h1, h2]; rfl
  rw [e]
  exact ⟨.bl _, H, I.tok _, rfl, q⟩
theorem ix_dic (D : DicOk X.w X.K a kvs) : IxR X (fun x y H Q => ∃ k d, x = .ref a ∧ y = .str k ∧ kvs.lookup k = some d ∧ ∀ v, (∀ H ρ, RD X.K H ρ d v) → Q v H) := by
  rintro value slice pins s σ H x y v u Q I rx ry ⟨k, d, ex, ey, hl, q⟩ hs
  subst ex; subst ey
  cases rx
  obtain ⟨t, rfl⟩ := ry
  obtain ⟨f, m, hf⟩ := D.map I
  rcases hf k with ⟨d', u', v', h1, h2, h3, h4⟩ | ⟨h1, h2⟩
  · rw [hl] at h1
    cases h1
    exact subscriptTail_builtinR (x := u') m.typeIs PySem.F.slot_dict_getitem.lookup (wpAny_getItem_of (knd := PySem.strKind X.prog X.w) (strKind_is _ _ k t) m h2 ⟨rfl, ⟨v', H, I.tok _, h3, q v' h4⟩⟩) hs
  · rw [hl] at h1; cases h1
variable {e : Expr} {me : DM D} {x : Str} {p pos : Pos}
noncomputable def dicIn (neg : Bool) (kvs : List (Str × D)) (m : DM D) : DM D := m.bnd fun y => match y with
  | .str k => DM.ret (.bl (if neg then !(kvs.lookup k).isSome else (kvs.lookup k).isSome))
  | _ => DM.bad
noncomputable def dicIx (kvs : List (Str × D)) (m : DM D) : DM D := m.bnd fun y => match y with
  | .str k => (match kvs.lookup k with | some d => DM.ret d | none => DM.bad)
  | _ => DM.bad
theorem de_dicIn (D : DicOk X.w X.K a kvs) (hg : Gl X x) (hm : X.mg x = some (.ref a)) (hd : (x == ("__debug__" : Str)) = false) (he : DE X e me) : DE X (.Compare e [.In] [.Name x p] pos) (dicIn false kvs me) := fun loc mh =>
  PE_imp (pe_cmpR (op_inDic D) (he loc mh) (pe_glob (v := .ref a) hg hm rfl hd) rfl) fun σ H Q ⟨ρ, d, mh', q, rl, rs, co⟩ => by
    obtain ⟨y, m1, ea, q⟩ := bnd_some q
    cases y with
    | str k => cases q; exact ⟨ρ, _, _, ea, rl, rs, fun H1 ρ1 v e1 rs1 r1 => by cases r1; exact ⟨k, rfl, rfl, co H1 ρ1 _ e1 rs1 (.bl _)⟩⟩
    | _ => cases q
theorem de_dicNotIn (D : DicOk X.w X.K a kvs) (hg : Gl X x) (hm : X.mg x = some (.ref a)) (hd : (x == ("__debug__" : Str)) = false) (he : DE X e me) : DE X (.Compare e [.NotIn] [.Name x p] pos) (dicIn true kvs me) := fun loc mh =>
  PE_imp (pe_cmpR (op_notInDic D) (he loc mh) (pe_glob (v := .ref a) hg hm rfl hd) rfl) fun σ H Q ⟨ρ, d, mh', q, rl, rs, co⟩ => by
    obtain ⟨y, m1, ea, q⟩ := bnd_some q
    cases y with
    | str k => cases q; exact ⟨ρ, _, _, ea, rl, rs, fun H1 ρ1 v e1 rs1 r1 => by cases r1; exact ⟨k, rfl, rfl, co H1 ρ1 _ e1 rs1 (.bl _)⟩⟩
    | _ => cases q
theorem dt_dicIn (D : DicOk X.w X.K a kvs) (hg : Gl X x) (hm : X.mg x = some (.ref a)) (hd : (x == ("__debug__" : Str)) = false) (he : DE X e me) : DT X (.Compare e [.In] [.Name x p] pos) (boolD (dicIn false kvs me)) := fun loc mh =>
  PT_imp (pt_cmpR (op_inDic D) (he loc mh) (pe_glob (v := .ref a) hg hm rfl hd) rfl) fun σ H Q ⟨ρ, b, mh', q, rl, rs, co⟩ => by
    have q := boolD_some q
    obtain ⟨y, m1, ea, q⟩ := bnd_some q
    cases y with
    | str k => cases q; exact ⟨ρ, _, _, ea, rl, rs, fun H1 ρ1 v e1 rs1 r1 => by cases r1; exact ⟨k, rfl, rfl, _, rfl, co H1 ρ1 e1 rs1⟩⟩
    | _ => cases q
theorem dt_dicNotIn (D : DicOk X.w X.K a kvs) (hg : Gl X x) (hm : X.mg x = some (.ref a)) (hd : (x == ("__debug__" : Str)) = false) (he : DE X e me) : DT X (.Compare e [.NotIn] [.Name x p] pos) (boolD (dicIn true kvs me)) := fun loc mh =>
  PT_imp (pt_cmpR (op_notInDic D) (he loc mh) (pe_glob (v := .ref a) hg hm rfl hd) rfl) fun σ H Q ⟨ρ, b, mh', q, rl, rs, co⟩ => by
    have q := boolD_some q
    obtain ⟨y, m1, ea, q⟩ := bnd_some q
    cases y with
    | str k => cases q; exact ⟨ρ, _, _, ea, rl, rs, fun H1 ρ1 v e1 rs1 r1 => by cases r1; exact ⟨k, rfl, rfl, _, rfl, co H1 ρ1 e1 rs1⟩⟩
    | _ => cases q
theorem de_dicIx (D : DicOk X.w X.K a kvs) (hg : Gl X x) (hm : X.mg x = some (.ref a)) (hd : (x == ("__debug__" : Str)) = false) (he : DE X e me) (hs : PlainIx e) : DE X (.Subscript (.Name x p) e pos) (dicIx kvs me) := fun loc mh =>
  PE_imp (pe_ix (ix_dic D) (pe_glob (v := .ref a) hg hm rfl hd) (he loc mh) hs) fun σ H Q ⟨ρ, d, mh', q, rl, rs, co⟩ => by
    obtain ⟨y, m1, ea, q⟩ := bnd_some q
    cases y with
    | str k =>
      cases hl : kvs.lookup k with
      | some d' =>
        simp only [hl] at q
        cases q
        exact ⟨ρ, _, _, ea, rl, rs, fun H1 ρ1 v e1 rs1 r1 => by cases r1; exact ⟨k, d, rfl, rfl, hl, fun v' hv => co H1 ρ1 _ e1 rs1 (hv H1 ρ1)⟩⟩
      | none =>
        simp only [hl] at q
        cases q
    | _ => cases q
end
mutual
noncomputable def rdV (K : PySem.W.Frag) : Nat → Value → Option D
  | _, .none => some .non
  | _, .bool b => some (.bl b)
  | _, .int i _ => some (.int i)
  | _, .str x _ => some (.str x)
  | n + 1, .ref a => match K.lookup a with
    | some ⟨.type c, none, .seq its _, _⟩ => if c == "tuple" && decide (its.size ≤ 1000) then (match rdVs K n its.toList with | some ds => some (.tup ds) | none => none) else none
    | _ => none
  | _, _ => none
noncomputable def rdVs (K : PySem.W.Frag) : Nat → List Value → Option (List D)
  | _, [] => some []
  | 0, _ :: _ => none
  | n + 1, u :: r => match rdV K n u with
    | some d => (match rdVs K n r with | some ds => some (d :: ds) | none => none)
    | none => none
end
mutual
theorem rdV_ok {K : PySem.W.Frag} : ∀ (n : Nat) {u : Value} {d : D}, rdV K n u = some d → ∃ v, RelV v u ∧ ∀ H ρ, RD K H ρ d v
  | n, .none, d, h => by cases n <;> (simp only [rdV] at h; cases h; exact ⟨.non, rfl, fun _ _ => .non⟩)
  | n, .bool b, d, h => by cases n <;> (simp only [rdV] at h; cases h; exact ⟨.bl b, rfl, fun _ _ => .bl b⟩)
  | n, .int i t, d, h => by cases n <;> (simp only [rdV] at h; cases h; exact ⟨.int i, ⟨t, rfl⟩, fun _ _ => .int i⟩)
  | n, .str x t, d, h => by cases n <;> (simp only [rdV] at h; cases h; exact ⟨.str x, ⟨t, rfl⟩, fun _ _ => .str x⟩)
  | 0, .ref a, d, h => by simp only [rdV] at h; cases h
  | n + 1, .ref a, d, h => by
    simp only [rdV] at h
    split at h
    · rename_i c its ep sl hk
      split at h
      · rename_i hc
        rw [Bool.and_eq_true, decide_eq_true_iff] at hc
        split at h
        · rename_i ds hd
          cases h
          obtain ⟨vs, h1, h2⟩ := rdVs_ok n hd
          refine ⟨.ref a, rfl, fun H ρ => .tup (.inr ⟨_, its, ep, hk, by rw [eq_of_beq hc.1], rfl, rfl, ?_, h1⟩) (h2 H ρ)⟩
          rw [sizeLine_eq]; omega
        · cases h
      · cases h
    · cases h
  | n, .float _ _, d, h => by cases n <;> (simp only [rdV] at h; cases h)
  | n, .bytes _ _, d, h => by cases n <;> (simp only [rdV] at h; cases h)
  | n, .ellipsis, d, h => by cases n <;> (simp only [rdV] at h; cases h)
  | n, .notImplemented, d, h => by cases n <;> (simp only [rdV] at h; cases h)
  | n, .type _, d, h => by cases n <;> (simp only [rdV] at h; cases h)
  | n, .builtin _, d, h => by cases n <;> (simp only [rdV] at h; cases h)
theorem rdVs_ok {K : PySem.W.Frag} : ∀ (n : Nat) {us : List Value} {ds : List D}, rdVs K n us = some ds → ∃ vs, Vals vs us ∧ ∀ H ρ, RDs K H ρ ds vs
  | n, [], ds, h => by cases n <;> (simp only [rdVs] at h; cases h; exact ⟨[], .nil, fun _ _ => .nil⟩)
  | 0, _ :: _, ds, h => by simp only [rdVs] at h; cases h
  | n + 1, u :: r, ds, h => by
    simp only [rdVs] at h
    split at h
    · rename_i d hd
      split at h
      · rename_i ds' hr
        cases h
        obtain ⟨v, a1, a2⟩ := rdV_ok n hd
        obtain ⟨vs, b1, b2⟩ := rdVs_ok n hr
        exact ⟨v :: vs, .cons a1 b1, fun H ρ => .cons (a2 H ρ) (b2 H ρ)⟩
      · cases h
    · cases h
end
theorem zip_lookup {K : PySem.W.Frag} {H : Hp} {ρ : List Addr} {f : Str} {d : D} : ∀ {ks : List Str} {ds : List D} {xs : List V}, RDs K H ρ ds xs → (ks.zip ds).lookup f = some d → ∃ v, (ks.zip xs).lookup f = some v ∧ RD K H ρ d v
  | [], _, _, _, h => by simp at h
  | k :: ks, _, _, .nil, h => by simp at h
  | k :: ks, _, _, .cons r t, h => by
    rw [List.zip_cons_cons, List.lookup_cons] at h ⊢
    cases e : f == k with
    | true => rw [e] at h; cases h; exact ⟨_, rfl, r⟩
    | false => rw [e] at h; exact zip_lookup t h
theorem zip_none {f : Str} : ∀ {ks : List Str} {xs : List V}, ks.contains f = false → (ks.zip xs).lookup f = none
  | [], _, _ => by simp
  | k :: ks, [], _ => by simp
  | k :: ks, x :: xs, h => by
    rw [List.contains_cons, Bool.or_eq_false_iff] at h
    rw [List.zip_cons_cons, List.lookup_cons, h.1]
    exact zip_none h.2
noncomputable def fldD (c f : Str) (x : D) (mh : MH) : Option (D × MH) := match x with
  | .obj c' ks ds => if c' == c then (match (ks.zip ds).lookup f with | some d => some (d, mh) | none => none) else none
  | _ => none
section
variable {X : Cx} {o : Expr} {mo : DM D} {c f : Str} {C : Addr} {pos apos : Pos}
theorem de_fld (hn : PySem.W.nsIn X.K mainGlobals c = some (some (.ref C))) (hc : Cls X.K C) (ha : NoAttr X.K C f) (ho : DE X o mo) (hb : attributeBase o f X.env (eval o X.env) = eval o X.env) : DE X (.Attribute o f pos) (mo.bnd fun x => DM.lift (fldD c f x)) := fun loc mh =>
  PE_imp (pe_fld (ho loc mh) hb) fun σ H Q ⟨ρ, d, mh', q, rl, rs, co⟩ => by
    obtain ⟨x, m1, ea, q2⟩ := bnd_some q
    clear q
    refine ⟨ρ, x, m1, ea, rl, rs, fun H1 ρ1 v e1 rs1 r1 => ?_⟩
    change fldD c f x m1 = some (d, mh') at q2
    cases r1 with
    | @obj c' ks ds a C' dx xs h1 h2 h3 h4 =>
      simp only [fldD] at q2
      split at q2
      · rename_i hcc
        have e := eq_of_beq hcc
        subst e
        rw [hn] at h1
        cases h1
        split at q2
        · rename_i d' hl
          cases q2
          obtain ⟨v', l1, l2⟩ := zip_lookup h4 hl
          exact ⟨a, C, dx, _, v', rfl, h2, hc, ha, l1, co H1 ρ1 _ e1 rs1 l2⟩
        · cases q2
      · cases q2
    | _ => cases q2
noncomputable def methO (c m : Str) (f : List D → MH → Option (D × MH)) (mo : DM D) (mr : DM (List D)) : DM D := mo.bnd fun x => match x with
  | .obj c' ks ds => if c' == c && !(ks.contains m) then mr.bnd fun as => DM.lift (f (.obj c' ks ds :: as)) else DM.bad
  | _ => DM.bad
theorem eval_meth {env : Env} {o : Expr} {m : Str} {args : List Expr} (hbase : attributeBase o m env (eval o env) = eval o env)
    (hfew : ((backTo pos (starEach args env)).all (fun x => !x.1) && (backToKw pos (keywordEach [] env)).all (fun x => x.1.isSome) && decide (args.length + ([] : List Keyword).length + (if ([] : List Keyword).isEmpty then 0 else 1) < 30)) = true)
    (hline : (apos.endLine == pos.line) = true) :
    eval (.Call (.Attribute o m apos) args [] pos) env = (do
      let ov ← eval o env
      standAt apos.atName
      let (f, first) ← holding [ov] (getMethod ov m (do return (← importBound o env).getD true))
      callWith pos f first (backTo pos (starEach args env)) (backToKw pos (keywordEach [] env))) := by
  rw [arm_eval_Call, hbase]
  have hform : methodCallForm (args.length + ([] : List Keyword).length) (backTo pos (starEach args env)) (backToKw pos (keywordEach [] env)) = true := hfew
  have hpos : methodCallPos true o env apos pos = pure pos := by unfold methodCallPos; simp [hline]
  unfold methodCall
  rw [hform, hpos]
  rfl
variable {CX : CXT} {k : Nat} {fa : Addr} {fd : FuncData} {ps : List Str} {m : Str} {g : List D → MH → Option (D × MH)} {e : Expr} {es : List Expr} {mr : DM (List D)} {E : XK}
theorem methO_some {loc : Loc} {mh : MH} {r : D × MH} (h : methO c m g mo mr loc mh = some r) : ∃ ks ds m1, mo loc mh = some (.obj c ks ds, m1) ∧ ks.contains m = false ∧ ∃ as m2, mr loc m1 = some (as, m2) ∧ g (.obj c ks ds :: as) m2 = some r := by
  obtain ⟨x, m1, ea, h2⟩ := bnd_some h
  clear h
  cases x with
  | obj c' ks ds =>
    simp only at h2
    split at h2
    · rename_i hc
      rw [Bool.and_eq_true] at hc
      have ec := eq_of_beq hc.1
      subst ec
      obtain ⟨as, m2, eb, h3⟩ := bnd_some h2
      exact ⟨ks, ds, m1, ea, by simpa using hc.2, as, m2, eb, h3⟩
    · cases h2
  | _ => cases h2
theorem de_meth (hn : PySem.W.nsIn X.K mainGlobals c = some (some (.ref C))) (hc : Cls X.K C) (hm : Meth X.K C m fa) (F : FnOk X.prog X.w X.K X.mg X.base CX k fa fd ps (spD X.K ps.length g)) (hr : Room k X.A) (hb : Binds X.K fd ps []) (hx : Passes CX X E) (ho : DE X o mo) (ha : DA X (e :: es) mr)
    (hl : ∀ ds mh r, g ds mh = some r → ds.length = ps.length) (hbase : attributeBase o m X.env (eval o X.env) = eval o X.env)
    (hfew : ((backTo pos (starEach (e :: es) X.env)).all (fun x => !x.1) && (backToKw pos (keywordEach [] X.env)).all (fun x => x.1.isSome) && decide ((e :: es).length + ([] : List Keyword).length + (if ([] : List Keyword).isEmpty then 0 else 1) < 30)) = true)
    (hline : (apos.endLine == pos.line) = true) (hst : starEach (e :: es) X.env = (false, eval e X.env) :: starEach es X.env) (hpl : (backTo pos (starEach es X.env)).any (·.1) = false) :
    DE X (.Call (.Attribute o m apos) (e :: es) [] pos) (methO c m g mo mr) := fun loc mh => by
  cases eq : methO c m g mo mr loc mh with
  | none => exact PE_none
  | some r =>
    obtain ⟨ks, ds, m1, ea, hk, as, m2, eb, hg⟩ := methO_some eq
    refine PE_imp (pe_meth (ho loc mh) hc hm F hr hb .nil hx (ha loc m1) hst hpl (eval_meth hbase hfew hline)) ?_
    rintro σ H Q ⟨ρ, d, mh', q, rl, rs, co⟩
    cases q
    refine ⟨ρ, _, m1, ea, rl, rs, fun H1 ρ1 v e1 rs1 r1 => ?_⟩
    cases r1 with
    | @obj _ _ _ a C' dx xs h1 h2 h3 h4 =>
      rw [hn] at h1
      cases h1
      refine ⟨a, dx, _, rfl, h2, zip_none hk, ρ1, as, m2, eb, rl.mono e1, rs1, fun H2 ρ2 vs e2 rs2 r2 => ?_⟩
      show spD X.K ps.length g (.ref a :: (vs ++ [])) H2 Q E
      rw [List.append_nil]
      have rr : RDs X.K H2 ρ2 (.obj c ks ds :: as) (.ref a :: vs) := .cons (.obj hn (e2.ins _ _ _ _ h2) h3 (h4.mono e2)) r2
      exact ⟨by rw [← rr.length]; exact hl _ _ _ hg, ρ2, m2, _, d, mh', hg, rs2, rr, co.ev (e1.trans e2)⟩
theorem de_meth0 (hn : PySem.W.nsIn X.K mainGlobals c = some (some (.ref C))) (hc : Cls X.K C) (hm : Meth X.K C m fa) (F : FnOk X.prog X.w X.K X.mg X.base CX k fa fd ps (spD X.K ps.length g)) (hr : Room k X.A) (hb : Binds X.K fd ps []) (hx : Passes CX X E) (ho : DE X o mo)
    (hl : ∀ ds mh r, g ds mh = some r → ds.length = ps.length) (hbase : attributeBase o m X.env (eval o X.env) = eval o X.env) (hline : (apos.endLine == pos.line) = true) :
    DE X (.Call (.Attribute o m apos) [] [] pos) (methO c m g mo (DM.ret [])) := fun loc mh => by
  cases eq : methO c m g mo (DM.ret []) loc mh with
  | none => exact PE_none
  | some r =>
    obtain ⟨ks, ds, m1, ea, hk, as, m2, eb, hg⟩ := methO_some eq
    cases eb
    refine PE_imp (pe_meth0 (ho loc mh) hc hm F hr hb .nil hx (eval_meth hbase rfl hline)) ?_
    rintro σ H Q ⟨ρ, d, mh', q, rl, rs, co⟩
    cases q
    refine ⟨ρ, _, m1, ea, rl, rs, fun H1 ρ1 v e1 rs1 r1 => ?_⟩
    cases r1 with
    | @obj _ _ _ a C' dx xs h1 h2 h3 h4 =>
      rw [hn] at h1
      cases h1
      refine ⟨a, dx, _, rfl, h2, zip_none hk, ?_⟩
      have rr : RDs X.K H1 ρ1 [.obj c ks ds] [.ref a] := .cons (.obj hn h2 h3 h4) .nil
      have hl1 : [V.ref a].length = ps.length := by rw [← rr.length]; exact hl _ _ _ hg
      exact ⟨hl1, ρ1, m1, _, d, mh', hg, rs1, rr, co.ev e1⟩
noncomputable def spI (C : Addr) (f : Str) : Sp := fun vs H Q _ => ∃ x dx v, vs = [.ref x, v] ∧ H x = some (.ins C dx []) ∧ Q .non (upd H x (.ins C dx [(f, v)]))
theorem de_make {x : Str} {p : Pos} {ma : DM D} {a : Expr} (hn : PySem.W.nsIn X.K mainGlobals x = some (some (.ref C))) (M : Mk X.K C fa) (F : FnOk X.prog X.w X.K X.mg X.base CX k fa fd ps (spI C f)) (hr : Room (k + 1) X.A) (hg : Gl X x) (hm : X.mg x = some (.ref C)) (hb : Binds X.K fd ps []) (hx : Passes CX X E)
    (ha : DE X a ma) (hdb : (x == ("__debug__" : Str)) = false) (hs : starEach [a] X.env = (false, eval a X.env) :: starEach [] X.env) :
    DE X (.Call (.Name x p) [a] [] pos) (ma.bnd fun d => DM.ret (.obj x [f] [d])) := fun loc mh =>
  PE_imp (pe_make M F hr hg hm hb .nil hx (pa_cons (ha loc mh) pa_nil hs) hdb hs) fun σ H Q ⟨ρ, d, mh', q, rl, rs, co⟩ => by
    obtain ⟨y, m1, ea, q⟩ := bnd_some q
    cases q
    refine ⟨ρ, y, _, ea, rl, rs, fun H1 ρ1 v e1 rs1 r1 => fun z dx hz hdx hne => ?_⟩
    refine ⟨z, dx, v, rfl, upd_same, rfl, ?_⟩
    have e2 : Ev X.K H1 ρ1 (upd (upd H1 dx (.own z)) z (.ins C dx [])) ρ1 := (Ev.new hdx).trans (Ev.new (by rw [upd_ne (Ne.symm hne)]; exact hz))
    have rs2 : RS X.K (upd (upd H1 dx (.own z)) z (.ins C dx [])) ρ1 mh' := (rs1.new hdx).new (by rw [upd_ne (Ne.symm hne)]; exact hz)
    rw [upd_upd]
    have hz' : upd H1 dx (HO.own z) z = none := by rw [upd_ne (Ne.symm hne)]; exact hz
    refine co _ ρ1 _ (e1.trans ((Ev.new hdx).trans (Ev.new hz'))) ((rs1.new hdx).new hz') ?_
    exact .obj (xs := [v]) hn upd_same rfl (.cons (r1.mono ((Ev.new hdx).trans (Ev.new hz'))) .nil)
end
theorem init_ok {P : Program} {w : World} {K : PySem.W.Frag} {mg : Str → Option Value} {base : Heap} {qual : Str} {st : Stmt} {fa C : Addr} {fd : FuncData} {s q f : Str} {p1 p2 p3 p4 : Pos} (F : Fun K "__init__" qual st fa fd) (S : FnScope [s, q] [s, q] (defScope st)) (hb : defBody st = [.Assign [.Attribute (.Name s p1) f p2] (.Name q p3) p4])
    (hs1 : Vis (defScope st) s) (hq1 : Vis (defScope st) q) (hc : Cls K C) (ha : NoAttr K C f) (d1 : (s == ("__debug__" : Str)) = false ∧ (s == ("__classdict__" : Str)) = false) (d2 : (q == ("__debug__" : Str)) = false ∧ (q == ("__classdict__" : Str)) = false) : FnOk P w K mg base CX0 1 fa fd [s, q] (spI C f) := by
  refine F.ok S (fun vs H Q E h => ?_) fun cdv A outer sh H vs Q E hr h => ?_
  · obtain ⟨x, dx, v, rfl, _⟩ := h
    rfl
  · obtain ⟨x, dx, v, rfl, hx, hQ⟩ := h
    rw [hb]
    refine ⟨_, pss_one (ps_fld (pe_var (i := 0) rfl ?_ d1.1 d1.2) (pe_var (i := 1) rfl ?_ d2.1 d2.2) rfl), ?_⟩
    · exact hs1
    · exact hq1
    · exact ⟨v, rfl, .ref x, rfl, x, C, dx, [], rfl, hx, hc, ha, by show 0 < 1000; decide, hQ⟩
noncomputable abbrev Fn := List D → MH → Option (D × MH)
noncomputable def attrM (ok : Str → Str → Bool) (f : Str) (mo : DM D) : DM D := mo.bnd fun x => match x with
  | .obj c ks ds => if ok c f then DM.lift (fldD c f (.obj c ks ds)) else DM.bad
  | _ => DM.bad
noncomputable def objM (met : Str → Str → Option (List Str × Fn)) (m : Str) (mo : DM D) (mr : DM (List D)) : DM D := mo.bnd fun x => match x with
  | .obj c ks ds => (match met c m with
    | some (_, g) => if ks.contains m then DM.bad else mr.bnd fun as => DM.lift (g (.obj c ks ds :: as))
    | none => DM.bad)
  | _ => DM.bad
section
variable {X : Cx} {o : Expr} {mo : DM D} {f m : Str} {pos apos : Pos}
theorem de_attr {ok : Str → Str → Bool} (hok : ∀ c, ok c f = true → ∃ C, PySem.W.nsIn X.K mainGlobals c = some (some (.ref C)) ∧ Cls X.K C ∧ NoAttr X.K C f) (ho : DE X o mo) (hb : attributeBase o f X.env (eval o X.env) = eval o X.env) : DE X (.Attribute o f pos) (attrM ok f mo) := fun loc mh => by
  cases ea : mo loc mh with
  | none =>
    have : attrM ok f mo loc mh = none := by unfold attrM DM.bnd; rw [ea]
    rw [this]; exact PE_none
  | some pr =>
    obtain ⟨x, m1⟩ := pr
    cases x with
    | obj c ks ds =>
      by_cases h : ok c f = true
      · obtain ⟨C, h1, h2, h3⟩ := hok c h
        have e : attrM ok f mo loc mh = (mo.bnd fun x => DM.lift (fldD c f x)) loc mh := by unfold attrM DM.bnd; rw [ea]; dsimp only; rw [if_pos h]
        rw [e]; exact de_fld h1 h2 h3 ho hb loc mh
      · have : attrM ok f mo loc mh = none := by unfold attrM DM.bnd; rw [ea]; dsimp only; rw [if_neg h]; rfl
        rw [this]; exact PE_none
    | _ =>
      have : attrM ok f mo loc mh = none := by unfold attrM DM.bnd; rw [ea]; rfl
      rw [this]; exact PE_none
theorem objM_eq {met : Str → Str → Option (List Str × Fn)} {mr : DM (List D)} {loc : Loc} {mh m1 : MH} {c : Str} {ks : List Str} {ds : List D} {ps : List Str} {g : Fn} (ea : mo loc mh = some (.obj c ks ds, m1)) (hm : met c m = some (ps, g)) : objM met m mo mr loc mh = methO c m g mo mr loc mh := by
  unfold objM methO DM.bnd
  rw [ea]; dsimp only
  rw [hm]; dsimp only
  cases hk : ks.contains m with
  | true => rw [if_pos rfl, if_neg (by simp)]
  | false => rw [if_neg (by simp), if_pos (by simp)]
theorem de_objM {k : Nat} {E : XK} {e : Expr} {es : List Expr} {mr : DM (List D)} {met : Str → Str → Option (List Str × Fn)}
    (hm : ∀ c ps g, met c m = some (ps, g) → ∃ C fa fd, PySem.W.nsIn X.K mainGlobals c = some (some (.ref C)) ∧ Cls X.K C ∧ Meth X.K C m fa ∧ Binds X.K fd ps [] ∧ FnOk X.prog X.w X.K X.mg X.base CX0 k fa fd ps (spD X.K ps.length g) ∧ ∀ ds mh r, g ds mh = some r → ds.length = ps.length)
    (hr : Room k X.A) (hx : Passes CX0 X E) (ho : DE X o mo) (ha : DA X (e :: es) mr) (hbase : attributeBase o m X.env (eval o X.env) = eval o X.env)
    (hfew : ((backTo pos (starEach (e :: es) X.env)).all (fun x => !x.1) && (backToKw pos (keywordEach [] X.env)).all (fun x => x.1.isSome) && decide ((e :: es).length + ([] : List Keyword).length + (if ([] : List Keyword).isEmpty then 0 else 1) < 30)) = true)
    (hline : (apos.endLine == pos.line) = true) (hst : starEach (e :: es) X.env = (false, eval e X.env) :: starEach es X.env) (hpl : (backTo pos (starEach es X.env)).any (·.1) = false) :
    DE X (.Call (.Attribute o m apos) (e :: es) [] pos) (objM met m mo mr) := fun loc mh => by
  cases ea : mo loc mh with
  | none =>
    have : objM met m mo mr loc mh = none := by unfold objM DM.bnd; rw [ea]
    rw [this]; exact PE_none
  | some pr =>
    obtain ⟨x, m1⟩ := pr
    cases x with
    | obj c ks ds =>
      cases em : met c m with
      | none =>
        have : objM met m mo mr loc mh = none := by unfold objM DM.bnd; rw [ea]; dsimp only; rw [em]; rfl
        rw [this]; exact PE_none
      | some pg =>
        obtain ⟨ps, g⟩ := pg
        obtain ⟨C, fa, fd, h1, h2, h3, h4, h5, h6⟩ := hm c ps g em
        rw [objM_eq ea em]
        exact de_meth (E := E) h1 h2 h3 h5 hr h4 hx ho ha h6 hbase hfew hline hst hpl loc mh
    | _ =>
      have : objM met m mo mr loc mh = none := by unfold objM DM.bnd; rw [ea]; rfl
      rw [this]; exact PE_none
theorem de_objM0 {k : Nat} {E : XK} {met : Str → Str → Option (List Str × Fn)}
    (hm : ∀ c ps g, met c m = some (ps, g) → ∃ C fa fd, PySem.W.nsIn X.K mainGlobals c = some (some (.ref C)) ∧ Cls X.K C ∧ Meth X.K C m fa ∧ Binds X.K fd ps [] ∧ FnOk X.prog X.w X.K X.mg X.base CX0 k fa fd ps (spD X.K ps.length g) ∧ ∀ ds mh r, g ds mh = some r → ds.length = ps.length)
    (hr : Room k X.A) (hx : Passes CX0 X E) (ho : DE X o mo) (hbase : attributeBase o m X.env (eval o X.env) = eval o X.env) (hline : (apos.endLine == pos.line) = true) :
    DE X (.Call (.Attribute o m apos) [] [] pos) (objM met m mo (DM.ret [])) := fun loc mh => by
  cases ea : mo loc mh with
  | none =>
    have : objM met m mo (DM.ret []) loc mh = none := by unfold objM DM.bnd; rw [ea]
    rw [this]; exact PE_none
  | some pr =>
    obtain ⟨x, m1⟩ := pr
    cases x with
    | obj c ks ds =>
      cases em : met c m with
      | none =>
        have : objM met m mo (DM.ret []) loc mh = none := by unfold objM DM.bnd; rw [ea]; dsimp only; rw [em]; rfl
        rw [this]; exact PE_none
      | some pg =>
        obtain ⟨ps, g⟩ := pg
        obtain ⟨C, fa, fd, h1, h2, h3, h4, h5, h6⟩ := hm c ps g em
        rw [objM_eq ea em]
        exact de_meth0 (E := E) h1 h2 h3 h5 hr h4 hx ho h6 hbase hline loc mh
    | _ =>
      have : objM met m mo (DM.ret []) loc mh = none := by unfold objM DM.bnd; rw [ea]; rfl
      rw [this]; exact PE_none
end
theorem maxL_run {prog : Program} {w : World} {A : Around} {R : Result → Shared → Prop} {I : Addr} {fp wr : List Addr} {n : Nat} {P : Nat → Value → Prop} {St : Nat → Heap → Prop} {dv : Value} {bt : Nat → Nat → Bool} {S : Addr} (W : Walks prog w A.in1 I fp wr n P St) (cm : CmpOf prog w A.in1 .Gt P bt) (nf : S ∉ fp) :
    ∀ (k j : Nat) (t : Shared) (vb : Value) (c : Nat), n - (j + 1) = k → j + 1 ≤ n → St (j + 1) t.heap → P (argBest bt j) vb → t.heap.get? S = some { cls := .type "list", dict := none, data := .seq #[vb, vb] c, slots := #[] } →
    (∀ v h' tk, P (argBest bt (n - 1)) v → (∀ b o, b ∉ wr → b ≠ S → t.heap.get? b = some o → h'.get? b = some o) → R (.ok (.ret v)) { t with heap := h', toks := tk }) →
    codeAny (model prog w) A (.builtin "max.loop" ⟨[.ref I, .none, .ref S], [("default", dv)]⟩) R t := by
  have nw : S ∉ wr := fun z => nf (W.sub _ z)
  have nn : (toString "max" ++ toString ".loop" : String) = "max.loop" := by decide
  intro k
  induction k with
  | zero =>
    intro j t vb c hk hj st pb gS fin
    have jn : j + 1 = n := by omega
    refine codeAny_builtin PySem.F.entry_max_loop ?_
    rw [Around.under_plainId PySem.F.plain_max_loop]
    show wpAny _ A.in1 (seqItems? (.ref S) >>= _) _ _ t
    refine wpAny_bind (wpAny_seqItems gS rfl ?_); show wpAny _ A.in1 (tryCatch (pyNext (.ref I)) _ >>= _) _ _ t
    refine wpAny_bind (wpAny_tryCatch (W.done t _ _ (jn ▸ st) fun h' tk ke => ?_))
    have gS' := ke S _ nw gS
    show wpAny _ A.in1 (updateSeq S (fun _ => #[]) >>= _) _ _ _; refine wpAny_bind ?_
    refine wpAny_updateSeq gS' rfl (wpAny_bind (wpAny_letGo (wpAny_pure (fin vb _ tk (by rw [← jn]; exact pb) fun b o bw bS e => ?_))))
    exact (Heap.get?_update_other _ _ (Ne.symm bS)).trans (ke b o bw e)
  | succ k ih =>
    intro j t vb c hk hj st pb gS fin
    have jn : j + 1 < n := by omega
    refine codeAny_builtin PySem.F.entry_max_loop ?_
    rw [Around.under_plainId PySem.F.plain_max_loop]
    show wpAny _ A.in1 (seqItems? (.ref S) >>= _) _ _ t
    refine wpAny_bind (wpAny_seqItems gS rfl ?_); show wpAny _ A.in1 (tryCatch (pyNext (.ref I)) _ >>= _) _ _ t
    refine wpAny_bind (wpAny_tryCatch (W.item (j + 1) t _ _ jn st fun v h' tk pv st' ke => ?_))
    have gS' := ke S _ nw gS
    show wpAny _ A.in1 (tryCatch (holding [v, v] (richCompare .Gt v vb >>= _)) _ >>= _) _ _ _; refine wpAny_bind (wpAny_tryCatch (wpAny_holding (wpAny_bind (cm (j + 1) (argBest bt j) v vb _ _ _ pv pb ?_))))
    refine wpAny_bind (wpAny_holding (wpAny_truthy_bool ?_)); refine wpAny_bind (wpAny_letGo (wpAny_pure ?_))
    cases hb : bt (j + 1) (argBest bt j) with
    | true =>
      rw [if_pos rfl]
      refine wpAny_bind ?_
      refine wpAny_updateSeq gS' rfl (wpAny_bind (wpAny_letGo ?_)); rw [nn]
      refine wpAny_pure ⟨plainId_quiet PySem.F.plain_max_loop _, ih (j + 1) _ v _ (by omega) jn (W.frame _ _ _ st' fun b bf o e => ?_) (by simp only [argBest, hb, if_true]; exact pv) (Heap.get?_update_self _ gS' rfl) fun v' h2 tk2 pv' ke2 => ?_⟩
      · exact (Heap.get?_update_other _ _ (fun z : S = b => nf (by rw [z]; exact bf))).trans e
      · exact fin v' h2 tk2 pv' fun b o bw bS e => ke2 b o bw bS ((Heap.get?_update_other _ _ (Ne.symm bS)).trans (ke b o bw e))
    | false =>
      rw [if_neg Bool.false_ne_true]
      refine wpAny_bind (wpAny_letGo ?_); rw [nn]
      refine wpAny_pure ⟨plainId_quiet PySem.F.plain_max_loop _, ih (j + 1) _ vb c (by omega) jn st' (by simp only [argBest, hb, Bool.false_eq_true, if_false]; exact pb) gS' fun v' h2 tk2 pv' ke2 => ?_⟩
      exact fin v' h2 tk2 pv' fun b o bw bS e => ke2 b o bw bS (ke b o bw e)
theorem max_argsD (a d : Value) : argsOk "max" ⟨[a], [("default", d)]⟩ := by unfold argsOk; kernel_rfl
theorem max_dflt {prog : Program} {w : World} {A : Around} {E : Value → Shared → Prop} {s : Shared} {x dv : Value} {Q : Value → Shared → Prop}
    (h : wpAny (model prog w) A.in1 (pyIter x) (fun it t => ∃ I fp wr n P St bt, it = .ref I ∧ Walks prog w A.in1 I fp wr n P St ∧ St 0 t.heap ∧ (∀ b ∈ fp, b < t.heap.objs.size) ∧ CmpOf prog w A.in1 .Gt P bt ∧
      ((0 < n ∧ ∀ v h' tk, P (argBest bt (n - 1)) v → (∀ b o, b ∉ wr → t.heap.get? b = some o → h'.get? b = some o) → Q v { t with heap := h', toks := tk }) ∨ (n = 0 ∧ ∀ h' tk, (∀ b o, b ∉ wr → t.heap.get? b = some o → h'.get? b = some o) → Q dv { t with heap := h', toks := tk }))) E s) :
    wpAny (model prog w) A (call (.builtin "max") [x] [("default", dv)]) Q E s := by
  have nn : (toString "max" ++ toString ".loop" : String) = "max.loop" := by decide
  refine kmk_tree PySem.F.kind_max PySem.F.plain_max PySem.F.entry_max (max_argsD _ _) ?_
  show wpAny _ A.in1 (Builtin.Builtins.bindParams "max" ["key", "default"] 0 ⟨[], [("default", dv)]⟩ >>= _) _ _ s
  refine wpAny_bind (wpAny_of_eq (show Builtin.Builtins.bindParams "max" ["key", "default"] 0 ⟨[], [("default", dv)]⟩ = pure [none, some dv] from rfl) (wpAny_bind (wpAny_pure ?_)))
  refine wpAny_bind (wpAny_mono h (fun it t hz => ?_) fun _ _ e => e)
  obtain ⟨I, fp, wr, n, P, St, bt, rfl, W, st, lt, cm, fin⟩ := hz
  refine wpAny_bind (wpAny_newObj_type ?_)
  have nf : t.heap.objs.size ∉ fp := fun hm => Nat.lt_irrefl _ (lt _ hm)
  have nw : t.heap.objs.size ∉ wr := fun z => nf (W.sub _ z)
  rw [nn]
  have st0 := W.frame _ _ _ st fun b _ o e => Heap.get?_push_of_some { cls := .type "list", data := .seq #[] } e
  have gS : (t.heap.push { cls := .type "list", data := .seq #[] }).get? t.heap.objs.size = some { cls := .type "list", data := .seq #[] } := Heap.get?_push_size _ rfl
  refine wpAny_pure ⟨plainId_quiet PySem.F.plain_max_loop _, ?_⟩
  refine codeAny_builtin PySem.F.entry_max_loop ?_
  rw [Around.under_plainId PySem.F.plain_max_loop]
  show wpAny _ A.in1 (seqItems? (.ref t.heap.objs.size) >>= _) _ _ _
  refine wpAny_bind (wpAny_seqItems gS rfl ?_); show wpAny _ A.in1 (tryCatch (pyNext (.ref I)) _ >>= _) _ _ _
  rcases fin with ⟨hn, fin⟩ | ⟨hn, fin⟩
  · refine wpAny_bind (wpAny_tryCatch (W.item 0 _ _ _ hn st0 fun v h' tk pv st' ke => ?_))
    have gS' := ke _ _ nw gS
    show wpAny _ A.in1 (updateSeq t.heap.objs.size (fun _ => #[v, v]) >>= _) _ _ _
    refine wpAny_bind (wpAny_updateSeq gS' rfl ?_); rw [nn]
    refine wpAny_pure ⟨plainId_quiet PySem.F.plain_max_loop _, maxL_run W cm nf _ 0 _ v _ rfl hn (W.frame _ _ _ st' fun b bf o e => ?_) pv (Heap.get?_update_self _ gS' rfl) fun v' h2 tk2 pv' ke2 => ?_⟩
    · exact (Heap.get?_update_other _ _ (fun z : t.heap.objs.size = b => nf (by rw [z]; exact bf))).trans e
    · refine fin v' h2 tk2 pv' fun b o bw e => ke2 b o bw (Nat.ne_of_lt (Heap.lt_size e)) ?_
      exact (Heap.get?_update_other _ _ (fun z => Nat.ne_of_lt (Heap.lt_size e) z.symm)).trans (ke b o bw (Heap.get?_push_of_some _ e))
  · subst hn
    refine wpAny_bind (wpAny_tryCatch (W.done _ _ _ st0 fun h' tk ke => ?_))
    refine wpAny_bind (wpAny_rule (wpAny_pure ?_))
    exact fin h' tk fun b o bw e => ke b o bw (Heap.get?_push_of_some _ e)
theorem minL_run {prog : Program} {w : World} {A : Around} {R : Result → Shared → Prop} {I : Addr} {fp wr : List Addr} {n : Nat} {P : Nat → Value → Prop} {St : Nat → Heap → Prop} {dv : Value} {bt : Nat → Nat → Bool} {S : Addr} (W : Walks prog w A.in1 I fp wr n P St) (cm : CmpOf prog w A.in1 .Lt P bt) (nf : S ∉ fp) :
    ∀ (k j : Nat) (t : Shared) (vb : Value) (c : Nat), n - (j + 1) = k → j + 1 ≤ n → St (j + 1) t.heap → P (argBest bt j) vb → t.heap.get? S = some { cls := .type "list", dict := none, data := .seq #[vb, vb] c, slots := #[] } →
    (∀ v h' tk, P (argBest bt (n - 1)) v → (∀ b o, b ∉ wr → b ≠ S → t.heap.get? b = some o → h'.get? b = some o) → R (.ok (.ret v)) { t with heap := h', toks := tk }) →
    codeAny (model prog w) A (.builtin "min.loop" ⟨[.ref I, .none, .ref S], [("default", dv)]⟩) R t := by
  have nw : S ∉ wr := fun z => nf (W.sub _ z)
  have nn : (toString "min" ++ toString ".loop" : String) = "min.loop" := by decide
  intro k
  induction k with
  | zero =>
    intro j t vb c hk hj st pb gS fin
    have jn : j + 1 = n := by omega
    refine codeAny_builtin PySem.F.entry_min_loop ?_
    rw [Around.under_plainId PySem.F.plain_min_loop]
    show wpAny _ A.in1 (seqItems? (.ref S) >>= _) _ _ t
    refine wpAny_bind (wpAny_seqItems gS rfl ?_); show wpAny _ A.in1 (tryCatch (pyNext (.ref I)) _ >>= _) _ _ t
    refine wpAny_bind (wpAny_tryCatch (W.done t _ _ (jn ▸ st) fun h' tk ke => ?_))
    have gS' := ke S _ nw gS
    show wpAny _ A.in1 (updateSeq S (fun _ => #[]) >>= _) _ _ _; refine wpAny_bind ?_
    refine wpAny_updateSeq gS' rfl (wpAny_bind (wpAny_letGo (wpAny_pure (fin vb _ tk (by rw [← jn]; exact pb) fun b o bw bS e => ?_))))
    exact (Heap.get?_update_other _ _ (Ne.symm bS)).trans (ke b o bw e)
  | succ k ih =>
    intro j t vb c hk hj st pb gS fin
    have jn : j + 1 < n := by omega
    refine codeAny_builtin PySem.F.entry_min_loop ?_
    rw [Around.under_plainId PySem.F.plain_min_loop]
    show wpAny _ A.in1 (seqItems? (.ref S) >>= _) _ _ t
    refine wpAny_bind (wpAny_seqItems gS rfl ?_); show wpAny _ A.in1 (tryCatch (pyNext (.ref I)) _ >>= _) _ _ t
    refine wpAny_bind (wpAny_tryCatch (W.item (j + 1) t _ _ jn st fun v h' tk pv st' ke => ?_))
    have gS' := ke S _ nw gS
    show wpAny _ A.in1 (tryCatch (holding [v, v] (richCompare .Lt v vb >>= _)) _ >>= _) _ _ _; refine wpAny_bind (wpAny_tryCatch (wpAny_holding (wpAny_bind (cm (j + 1) (argBest bt j) v vb _ _ _ pv pb ?_))))
    refine wpAny_bind (wpAny_holding (wpAny_truthy_bool ?_)); refine wpAny_bind (wpAny_letGo (wpAny_pure ?_))
    cases hb : bt (j + 1) (argBest bt j) with
    | true =>
      rw [if_pos rfl]
      refine wpAny_bind ?_
      refine wpAny_updateSeq gS' rfl (wpAny_bind (wpAny_letGo ?_)); rw [nn]
      refine wpAny_pure ⟨plainId_quiet PySem.F.plain_min_loop _, ih (j + 1) _ v _ (by omega) jn (W.frame _ _ _ st' fun b bf o e => ?_) (by simp only [argBest, hb, if_true]; exact pv) (Heap.get?_update_self _ gS' rfl) fun v' h2 tk2 pv' ke2 => ?_⟩
      · exact (Heap.get?_update_other _ _ (fun z : S = b => nf (by rw [z]; exact bf))).trans e
      · exact fin v' h2 tk2 pv' fun b o bw bS e => ke2 b o bw bS ((Heap.get?_update_other _ _ (Ne.symm bS)).trans (ke b o bw e))
    | false =>
      rw [if_neg Bool.false_ne_true]
      refine wpAny_bind (wpAny_letGo ?_); rw [nn]
      refine wpAny_pure ⟨plainId_quiet PySem.F.plain_min_loop _, ih (j + 1) _ vb c (by omega) jn st' (by simp only [argBest, hb, Bool.false_eq_true, if_false]; exact pb) gS' fun v' h2 tk2 pv' ke2 => ?_⟩
      exact fin v' h2 tk2 pv' fun b o bw bS e => ke2 b o bw bS (ke b o bw e)
theorem min_argsD (a d : Value) : argsOk "min" ⟨[a], [("default", d)]⟩ := by unfold argsOk; kernel_rfl
theorem min_dflt {prog : Program} {w : World} {A : Around} {E : Value → Shared → Prop} {s : Shared} {x dv : Value} {Q : Value → Shared → Prop}
    (h : wpAny (model prog w) A.in1 (pyIter x) (fun it t => ∃ I fp wr n P St bt, it = .ref I ∧ Walks prog w A.in1 I fp wr n P St ∧ St 0 t.heap ∧ (∀ b ∈ fp, b < t.heap.objs.size) ∧ CmpOf prog w A.in1 .Lt P bt ∧
      ((0 < n ∧ ∀ v h' tk, P (argBest bt (n - 1)) v → (∀ b o, b ∉ wr → t.heap.get? b = some o → h'.get? b = some o) → Q v { t with heap := h', toks := tk }) ∨ (n = 0 ∧ ∀ h' tk, (∀ b o, b ∉ wr → t.heap.get? b = some o → h'.get? b = some o) → Q dv { t with heap := h', toks := tk }))) E s) :
    wpAny (model prog w) A (call (.builtin "min") [x] [("default", dv)]) Q E s := by
  have nn : (toString "min" ++ toString ".loop" : String) = "min.loop" := by decide
  refine kmk_tree PySem.F.kind_min PySem.F.plain_min PySem.F.entry_min (min_argsD _ _) ?_
  show wpAny _ A.in1 (Builtin.Builtins.bindParams "min" ["key", "default"] 0 ⟨[], [("default", dv)]⟩ >>= _) _ _ s
  refine wpAny_bind (wpAny_of_eq (show Builtin.Builtins.bindParams "min" ["key", "default"] 0 ⟨[], [("default", dv)]⟩ = pure [none, some dv] from rfl) (wpAny_bind (wpAny_pure ?_)))
  refine wpAny_bind (wpAny_mono h (fun it t hz => ?_) fun _ _ e => e)
  obtain ⟨I, fp, wr, n, P, St, bt, rfl, W, st, lt, cm, fin⟩ := hz
  refine wpAny_bind (wpAny_newObj_type ?_)
  have nf : t.heap.objs.size ∉ fp := fun hm => Nat.lt_irrefl _ (lt _ hm)
  have nw : t.heap.objs.size ∉ wr := fun z => nf (W.sub _ z)
  rw [nn]
  have st0 := W.frame _ _ _ st fun b _ o e => Heap.get?_push_of_some { cls := .type "list", data := .seq #[] } e
  have gS : (t.heap.push { cls := .type "list", data := .seq #[] }).get? t.heap.objs.size = some { cls := .type "list", data := .seq #[] } := Heap.get?_push_size _ rfl
  refine wpAny_pure ⟨plainId_quiet PySem.F.plain_min_loop _, ?_⟩
  refine codeAny_builtin PySem.F.entry_min_loop ?_
  rw [Around.under_plainId PySem.F.plain_min_loop]
  show wpAny _ A.in1 (seqItems? (.ref t.heap.objs.size) >>= _) _ _ _
  refine wpAny_bind (wpAny_seqItems gS rfl ?_); show wpAny _ A.in1 (tryCatch (pyNext (.ref I)) _ >>= _) _ _ _
  rcases fin with ⟨hn, fin⟩ | ⟨hn, fin⟩
  · refine wpAny_bind (wpAny_tryCatch (W.item 0 _ _ _ hn st0 fun v h' tk pv st' ke => ?_))
    have gS' := ke _ _ nw gS
    show wpAny _ A.in1 (updateSeq t.heap.objs.size (fun _ => #[v, v]) >>= _) _ _ _
    refine wpAny_bind (wpAny_updateSeq gS' rfl ?_); rw [nn]
    refine wpAny_pure ⟨plainId_quiet PySem.F.plain_min_loop _, minL_run W cm nf _ 0 _ v _ rfl hn (W.frame _ _ _ st' fun b bf o e => ?_) pv (Heap.get?_update_self _ gS' rfl) fun v' h2 tk2 pv' ke2 => ?_⟩
    · exact (Heap.get?_update_other _ _ (fun z : t.heap.objs.size = b => nf (by rw [z]; exact bf))).trans e
    · refine fin v' h2 tk2 pv' fun b o bw e => ke2 b o bw (Nat.ne_of_lt (Heap.lt_size e)) ?_
      exact (Heap.get?_update_other _ _ (fun z => Nat.ne_of_lt (Heap.lt_size e) z.symm)).trans (ke b o bw (Heap.get?_push_of_some _ e))
  · subst hn
    refine wpAny_bind (wpAny_tryCatch (W.done _ _ _ st0 fun h' tk ke => ?_))
    refine wpAny_bind (wpAny_rule (wpAny_pure ?_))
    exact fin h' tk fun b o bw e => ke b o bw (Heap.get?_push_of_some _ e)
noncomputable def bestN (f : Int → List Int → Int) : Fn := fun ds mh => match ds with
  | [x] => (match seqD x mh with
    | some es => (match intsOf es with
      | some (n :: r) => some (.int (f n r), mh)
      | some [] => some (.non, mh)
      | none => none)
    | none => none)
  | _ => none
noncomputable def bestV (f : Int → List Int → Int) : List Int → D
  | [] => .non
  | n :: r => .int (f n r)
theorem bestN_ok {f : Int → List Int → Int} {x : D} {mh : MH} {ns : List Int} (e : seqD x mh = some (ns.map D.int)) : bestN f [x] mh = some (bestV f ns, mh) := by
  show (match seqD x mh with | some es => (match intsOf es with | some (n :: r) => some (D.int (f n r), mh) | some [] => some (.non, mh) | none => none) | none => none) = _
  rw [e]
  dsimp only
  rw [intsOf_map]
  cases ns <;> rfl
theorem bestN_some {f : Int → List Int → Int} {ds : List D} {mh mh' : MH} {d : D} (h : bestN f ds mh = some (d, mh')) : ∃ x ns, ds = [x] ∧ seqD x mh = some (ns.map D.int) ∧ d = bestV f ns ∧ mh' = mh := by
  match ds, h with
  | [x], h =>
    cases e : seqD x mh with
    | none => have h : (match seqD x mh with | some es => (match intsOf es with | some (n :: r) => some (D.int (f n r), mh) | some [] => some (.non, mh) | none => none) | none => none) = some (d, mh') := h; rw [e] at h; cases h
    | some es =>
      cases eb : intsOf es with
      | none => have h : (match seqD x mh with | some es => (match intsOf es with | some (n :: r) => some (D.int (f n r), mh) | some [] => some (.non, mh) | none => none) | none => none) = some (d, mh') := h; rw [e] at h; dsimp only at h; rw [eb] at h; cases h
      | some ns =>
        have e : seqD x mh = some (ns.map D.int) := by rw [e, intsOf_some eb]
        rw [bestN_ok e] at h
        cases h
        exact ⟨x, ns, rfl, e, rfl, rfl⟩
  | [], h => cases h
  | _ :: _ :: _, h => cases h
section
variable {X : Cx}
theorem de_bestK (hc : X.calm = true) {id : String} {f : Int → List Int → Int} {op : CmpOp} {b : Int → Int → Bool} {x : Str} {a : Expr} {mr : DM (List D)} {p pos cp kp : Pos} {j : Nat} (f0 : ∀ m, f m [] = m) (f1 : ∀ m l x, f m (l ++ [x]) = if b x (f m l) = true then x else f m l)
    (cmp : ∀ {A : Around} {x y : Int} {t u : Tok} {Q : Value → Shared → Prop} {E : Value → Shared → Prop} {s : Shared}, Q (.bool (b x y)) s → wpAny (model X.prog X.w) A (richCompare op (.int x t) (.int y u)) Q E s)
    (cw : ∀ {A : Around} {x dv : Value} {Q : Value → Shared → Prop} {E : Value → Shared → Prop} {s : Shared}, wpAny (model X.prog X.w) A.in1 (pyIter x) (fun it t => ∃ I fp wr n P St bt, it = .ref I ∧ Walks X.prog X.w A.in1 I fp wr n P St ∧ St 0 t.heap ∧ (∀ b ∈ fp, b < t.heap.objs.size) ∧ CmpOf X.prog X.w A.in1 op P bt ∧
      ((0 < n ∧ ∀ v h' tk, P (argBest bt (n - 1)) v → (∀ b o, b ∉ wr → t.heap.get? b = some o → h'.get? b = some o) → Q v { t with heap := h', toks := tk }) ∨ (n = 0 ∧ ∀ h' tk, (∀ b o, b ∉ wr → t.heap.get? b = some o → h'.get? b = some o) → Q dv { t with heap := h', toks := tk }))) E s →
      wpAny (model X.prog X.w) A (call (.builtin id) [x] [("default", dv)]) Q E s)
    (hg : Gl X x) (hm : X.mg x = none) (hv : bootBuiltins x = some (.builtin id)) (ha : DA X [a] mr) (hn : x ≠ "__name__") (hdb : (x == ("__debug__" : Str)) = false) (he : starEach [a] X.env = [(false, eval a X.env)]) :
    DE X (.Call (.Name x p) [a] [⟨some "default", .Constant .none j cp, kp⟩] pos) (mr.bnd fun ds => DM.lift (bestN f ds)) := fun loc mh => by
  rintro pins s σ H Q I ⟨ρ, d, mh', q, rl, rs, co⟩
  obtain ⟨ds, m1, ea, q⟩ := bnd_some q
  refine wpAny_Call_Name_kw (ld_blt I hg hm hv ?_ hn hdb)
  refine callWith_builtin_kwB (by rw [he]; rfl) rfl (evalArgs_kw2 rfl ?_ he)
  refine thn (ha loc mh pos pins s σ H (fun vs H1 => ∃ ρ1, Ev X.K H ρ H1 ρ1 ∧ RS X.K H1 ρ1 m1 ∧ RDs X.K H1 ρ1 ds vs) I ⟨ρ, ds, m1, ea, rl, rs, fun H1 ρ1 vs e1 rs1 r1 => ⟨ρ1, e1, rs1, r1⟩⟩) ?_
  rintro us s1 ⟨vs, H1, I1, r, ρ1, e1, rs1, rd⟩
  refine kwAll_cons (Constant_none (kwAll_nil ?_))
  show wpAny _ _ (call (.builtin id) us [("default", .none)]) _ _ s1
  obtain ⟨x1, ns, rfl, e, rfl, rfl⟩ := bestN_some q
  obtain ⟨v, rfl, rx⟩ := rds1 rd
  obtain ⟨u, rfl, ru⟩ := vals1 r
  obtain ⟨p1, ys, rfl, hq, ry⟩ := seqD_ok rs1 rx e
  cases ru
  rw [rds_ints ry] at hq
  refine cw (walk_seq I1 (A := X.A.in1) (I.ok.hd hc) hq fun its St h2 rv W st hfp hk => ?_)
  have hlen : ns.length = its.length := by have := rv.length; simpa using this
  refine ⟨_, _, _, its.length, _, St, fun i j => (match ns[i]?, ns[j]? with | some x, some y => b x y | _, _ => false), rfl, W, st, hfp, fun i j vi vj s' Q' E' hi hj hQ => ?_, ?_⟩
  · obtain ⟨a, t, e1, rfl⟩ := vals_int rv hi
    obtain ⟨a', t', e2, rfl⟩ := vals_int rv hj
    simp only [e1, e2] at hQ
    exact cmp hQ
  · cases ns with
    | nil => exact .inr ⟨by rw [← hlen]; rfl, fun h' tk hk' => ⟨.non, H1, I1.kept (t' := tk) (kept_new hk' hk), rfl, co H1 ρ1 _ e1 rs1 .non⟩⟩
    | cons n l =>
      refine .inl ⟨by rw [← hlen]; simp, fun v h' tk hP hk' => ?_⟩
      have ar := argBest_fold (fun i j => (match (n :: l)[i]?, (n :: l)[j]? with | some x, some y => b x y | _, _ => false)) f (n :: l) b (fun i j x y e1 e2 => by simp only [e1, e2]) f0 f1 (its.length - 1) (by rw [hlen]; simp at hlen; omega) n l rfl
      obtain ⟨a, t, e4, rfl⟩ := vals_int rv hP
      rw [ar] at e4
      have e3 : l.take (its.length - 1) = l := List.take_of_length_le (by rw [← hlen]; simp)
      rw [e3] at e4
      cases e4
      exact ⟨.int _, H1, I1.kept (t' := tk) (kept_new hk' hk), ⟨t, rfl⟩, co H1 ρ1 _ e1 rs1 (.int _)⟩
theorem de_maxK (hc : X.calm = true) {a : Expr} {mr : DM (List D)} {p pos cp kp : Pos} {j : Nat} (hg : Gl X "max") (hm : X.mg "max" = none) (ha : DA X [a] mr) (he : starEach [a] X.env = [(false, eval a X.env)]) : DE X (.Call (.Name "max" p) [a] [⟨some "default", .Constant .none j cp, kp⟩] pos) (mr.bnd fun ds => DM.lift (bestN maxI ds)) :=
  de_bestK (op := .Gt) (b := fun x m => decide (m < x)) hc (fun _ => rfl) (fun m l x => maxI_snoc l m x) (fun h => PyProof.Rows.gt_int h) (fun h => max_dflt h) hg hm (by decide +kernel) ha (by decide) (by decide +kernel) he
theorem de_minK (hc : X.calm = true) {a : Expr} {mr : DM (List D)} {p pos cp kp : Pos} {j : Nat} (hg : Gl X "min") (hm : X.mg "min" = none) (ha : DA X [a] mr) (he : starEach [a] X.env = [(false, eval a X.env)]) : DE X (.Call (.Name "min" p) [a] [⟨some "default", .Constant .none j cp, kp⟩] pos) (mr.bnd fun ds => DM.lift (bestN minI ds)) :=
  de_bestK (op := .Lt) (b := fun x m => decide (x < m)) hc (fun _ => rfl) (fun m l x => minI_snoc l m x) (fun h => PyProof.Rows.lt_int h) (fun h => min_dflt h) hg hm (by decide +kernel) ha (by decide) (by decide +kernel) he
noncomputable def twoI : List D → Option (Int × Int)
  | [.int i, .int j] => some (i, j)
  | _ => none
theorem twoI_some {ds : List D} {z : Int × Int} (h : twoI ds = some z) : ds = [.int z.1, .int z.2] := by
  match ds, h with
  | [d, e], h =>
    cases d with
    | int i =>
      cases e with
      | int j => cases h; rfl
      | _ => cases h
    | _ => cases h
  | [], h => cases h
  | [d], h => cases d <;> cases h
  | d :: e :: _ :: _, h => cases d <;> first | cases h | (cases e <;> cases h)
noncomputable def best2 (f : Int → List Int → Int) (g : Fn) : Fn := fun ds mh => match twoI ds with
  | some z => some (.int (f z.1 [z.2]), mh)
  | none => g ds mh
theorem best2_call {v : Value} {f : Int → List Int → Int} {g : Fn} (h2 : CallR X v (fun xs H Q => ∃ i j, xs = [.int i, .int j] ∧ Q (.int (f i [j])) H)) (hg : CallR X v (rDs X.K g)) : CallR X v (rDs X.K (best2 f g)) := by
  rintro pins s σ H xs us Q I r ⟨ρ, mh, ds, d, mh', q, rs, rd, co⟩
  unfold best2 at q
  cases e : twoI ds with
  | none => rw [e] at q; exact hg pins s σ H xs us Q I r ⟨ρ, mh, ds, d, mh', q, rs, rd, co⟩
  | some z =>
    rw [e] at q
    cases q
    rw [twoI_some e] at rd
    obtain ⟨v1, v2, rfl, r1, r2⟩ := rds2 rd
    cases r1
    cases r2
    exact h2 pins s σ H _ us Q I r ⟨_, _, rfl, co H ρ _ Ev.refl rs (.int _)⟩
noncomputable def maxD2 : Fn := best2 maxI maxD
noncomputable def minD2 : Fn := best2 minI minD
theorem call_maxD2 (hc : X.calm = true) : CallR X (.builtin "max") (rDs X.K maxD2) := best2_call (call_max2 hc) (call_maxD hc)
theorem call_minD2 (hc : X.calm = true) : CallR X (.builtin "min") (rDs X.K minD2) := best2_call (call_min2 hc) (call_minD hc)
end
noncomputable def ItrS (lo c : Int) (n : Nat) : It := ⟨fun i _ => i < n, fun i H x H' => H' = H ∧ x = .int (lo + i * c), fun i _ => n ≤ i⟩
theorem turn_rangeS {P : Program} {w : World} {K : PySem.W.Frag} {tg : Expr} (it : Addr) (lo c : Int) (n : Nat) : Turn P w K tg (ItrS lo c n) [it] it (fun i h => IsRangeIter h it (lo + (i : Nat) * c) ((n : Int) - (i : Nat)) c) where
  mem := by simp
  obj := fun i h st b hb => by
    have e : b = it := by simpa using hb
    subst e
    exact ⟨_, st, fun v z => by
      have z' : Data.fields _ = Data.cell v := z
      cases z'⟩
  keep := fun i h h' st k => k it (by simp) _ st
  item := by
    intro X hP hw hK hc i pins s σ H E I hf st hg
    subst hP hw hK
    obtain ⟨f0, f1, f2, f3, f4, f5⟩ := hf it (by simp)
    have W := Walks.range (prog := X.prog) (w := X.w) (I.ok.hd hc) it lo c n
    refine W.item i s _ _ hg st fun v h' tk hv st' kk => ?_
    obtain ⟨t, rfl⟩ := hv
    have I1 : Inv X pins σ H { s with heap := h', toks := tk } := I.turned (fun b o hb e => kk b o (by simpa using hb) e) f0 f1 f3 f4 f5
    exact ⟨_, rfl, go_of (s := { s with heap := h', toks := tk }) (n := "range_iterator") st' rfl rfl (by decide) ⟨.int (lo + i * c), H, I1, ⟨t, rfl⟩, ⟨rfl, rfl⟩, st', fun b hb => (hf b hb).1⟩⟩
  done := by
    intro X hP hw hK hc i pins s σ H E I hf st hg
    subst hP hw hK
    obtain ⟨f0, f1, f2, f3, f4, f5⟩ := hf it (by simp)
    exact wpAny_pyNext_range_end (I.ok.hd hc) st (by have : n ≤ i := hg; omega) fun h' eb => ⟨rfl, I.turned (t' := s.toks) (fun b o hb e => eb b o hb e) f0 f1 f3 f4 f5⟩
  self := fun _ _ _ _ _ st h => wpAny_pyIter_rangeiter st h
noncomputable def rangeS (lo c : Int) (n : Nat) : List D := (List.range n).map fun (k : Nat) => D.int (lo + (k : Int) * c)
theorem JR.rngS {K : PySem.W.Frag} {H0 : Hp} {ρ0 : List Addr} {lo c : Int} {n : Nat} : JR K H0 ρ0 (.seq (rangeS lo c n)) (ItrS lo c n) where
  go := fun H ρ mh i d e rs q => by
    have q : (rangeS lo c n)[i]? = some d := q
    unfold rangeS at q
    rw [List.getElem?_map] at q
    by_cases hi : i < n
    · rw [List.getElem?_range hi] at q
      cases q
      refine ⟨hi, ?_⟩
      rintro x H' ⟨h1, h2⟩
      subst h1
      subst h2
      exact ⟨Ev.refl, rs, .int _⟩
    · rw [List.getElem?_eq_none (by simp; omega)] at q
      cases q
  stop := fun H ρ mh i e rs q => by
    show n ≤ i
    have q : (true && decide ((rangeS lo c n).length ≤ i)) = true := q
    rw [Bool.true_and] at q
    have := of_decide_eq_true q
    unfold rangeS at this
    simpa using this
noncomputable def rngN (a b c : Int) : Nat := (Builtin.Range.rangeSize a b c).toNat
theorem rngN_eq {a b c : Int} (hc : 0 < c) : ((rngN a b c : Nat) : Int) = Builtin.Range.rangeSize a b c := by
  unfold rngN Builtin.Range.rangeSize
  rw [if_pos hc]
  split
  · have : 0 ≤ (b - a - 1) / c := Int.ediv_nonneg (by omega) (by omega)
    omega
  · rfl
theorem rng_small {a b c : Int} (h1 : 0 < c ∧ c < 1000) (ha : -1000000 ≤ a ∧ a ≤ 1000000) (hb : -1000000 ≤ b ∧ b ≤ 1000000) : Builtin.Range.small a b c = true := by
  have h2 : Builtin.Range.rangeSize a b c ≤ 2000001 := by
    unfold Builtin.Range.rangeSize
    rw [if_pos h1.1]
    split
    · have : (b - a - 1) / c ≤ b - a - 1 := Int.ediv_le_self _ (by omega)
      omega
    · omega
  have h3 : 0 ≤ Builtin.Range.rangeSize a b c := by rw [← rngN_eq h1.1]; omega
  unfold Builtin.Range.small
  simp only [Builtin.Range.rangeFitsLong, Bool.and_eq_true, Bool.or_eq_true, decide_eq_true_eq, beq_iff_eq, if_pos (show c > 0 from h1.1)]
  omega
section
variable {X : Cx} {tg : Expr}
noncomputable def rng3 (ds : List D) : Option Src := match ds with
  | [.int i, .int j, .int c] => if (0 < c ∧ c < 1000) ∧ (-1000000 ≤ i ∧ i ≤ 1000000) ∧ (-1000000 ≤ j ∧ j ≤ 1000000) then some (.seq (rangeS i c (rngN i j c))) else none
  | _ => none
theorem rng3_some {ds : List D} {s : Src} (h : rng3 ds = some s) : ∃ i j c, ds = [.int i, .int j, .int c] ∧ ((0 < c ∧ c < 1000) ∧ (-1000000 ≤ i ∧ i ≤ 1000000) ∧ (-1000000 ≤ j ∧ j ≤ 1000000)) ∧ s = .seq (rangeS i c (rngN i j c)) := by
  unfold rng3 at h
  split at h
  · rename_i i j c
    split at h
    · rename_i hj
      cases h
      exact ⟨i, j, c, rfl, hj, rfl⟩
    · cases h
  · cases h
theorem di_range3 {a b c : Expr} {mr : DM (List D)} {p pos : Pos} (hg : Gl X "range") (hm : X.mg "range" = none) (ha : DA X [a, b, c] mr) (he : starEach [a, b, c] X.env = (false, eval a X.env) :: starEach [b, c] X.env) (hpl : (backTo pos (starEach [b, c] X.env)).any (·.1) = false) :
    DI X tg (.Call (.Name "range" p) [a, b, c] [] pos) (rngM rng3 mr) := fun loc mh => by
  rintro pins s σ H R I ⟨ρ, src, mh', q, rl, rs, co⟩
  obtain ⟨ds, ea, q⟩ := rngM_some q
  obtain ⟨i, j, k, rfl, ⟨hc, hi, hj⟩, e⟩ := rng3_some q
  have e : src = .seq (rangeS i k (rngN i j k)) := e
  subst e
  refine Call_ (ld_blt I hg hm boot_range (PyProof.Rows.callWith_type1 (thn (ha loc mh pos pins s σ H (fun vs H1 => ∃ ρ1, Ev X.K H ρ H1 ρ1 ∧ RS X.K H1 ρ1 mh' ∧ RDs X.K H1 ρ1 [.int i, .int j, .int k] vs) I ⟨ρ, _, mh', ea, rl, rs, fun H1 ρ1 vs e1 rs1 r1 => ⟨ρ1, e1, rs1, r1⟩⟩) ?_) he hpl))
  rintro us s1 ⟨vs, H1, I1, r, ρ1, e1, rs1, rd⟩
  cases rd with
  | cons d1 rd =>
    obtain ⟨v2, v3, rfl, d2, d3⟩ := rds2 rd
    cases d1
    cases d2
    cases d3
    cases r with
    | cons r1 rr =>
      obtain ⟨u2, u3, rfl, ⟨t2, rfl⟩, ⟨t3, rfl⟩⟩ := vals2 rr
      obtain ⟨t1, rfl⟩ := r1
      refine call_range_3 (by omega) ?_ (.inl (PyProof.noPylong_of_log2 (by
        have h0 : k.natAbs ≠ 0 := by omega
        have : k.natAbs.log2 < 10 := (Nat.log2_lt h0).mpr (by omega)
        omega)))
      refine wpAny_pyIter_range (IsRange.new ..) (rng_small hc hi hj) ?_
      have I2 : Inv X pins σ H1 { s1 with heap := s1.heap.push { cls := .type "range", data := .fields #[.int i t1, .int j t2, .int k t3] }, toks := s1.toks } := I1.kept fun b o e => Heap.get?_push_of_some _ e
      refine ⟨(s1.heap.push { cls := .type "range", data := .fields #[.int i t1, .int j t2, .int k t3] }).objs.size, [(s1.heap.push { cls := .type "range", data := .fields #[.int i t1, .int j t2, .int k t3] }).objs.size], _, _, H1, rfl,
        I2.kept (t' := s1.toks) fun b o e => Heap.get?_push_of_some _ e, turn_rangeS _ i k (rngN i j k), ?_, fun b hb => ?_, co H1 ρ1 _ e1 rs1 JR.rngS⟩
      · have e3 : i + ((0 : Nat) : Int) * k = i := by simp
        have e2 : ((rngN i j k : Nat) : Int) - ((0 : Nat) : Int) = Builtin.Range.rangeSize i j k := by rw [rngN_eq hc.1]; simp
        show IsRangeIter _ _ (i + ((0 : Nat) : Int) * k) (((rngN i j k : Nat) : Int) - ((0 : Nat) : Int)) k
        rw [e3, e2]
        exact Heap.get?_push_size _ rfl
      · have e : b = (s1.heap.push { cls := .type "range", data := .fields #[.int i t1, .int j t2, .int k t3] }).objs.size := by simpa using hb
        subst e
        exact I2.fpOk (Nat.le_refl _) (I2.hok.fresh (Nat.le_refl _))
end
theorem noFill_tupM : fillsNumberSlot (.type "tuple") "mul" = pure false := PySem.fillsNumberSlot_seq (id := "tuple.__mul__") (r := some (.builtin "tuple.__rmul__")) PySem.F.slot_tuple_mul.lookup (by decide +kernel) PySem.F.slot_tuple_rmul.lookup (by decide +kernel)
theorem repeat_tupM : seqRepeat? (.type "tuple") = pure (some (.builtin "tuple.__mul__")) := by
  unfold seqRepeat?
  rw [PySem.seqSlot_of (T := "tuple") (name := "__mul__") (id := "tuple.__mul__") PySem.F.slot_tuple_mul.lookup (by decide +kernel), PySem.seqSlot_of (T := "tuple") (name := "__rmul__") (id := "tuple.__rmul__") PySem.F.slot_tuple_rmul.lookup (by decide +kernel)]
  rfl
theorem rmul_tupM (a : Int) (t : Tok) (l : Addr) (items : Array Value) (n : Nat) (dd : Option Addr) (sl : Array (Option Value)) :
    Meets (Builtin.«int.__rmul__» ⟨[.int a t, .ref l], []⟩) (fun _ R s => s.heap.get? l = some { cls := .type "tuple", dict := dd, data := .seq items n, slots := sl } ∧ R (.ok (.ret Value.notImplemented)) s) :=
  .of_wp fun prog w A R s h => by obtain ⟨hp, g, d, tk, os⟩ := s; obtain ⟨hl, h⟩ := h; wp_walk; exact ⟨_, rfl, h⟩
theorem mul_tupM (l : Addr) (items : Array Value) (n : Nat) (dd : Option Addr) (sl : Array (Option Value)) (x : Int) (u : Tok) (hc0 : ¬(decide (x < -(2 ^ 63)) || decide (x ≥ 2 ^ 63)) = true) (hc1 : ¬(items.isEmpty || x == 1) = true) (hc2 : ¬(decide (x ≤ 0) || items.isEmpty) = true) (hc3 : ¬((items.size : Int) * x > (2 ^ 63 - 1) / 8)) (hc5 : ¬(List.foldl (fun x1 x2 => x1 ++ x2) #[] (List.replicate x.toNat items)).size > sizeLine) (hc4 : ¬PySem.Builtin.Tuple.tupleTooMany ((items.size : Int) * x) = true) :
    Meets (Builtin.«tuple.__mul__» ⟨[.ref l, .int x u], []⟩) (fun _ R s => s.heap.get? l = some { cls := .type "tuple", dict := dd, data := .seq items n, slots := sl } ∧ R (.ok (.ret (Value.ref s.heap.objs.size))) { s with heap := s.heap.push { cls := Value.type "tuple", data := Data.seq (List.foldl (fun x1 x2 => x1 ++ x2) #[] (List.replicate x.toNat items)) }, toks := s.toks }) :=
  .of_wp fun prog w A R s h => by
    obtain ⟨hp, g, d, tk, os⟩ := s
    obtain ⟨hl, h⟩ := h
    have f1 := AutoSeq1.idx_int
    wp_walk using wpAny_loadPart' hl
    simp only [hc0, Bool.false_eq_true, if_false]
    wp_walk using wpAny_loadPart' hl
    simp only [hc3, if_false]
    wp_walk using wpAny_loadPart' hl
    exact ⟨_, rfl, h⟩
section
variable {X : Cx}
theorem RDs.rep {K : PySem.W.Frag} {H : Hp} {ρ : List Addr} {ds : List D} {vs : List V} (h : RDs K H ρ ds vs) : ∀ k : Nat, RDs K H ρ (List.replicate k ds).flatten (List.replicate k vs).flatten
  | 0 => .nil
  | k + 1 => by
    rw [List.replicate_succ, List.replicate_succ, List.flatten_cons, List.flatten_cons]
    exact h.append (RDs.rep h k)
theorem op_timesT : OpR X (binaryOp .Mult) (fun x y H Q => ∃ a k xs, x = .ref a ∧ y = .int k ∧ SqT X.K H a xs ∧ xs ≠ [] ∧ 1 < k ∧ k ≤ 1000 ∧ xs.length ≤ 1000 ∧ ∀ p, H p = none → Q (.ref p) (upd H p (.tup (List.replicate k.toNat xs).flatten))) := by
  rintro pins s σ H x y v u Q I rx ry ⟨a, k, xs, e1, e2, ha, hne, h1, h2, h3, q⟩
  subst e1; subst e2
  cases rx
  obtain ⟨t, rfl⟩ := ry
  obtain ⟨its, r1, p1, _⟩ := I.tuple ha
  obtain ⟨⟨cls, dd, data, sl⟩, ho, hc, n, hd⟩ := id p1
  simp only at hc hd
  subst hc hd
  have hl : its.length ≤ 1000 := by rw [← r1.length]; exact h3
  have hn : its.toArray.isEmpty = false := by
    cases its with
    | nil => exact absurd (r1.nil_iff.mp rfl) hne
    | cons b r => rfl
  have hm : ((its.toArray.size : Nat) : Int) * k ≤ 1000 * 1000 := by
    rw [List.size_toArray]
    exact Int.mul_le_mul (by omega) (by omega) (by omega) (by omega)
  have hf : List.foldl (fun x1 x2 => x1 ++ x2) #[] (List.replicate k.toNat its.toArray) = (List.replicate k.toNat its).flatten.toArray := by
    have := foldl_rep its k.toNat []
    rw [List.nil_append] at this
    exact this
  have c0 : ¬(decide (k < -(2 ^ 63)) || decide (k ≥ 2 ^ 63)) = true := by
    rw [Bool.or_eq_true, decide_eq_true_iff, decide_eq_true_iff]; omega
  have c1 : ¬(its.toArray.isEmpty || k == 1) = true := by
    rw [hn, Bool.false_or, beq_iff_eq]; omega
  have c2 : ¬(decide (k ≤ 0) || its.toArray.isEmpty) = true := by
    rw [hn, Bool.or_false, decide_eq_true_iff]; omega
  have c3 : ¬(((its.toArray.size : Nat) : Int) * k > (2 ^ 63 - 1) / 8) := by omega
  have c4 : ¬PySem.Builtin.Tuple.tupleTooMany (((its.toArray.size : Nat) : Int) * k) = true := by
    have : (sizeLine : Nat) = 16777216 := sizeLine_eq
    unfold PySem.Builtin.Tuple.tupleTooMany
    rw [decide_eq_true_iff]; omega
  have c5 : ¬(List.foldl (fun x1 x2 => x1 ++ x2) #[] (List.replicate k.toNat its.toArray)).size > sizeLine := by
    rw [hf, List.size_toArray, len_rep, sizeLine_eq]
    have : k.toNat * its.length ≤ 1000 * 1000 := Nat.mul_le_mul (by omega) hl
    omega
  refine wpAny_binaryOp_repeat_ref (T := "tuple") (U := "int") (by decide) ⟨_, ho, rfl⟩ (fun s' => PySem.typeIs_int s' k t) noFill_tupM PySem.F.fills_int_mul PySem.F.slot_int_rmul repeat_tupM PySem.F.slot_int_index.lookup
    (call_meets PySem.F.slot_int_rmul (PySem.typeIs_int s k t) PySem.F.entry_int_rmul (PySem.F.args_int_rmul_2 _ _) (rmul_tupM k t a its.toArray n dd sl)
      ⟨ho, rfl, ⟨_, ho, rfl⟩, call_meets PySem.F.slot_tuple_mul ⟨_, ho, rfl⟩ PySem.F.entry_tuple_mul (PySem.F.args_tuple_mul_2 _ _) (mul_tupM a its.toArray n dd sl k t c0 c1 c2 c3 c5 c4) ⟨ho, ?_⟩⟩)
  rw [hf]
  refine ⟨.ref s.heap.objs.size, _, I.laid (t' := s.toks) (o := .tup (List.replicate k.toNat xs).flatten) (fun b ob q => Heap.get?_push_of_some _ q) (Nat.le_refl _) ?_, rfl, q _ (I.hok.fresh (Nat.le_refl _))⟩
  refine ⟨?_, _, r1.rep k.toNat, TupP.new _ _⟩
  rw [len_rep, sizeLine_eq]
  have : k.toNat * xs.length ≤ 1000 * 1000 := Nat.mul_le_mul (by omega) h3
  omega
noncomputable def tmul : D → D → Option (List D × Int)
  | .tup ds, .int k => some (ds, k)
  | _, _ => none
theorem tmul_some {x y : D} {z : List D × Int} (h : tmul x y = some z) : x = .tup z.1 ∧ y = .int z.2 := by
  cases x with
  | tup ds =>
    cases y with
    | int k => cases h; exact ⟨rfl, rfl⟩
    | _ => cases h
  | _ => cases h
noncomputable def mulD2 (g : D → D → MH → Option (D × MH)) : D → D → MH → Option (D × MH) := fun x y mh => match tmul x y with
  | some z => if (z.1.isEmpty = false ∧ z.1.length ≤ 1000) ∧ (1 < z.2 ∧ z.2 ≤ 1000) then some (.tup (List.replicate z.2.toNat z.1).flatten, mh) else none
  | none => g x y mh
theorem op_mulD2 {g : D → D → MH → Option (D × MH)} (h : OpR X (binaryOp .Mult) (rD X.K g)) : OpR X (binaryOp .Mult) (rD X.K (mulD2 g)) := by
  rintro pins s σ H x y v u Q I rx ry ⟨ρ, mh, dx, dy, d, mh', q, rs, r1, r2, co⟩
  unfold mulD2 at q
  cases e : tmul dx dy with
  | none => rw [e] at q; exact h pins s σ H x y v u Q I rx ry ⟨ρ, mh, dx, dy, d, mh', q, rs, r1, r2, co⟩
  | some z =>
    rw [e] at q
    obtain ⟨ds, k⟩ := z
    obtain ⟨rfl, rfl⟩ := tmul_some e
    by_cases hz : (ds.isEmpty = false ∧ ds.length ≤ 1000) ∧ (1 < k ∧ k ≤ 1000)
    · have q : (if (ds.isEmpty = false ∧ ds.length ≤ 1000) ∧ (1 < k ∧ k ≤ 1000) then some (D.tup (List.replicate k.toNat ds).flatten, mh) else none) = some (d, mh') := q
      rw [if_pos hz] at q
      cases q
      cases r2
      cases r1 with
      | tup s1 rr => exact op_timesT pins s σ H _ _ v u Q I rx ry ⟨_, _, _, rfl, rfl, s1, fun z => by
          subst z
          cases rr
          exact absurd hz.1.1 (by simp), hz.2.1, hz.2.2, by rw [← rr.length]; exact hz.1.2, Co.newT rs (rr.rep _) co⟩
    · have q : (if (ds.isEmpty = false ∧ ds.length ≤ 1000) ∧ (1 < k ∧ k ≤ 1000) then some (D.tup (List.replicate k.toNat ds).flatten, mh) else none) = some (d, mh') := q
      rw [if_neg hz] at q
      cases q
end
theorem op_fdivB {X : Cx} : OpR X (binaryOp .FloorDiv) (rI (fun _ j => j ≠ 0 ∧ j.natAbs < 10889035741470030830827987437816582766592) fun i j => .int (i.fdiv j)) := opI fun _ j _ _ _ _ _ hc q => floordiv_int hc.1 q (.inl (PyProof.noPylong_of_log2 (by
  have h : j.natAbs < 2 ^ 133 := hc.2
  by_cases h0 : j.natAbs = 0
  · rw [h0]; decide +kernel
  · have h60 : j.natAbs.log2 < 133 := (Nat.log2_lt h0).mpr h
    omega)))
structure SC where
  N : List Str
  scope : Scope
  own : Str → Bool
structure Gb where
  cal : Str → Option (List Str × Fn)
  con : Str → Option D
  dic : Str → Option (List (Str × D))
  fld : Str → Str → Bool
  met : Str → Str → Option (List Str × Fn)
  mkr : Str → Option Str
noncomputable def slot (N : List Str) (x : Str) : Option Nat := N.findIdx? (fun y => y == x)
noncomputable def visB (sc : Scope) (x : Str) : Bool := match sc.names.lookup x with
  | some .local => true
  | some .cell => true
  | some .free => true
  | _ => false
noncomputable def locB (sc : Scope) (x : Str) : Bool := match sc.names.lookup x with
  | some .local => true
  | some .cell => true
  | _ => false
noncomputable def glB (sc : Scope) (x : Str) : Bool := match sc.names.lookup x with
  | some .globalImplicit => true
  | _ => false
noncomputable def cmulB (i j : Int) : Bool := decide (-(2 ^ 64) < i ∧ i < 2 ^ 64) || decide (-(2 ^ 64) < j ∧ j < 2 ^ 64)
theorem op_no {X : Cx} {f : Value → Value → Sem Value} : OpR X f (rD X.K fun _ _ _ => none) := by
  rintro _ _ _ _ _ _ _ _ _ _ _ _ ⟨_, _, _, _, _, _, e, _⟩
  cases e
noncomputable def opOf : Operator → Option (D → D → MH → Option (D × MH))
  | .Add => some addD
  | .Sub => some (iop (fun _ _ => true) fun i j => i - j)
  | .Mult => some (mulD2 (iop cmulB fun i j => i * j))
  | .FloorDiv => some (iop (fun _ j => decide (j ≠ 0) && decide (j.natAbs < 10889035741470030830827987437816582766592)) fun i j => i.fdiv j)
  | .Mod => some (iop (fun _ j => decide (j ≠ 0)) fun i j => i.fmod j)
  | .Pow => some (iop (fun i j => decide (0 ≤ j) && (decide (j ≤ 1000000) && decide (i.natAbs < 2 ^ 64))) fun i j => i ^ j.toNat)
  | _ => none
noncomputable def cmpOf : CmpOp → (D → D → MH → Option (D × MH))
  | .Eq => eqD
  | .NotEq => neD
  | .Lt => icmp fun i j => decide (i < j)
  | .LtE => icmp fun i j => decide (i ≤ j)
  | .Gt => icmp fun i j => decide (j < i)
  | .GtE => icmp fun i j => decide (j ≤ i)
  | .Is => isD false
  | .IsNot => isD true
  | .In => inD false
  | .NotIn => fun _ _ _ => none
theorem opOf_ok {X : Cx} {op : Operator} {f : D → D → MH → Option (D × MH)} (h : opOf op = some f) : OpR X (binaryOp op) (rD X.K f) := by
  cases op <;> (try cases h)
  · exact op_addD
  · exact iop0_ok op_sub
  · refine op_mulD2 (iop_ok op_mul fun i j h => ?_)
    unfold cmulB at h
    rw [Bool.or_eq_true, decide_eq_true_iff, decide_eq_true_iff] at h
    exact h
  · exact iop_ok op_modN fun i j h => of_decide_eq_true h
  · refine iop_ok op_pow fun i j h => ?_
    rw [Bool.and_eq_true, Bool.and_eq_true, decide_eq_true_iff, decide_eq_true_iff, decide_eq_true_iff] at h
    exact ⟨h.1, h.2.1, h.2.2⟩
  · refine iop_ok op_fdivB fun i j h => ?_
    rw [Bool.and_eq_true, decide_eq_true_iff, decide_eq_true_iff] at h
    exact ⟨h.1, h.2⟩
theorem cmpOf_ok {X : Cx} (hu : X.A.units + 64 < cLine) (op : CmpOp) : OpR X (compareOp op) (rD X.K (cmpOf op)) := by
  cases op
  · exact op_eqD hu
  · exact op_neD hu
  · exact icmp_ok op_lt
  · exact icmp_ok op_le
  · exact icmp_ok op_gt
  · exact icmp_ok op_ge
  · exact op_isD
  · exact op_isNotD
  · exact op_inD hu
  · exact op_no
noncomputable def isStar : Expr → Bool
  | .Starred .. => true
  | _ => false
noncomputable def isSet : Expr → Bool
  | .Set .. => true
  | _ => false
noncomputable def isCompE : Expr → Bool
  | .ListComp .. => true
  | .SetComp .. => true
  | .DictComp .. => true
  | _ => false
noncomputable def isSlice : Expr → Bool
  | .Slice .. => true
  | _ => false
noncomputable def baseOk : Expr → Bool
  | .Call (.Name ..) [] [] _ => false
  | _ => true
noncomputable def tyOf (_ : Str) : Option String := none
noncomputable def badF : Fn := fun _ _ => none
noncomputable def badM (_ : D) (_ : List D) (_ : MH) : Option (D × MH) := none
theorem call_no {X : Cx} {f : Value} : CallR X f (rDs X.K badF) := by
  rintro _ _ _ _ _ _ _ _ _ ⟨_, _, _, _, _, e, _⟩
  cases e
theorem mt_no {X : Cx} {id : String} : MtR X id (rDM X.K badM) := by
  rintro _ _ _ _ _ _ _ _ _ _ _ _ ⟨_, _, _, _, _, _, e, _⟩
  cases e
noncomputable def bltOf (x : Str) : Option Fn := if x == "len" then some lenD else if x == "list" then some badF else if x == "tuple" then some tupleD else if x == "all" then some badF else if x == "any" then some badF else if x == "max" then some maxD2 else if x == "min" then some minD2 else if x == "sorted" then some badF else none
noncomputable def methOf (m : Str) (n : Nat) : Option (String × (D → List D → MH → Option (D × MH))) :=
  if m == "append" && n == 1 then some ("list", appendD) else if m == "bit_length" && n == 0 then some ("int", badM) else if m == "pop" && n == 1 then some ("list", badM) else if m == "pop" && n == 0 then some ("list", badM) else if m == "extend" && n == 1 then some ("list", extendD) else if m == "index" && n == 1 then some ("tuple", badM) else none
noncomputable def isTupE : Expr → Bool
  | .Tuple .. => true
  | _ => false
noncomputable def setArg (_ : Expr) (_ : List Expr) : Option Expr := none
noncomputable def rngArg : Expr → List Expr → Option Expr
  | .Call (.Name g _) [b] [] _, [] => if g == "range" && !isStar b then some b else none
  | _, _ => none
noncomputable def setPair (_ : SC) (_ : Expr) (_ : CmpOp) (_ : Expr) : Option (Nat × Nat) := none
noncomputable def compNames (scope : Scope) : List Str := (scope.names.filter fun p => (match p.2 with | .local => true | .cell => true | .free => true | _ => false)).map (·.1)
noncomputable def capsOf (N : List Str) (scope : Scope) : List (Option Nat) := (compNames scope).map fun x => match scope.names.lookup x with
  | some .free => slot N x
  | _ => none
noncomputable def relabelS (scope outer : Scope) : Scope := { scope with names := scope.names.map fun (n, k) => if (k == .free && outer.kind == .function && outer.names.lookup n == some .cell) then (n, .cell) else (n, k) }
noncomputable def compSC (scope : Scope) (sc : SC) : SC := { N := compNames scope, scope := relabelS scope sc.scope, own := fun x => locB scope x }
noncomputable def compOkB (scope : Scope) (sc : SC) : Bool :=
  (match scope.kind with | .function => true | _ => false) && (decide ((scope.names.map (·.1)).Nodup) &&
    scope.names.all fun p => (match p.2 with | .free => (match sc.scope.names.lookup p.1 with | some .cell => true | some .free => true | _ => false) | _ => true))
noncomputable def dicOf (G : Gb) (sc : SC) : Expr → Option (List (Str × D))
  | .Name x _ => if glB sc.scope x && !(x == "__debug__") then G.dic x else none
  | _ => none
noncomputable def dicArg (G : Gb) (sc : SC) (op : CmpOp) (b : Expr) : Option (Bool × List (Str × D)) := match op with
  | .In => (match dicOf G sc b with | some kvs => some (false, kvs) | none => none)
  | .NotIn => (match dicOf G sc b with | some kvs => some (true, kvs) | none => none)
  | _ => none
noncomputable def mkArg (G : Gb) (f : Str) : List Expr → Option Str
  | [] => G.mkr f
  | _ => none
noncomputable def iGn (sc : SC) (x : Str) : Option Nat := if locB sc.scope x && sc.own x then slot sc.N x else none
noncomputable def iGs (sc : SC) : List Expr → Option (List Nat)
  | [] => some []
  | .Name x _ :: r => match iGn sc x with
    | some i => match iGs sc r with
      | some is => some (i :: is)
      | none => none
    | none => none
  | _ => none
noncomputable def iG (sc : SC) : Expr → Option (List Nat × GM)
  | .Name x _ => match iGn sc x with | some i => some ([i], gSet i) | none => none
  | .Tuple es _ _ => match iGs sc es with | some is => some (is, gTupD is) | none => none
  | _ => none
noncomputable def kwName : Option Str → Bool
  | some n => n == "default"
  | none => false
noncomputable def isNoneE : Expr → Bool
  | .Constant .none _ _ => true
  | _ => false
noncomputable def kwNone (k : Keyword) : Bool := kwName k.arg && isNoneE k.value
theorem kwNone_some {k : Keyword} (h : kwNone k = true) : ∃ j cp kp, k = ⟨some "default", .Constant .none j cp, kp⟩ := by
  obtain ⟨n, v, p⟩ := k
  unfold kwNone at h
  rw [Bool.and_eq_true] at h
  obtain ⟨h1, h2⟩ := h
  cases n with
  | none => cases h1
  | some n =>
    have e : n = "default" := eq_of_beq h1
    subst e
    cases v with
    | Constant c j cp =>
      cases c with
      | none => exact ⟨_, _, _, rfl⟩
      | _ => cases h2
    | _ => cases h2
noncomputable def iEb (E : SC → Expr → DM D) (T : SC → Expr → DM Bool) (A : SC → List Expr → DM (List D)) (F : SC → List Expr → DM Bool) (I : SC → Expr → Expr → DM Src) (G : Gb) (sc : SC) (e : Expr) : DM D := match e with
  | .Constant (.int i) _ _ => DM.ret (.int i)
  | .Constant (.bool b) _ _ => DM.ret (.bl b)
  | .Constant .none _ _ => DM.ret .non
  | .Constant (.str x) _ _ => DM.ret (.str x)
  | .Name x _ => if visB sc.scope x && !(x == "__debug__") && !(x == "__classdict__") then (match slot sc.N x with
      | some i => fun loc mh => match loc[i]? with | some (some d) => some (d, mh) | _ => none
      | none => DM.bad) else if glB sc.scope x && !(x == "__debug__") then (match G.con x with | some d => DM.ret d | none => DM.bad) else DM.bad
  | .BinOp a op b _ => (match opOf op with | some f => dop f (E sc a) (E sc b) | none => DM.bad)
  | .UnaryOp .USub a _ => (E sc a).bnd fun x => DM.lift (negD x)
  | .UnaryOp .Not a _ => (boolD (E sc a)).bnd fun c => DM.ret (.bl (!c))
  | .BoolOp op [a] _ => E sc a
  | .BoolOp .And (a :: b :: r) p => dAndV (E sc a) (E sc (.BoolOp .And (b :: r) p))
  | .BoolOp .Or (a :: b :: r) p => dOrV (E sc a) (E sc (.BoolOp .Or (b :: r) p))
  | .Compare a [op] [b] _ => (match setPair sc a op b with
    | some (i, j) => setEqM (fun loc mh => match loc[i]? with | some (some d) => some (d, mh) | _ => none) (fun loc mh => match loc[j]? with | some (some d) => some (d, mh) | _ => none)
    | none => match dicArg G sc op b with
      | some (neg, kvs) => dicIn neg kvs (E sc a)
      | none => if isSet b then DM.bad else dop (cmpOf op) (E sc a) (E sc b))
  | .Compare a [op, op'] [b, c] _ => if isSet c then DM.bad else dchain (cmpOf op) (cmpOf op') (E sc a) (E sc b) (E sc c)
  | .IfExp c a b _ => dIf (T sc c) (E sc a) (E sc b)
  | .Tuple es _ _ => (A sc es).bnd fun ds => DM.lift (mkTup ds)
  | .List es _ => (A sc es).bnd fun ds => DM.lift (mkLst ds)
  | .Subscript a (.Slice lo hi none _) _ => dSl (E sc a) (match lo with | some e => some (E sc e) | none => none) (match hi with | some e => some (E sc e) | none => none)
  | .Subscript a b _ => if isSlice b then DM.bad else (match dicOf G sc a with | some kvs => dicIx kvs (E sc b) | none => dop ixD (E sc a) (E sc b))
  | .Attribute o f _ => if baseOk o then attrM G.fld f (E sc o) else DM.bad
  | .Call (.Name f _) [] [] _ => if glB sc.scope f && !(f == "__debug__") then (match G.cal f with | some ([], g) => DM.lift (g []) | _ => DM.bad) else DM.bad
  | .Call (.Name f _) (a :: es) [] _ => if glB sc.scope f && !(f == "__debug__") && !(f == "__name__") && !(isStar a) && es.all (fun e => !isStar e) then
      (match G.cal f with
      | some (_, g) => (A sc (a :: es)).bnd fun ds => DM.lift (g ds)
      | none => match mkArg G f es with
        | some fl => (E sc a).bnd fun d => DM.ret (.obj f [fl] [d])
        | none => match setArg a es with
        | some b => if glB sc.scope "set" then (if f == "len" then (E sc b).bnd (fun x => DM.lift (lenSetD x)) else if f == "sorted" then (E sc b).bnd (fun x => DM.lift (sortSetD x)) else DM.bad) else DM.bad
        | none => match rngArg a es with
        | some b => if glB sc.scope "range" then (if f == "list" then (E sc b).bnd (fun x => DM.lift (listRngD x)) else if f == "tuple" then (E sc b).bnd (fun x => DM.lift (tupRngD x)) else DM.bad) else DM.bad
        | none => if f == "isinstance" then (match es with
        | [.Name c _] => if glB sc.scope c && !(c == "__debug__") && !(c == "__name__") then (match tyOf c with | some ty => (E sc a).bnd fun x => DM.lift (isiD ty x) | none => DM.bad) else DM.bad
        | _ => DM.bad) else match bltOf f with
          | some g => (A sc (a :: es)).bnd fun ds => DM.lift (g ds)
          | none => DM.bad) else DM.bad
  | .Call (.Name f _) [a] (kw :: ks) _ => if glB sc.scope f && !(isStar a) && kwNone kw && ks.isEmpty then (if f == "max" then (A sc [a]).bnd fun ds => DM.lift (bestN maxI ds) else if f == "min" then (A sc [a]).bnd fun ds => DM.lift (bestN minI ds) else DM.bad) else DM.bad
  | .Call (.Attribute o m ap) [] [] p => if baseOk o && (ap.endLine == p.line) then (match methOf m 0 with | some (ty, f) => methM ty f (E sc o) (DM.ret []) | none => objM G.met m (E sc o) (DM.ret [])) else DM.bad
  | .Call (.Attribute o m ap) (a :: es) [] p => if baseOk o && (ap.endLine == p.line) && !(isStar a) && es.all (fun e => !isStar e) && decide ((a :: es).length < 20) then (if m == "count" && es.isEmpty then methE "tuple" badM "list" badM (E sc o) (A sc (a :: es)) else (match methOf m (a :: es).length with | some (ty, f) => methM ty f (E sc o) (A sc (a :: es)) | none => objM G.met m (E sc o) (A sc (a :: es)))) else DM.bad
  | .ListComp elt [⟨tg, iter, ifs, k⟩] scope _ => if k == 0 && compOkB scope sc && !(isSet iter) then (match iG (compSC scope sc) tg with
      | some (ws, g) => if ws.all (fun i => match (capsOf sc.N scope)[i]? with | some (some _) => false | _ => true) then compM (I sc tg iter) (capsOf sc.N scope) g (F (compSC scope sc) ifs) (E (compSC scope sc) elt) else DM.bad
      | none => DM.bad) else DM.bad
  | _ => DM.bad
noncomputable def iTb (E : SC → Expr → DM D) (T : SC → Expr → DM Bool) (A : SC → List Expr → DM (List D)) (F : SC → List Expr → DM Bool) (I : SC → Expr → Expr → DM Src) (G : Gb) (sc : SC) (e : Expr) : DM Bool := match e with
  | .UnaryOp .Not a _ => dNotT (T sc a)
  | .BoolOp op [a] _ => T sc a
  | .BoolOp .And (a :: b :: r) p => dAndT (T sc a) (T sc (.BoolOp .And (b :: r) p))
  | .BoolOp .Or (a :: b :: r) p => dOrT (T sc a) (T sc (.BoolOp .Or (b :: r) p))
  | .BoolOp _ [] _ => DM.bad
  | .IfExp .. => DM.bad
  | .Compare a [op] [b] _ => (match dicArg G sc op b with
    | some (neg, kvs) => boolD (dicIn neg kvs (E sc a))
    | none => if isSet b then DM.bad else boolD (dop (cmpOf op) (E sc a) (E sc b)))
  | .Compare a [op, op'] [b, c] _ => if isSet c then DM.bad else boolD (dchain (cmpOf op) (cmpOf op') (E sc a) (E sc b) (E sc c))
  | .Compare .. => DM.bad
  | e => truM (E sc e)
noncomputable def iIb (E : SC → Expr → DM D) (T : SC → Expr → DM Bool) (A : SC → List Expr → DM (List D)) (F : SC → List Expr → DM Bool) (I : SC → Expr → Expr → DM Src) (G : Gb) (sc : SC) (tg e : Expr) : DM Src := match e with
  | .Call (.Name f p) [a] [] p' => if f == "range" && glB sc.scope f then (if isStar a then DM.bad else rngM rng1 (A sc [a])) else if f == "enumerate" && glB sc.scope f then (if isStar a || !(isTupE tg) then DM.bad else DM.bad) else srcM (E sc (.Call (.Name f p) [a] [] p'))
  | .Call (.Name f p) [a, b] [] p' => if f == "range" && glB sc.scope f then (if isStar a || isStar b then DM.bad else DM.bad) else if f == "zip" && glB sc.scope f then (if isStar a || isStar b || !(isTupE tg) then DM.bad else DM.bad) else srcM (E sc (.Call (.Name f p) [a, b] [] p'))
  | .Call (.Name f p) [a, b, c] [] p' => if f == "range" && glB sc.scope f then (if isStar a || isStar b || isStar c then DM.bad else rngM rng3 (A sc [a, b, c])) else srcM (E sc (.Call (.Name f p) [a, b, c] [] p'))
  | e => srcM (E sc e)
mutual
noncomputable def iE (G : Gb) : Nat → SC → Expr → DM D
  | 0, _, _ => DM.bad
  | n + 1, sc, e => iEb (iE G n) (iT G n) (iA G n) (iF G n) (iI G n) G sc e
termination_by structural n => n
noncomputable def iT (G : Gb) : Nat → SC → Expr → DM Bool
  | 0, _, _ => DM.bad
  | n + 1, sc, e => iTb (iE G n) (iT G n) (iA G n) (iF G n) (iI G n) G sc e
termination_by structural n => n
noncomputable def iA (G : Gb) : Nat → SC → List Expr → DM (List D)
  | 0, _, _ => DM.bad
  | n + 1, sc, es => match es with
    | [] => DM.ret []
    | a :: r => if isStar a then DM.bad else dCons (iE G n sc a) (iA G n sc r)
termination_by structural n => n
noncomputable def iF (G : Gb) : Nat → SC → List Expr → DM Bool
  | 0, _, _ => DM.bad
  | n + 1, sc, es => match es with
    | [] => DM.ret true
    | [c] => iT G n sc c
    | _ => DM.bad
termination_by structural n => n
noncomputable def iI (G : Gb) : Nat → SC → Expr → Expr → DM Src
  | 0, _, _, _ => DM.bad
  | n + 1, sc, tg, e => iIb (iE G n) (iT G n) (iA G n) (iF G n) (iI G n) G sc tg e
termination_by structural n => n
end
noncomputable def parB (sc : SC) (x : Str) (px : Pos) (y : Str) (py : Pos) (a b : Expr) : Bool :=
  ((if sc.scope.kind.isAnnotationScope then ScopeKind.function else sc.scope.kind) == .function) && (sc.scope.names.lookup x == some .local) && (sc.scope.names.lookup y == some .local) && (py.line == px.line) && !(x == y) && !isStar a && !isStar b && !([a, b].all (foldedForSure 8)) && !([a, b].all (constantsAlone 8))
noncomputable def parS (mr : DM (List D)) (i j : Nat) : SM := fun loc mh => match mr loc mh with
  | some ([d, e], h) => some (.nx, (loc.set i (some d)).set j (some e), h)
  | _ => none
noncomputable def iGt (G : Gb) (n : Nat) (sc : SC) (tg : Expr) : Option GM := match tg with
  | .Subscript o i _ => if isSlice i then none else some (gSubD (iE G n sc o) (iE G n sc i))
  | tg => match iG sc tg with | some (_, g) => some g | none => none
noncomputable def asgB (n : Nat) (G : Gb) (sc : SC) (tg v : Expr) : SM := match tg, v with
  | .Name y py, .ListComp elt gens scope vp => (match iG sc (.Name y py) with | some (_, g) => asgS (iE G n sc (.ListComp elt gens scope vp)) g | none => SM.bad)
  | .Tuple [.Name x px, .Name y py] _ _, .Tuple [a, b] _ _ => if parB sc x px y py a b then (match slot sc.N x, slot sc.N y with | some i, some j => parS (iA G n sc [a, b]) i j | _, _ => SM.bad) else SM.bad
  | tg, v => if isCompE v || (isTupE tg && isTupE v) then SM.bad else (match iGt G n sc tg with | some g => asgS (iE G n sc v) g | none => SM.bad)
noncomputable def iSb (n : Nat) (B : SC → List Stmt → SM) (G : Gb) (sc : SC) (s : Stmt) : SM := match s with
  | .Expr e _ => if isCompE e then SM.bad else dropS (iE G n sc e)
  | .Pass _ => SM.nxt
  | .Break _ => fun loc mh => some (.bk, loc, mh)
  | .Continue _ => fun loc mh => some (.ct, loc, mh)
  | .Return (some e) _ => retS (iE G n sc e)
  | .Return none _ => fun loc mh => some (.rt .non, loc, mh)
  | .Assign [tg] v _ => asgB n G sc tg v
  | .If c a b _ => ifS (iT G n sc c) (B sc a) (B sc b)
  | .For tg it body [] _ => if isSet it then SM.bad else (match iG sc tg with | some (_, g) => forS (iI G n sc tg it) g (B sc body) | none => SM.bad)
  | _ => SM.bad
mutual
noncomputable def iS (G : Gb) : Nat → SC → Stmt → SM
  | 0, _, _ => SM.bad
  | n + 1, sc, s => iSb n (iSs G n) G sc s
termination_by structural n => n
noncomputable def iSs (G : Gb) : Nat → SC → List Stmt → SM
  | 0, _, _ => SM.bad
  | n + 1, sc, ss => match ss with
    | [] => SM.nxt
    | s :: r => seqS (iS G n sc s) (iSs G n sc r)
termination_by structural n => n
end
structure FnI where
  ps : List Str
  N : List Str
  scope : Scope
  body : List Stmt
noncomputable def runF (G : Gb) (n : Nat) (f : FnI) : Fn := fun ds mh => if ds.length = f.ps.length then (match iSs G n { N := f.N, scope := f.scope, own := fun _ => true } f.body (ds.map some ++ List.replicate (f.N.length - ds.length) none) mh with
  | some (.rt d, _, mh') => some (d, mh')
  | some (.nx, _, mh') => some (.non, mh')
  | _ => none) else none
noncomputable def fuel : Nat := 60
structure Tb where
  tb : Str → Option FnI
  con : Str → Option D
  dic : Str → Option (List (Str × D))
  fld : Str → Str → Bool
  tbm : Str → Str → Option FnI
  mkr : Str → Option Str
noncomputable def GkN (T : Tb) : Nat → Gb
  | 0 => { cal := fun _ => none, con := T.con, dic := T.dic, fld := T.fld, met := fun _ _ => none, mkr := T.mkr }
  | k + 1 => { cal := fun x => (match T.tb x with | some I => some (I.ps, runF (GkN T k) fuel I) | none => none), con := T.con, dic := T.dic, fld := T.fld, met := fun c m => (match T.tbm c m with | some I => some (I.ps, runF (GkN T k) fuel I) | none => none), mkr := T.mkr }
noncomputable def bltNames : List Str := ["len", "list", "tuple", "range", "isinstance", "int", "bool", "str", "dict", "set", "sorted", "all", "any", "max", "min", "enumerate", "zip"]
structure GOk (P : Program) (w : World) (K : PySem.W.Frag) (mg : Str → Option Value) (base : Heap) (k : Nat) (G : Gb) : Prop where
  fn : ∀ x ps f, G.cal x = some (ps, f) → ∃ fa fd, mg x = some (.ref fa) ∧ PySem.W.keepIn K (.ref fa) = true ∧ Binds K fd ps [] ∧ FnOk P w K mg base CX0 (k + 2) fa fd ps (spD K ps.length f) ∧ ∀ ds mh r, f ds mh = some r → ds.length = ps.length
  con : ∀ x d, G.con x = some d → ∃ u v, mg x = some u ∧ RelV v u ∧ ∀ H ρ, RD K H ρ d v
  blt : ∀ b ∈ bltNames, mg b = none
  dic : ∀ x kvs, G.dic x = some kvs → ∃ a, mg x = some (.ref a) ∧ DicOk w K a kvs
  fld : ∀ c f, G.fld c f = true → ∃ C, PySem.W.nsIn K mainGlobals c = some (some (.ref C)) ∧ Cls K C ∧ NoAttr K C f
  met : ∀ c m ps g, G.met c m = some (ps, g) → ∃ C fa fd, PySem.W.nsIn K mainGlobals c = some (some (.ref C)) ∧ Cls K C ∧ Meth K C m fa ∧ Binds K fd ps [] ∧ FnOk P w K mg base CX0 (k + 2) fa fd ps (spD K ps.length g) ∧ ∀ ds mh r, g ds mh = some r → ds.length = ps.length
  mkr : ∀ c f, G.mkr c = some f → ∃ C fa fd ps, PySem.W.nsIn K mainGlobals c = some (some (.ref C)) ∧ Mk K C fa ∧ mg c = some (.ref C) ∧ Binds K fd ps [] ∧ FnOk P w K mg base CX0 1 fa fd ps (spI C f)
structure XOk (X : Cx) (k : Nat) (G : Gb) (sc : SC) : Prop where
  N : X.N = sc.N
  nd : sc.N.Nodup
  sco : X.env.scope = sc.scope
  own : ∀ x, sc.own x = true → L2.Loc sc.scope x → X.fn x = true ∨ sc.scope.names.lookup x = some .local
  calm : X.calm = true
  xe : X.xe = fun _ _ => False
  room : Room (k + 2) X.A
  g : GOk X.prog X.w X.K X.mg X.base k G
theorem slot_some {N : List Str} {x : Str} {i : Nat} (h : slot N x = some i) : N[i]? = some x := by
  unfold slot at h
  obtain ⟨hl, hp, _⟩ := List.findIdx?_eq_some_iff_getElem.mp h
  rw [List.getElem?_eq_getElem hl]
  exact congrArg some (eq_of_beq hp)
theorem visB_ok {sc : Scope} {x : Str} (h : visB sc x = true) : Vis sc x := by
  unfold visB at h
  split at h
  · exact .inl (by assumption)
  · exact .inr (.inl (by assumption))
  · exact .inr (.inr (by assumption))
  · cases h
theorem locB_ok {sc : Scope} {x : Str} (h : locB sc x = true) : L2.Loc sc x := by
  unfold locB at h
  split at h
  · exact .inl (by assumption)
  · exact .inr (by assumption)
  · cases h
theorem glB_ok {sc : Scope} {x : Str} (h : glB sc x = true) : sc.names.lookup x = some .globalImplicit := by
  unfold glB at h
  split at h
  · assumption
  · cases h
section
variable {X : Cx} {k : Nat} {G : Gb} {sc : SC}
theorem XOk.gl (O : XOk X k G sc) {x : Str} (h : glB sc.scope x = true) : Gl X x := by
  show X.env.scope.names.lookup x = _
  rw [O.sco]; exact glB_ok h
theorem XOk.vis (O : XOk X k G sc) {x : Str} (h : visB sc.scope x = true) : Vis X.env.scope x := by rw [O.sco]; exact visB_ok h
theorem XOk.units (O : XOk X k G sc) : X.A.units + 64 < cLine := O.room.units
theorem star1 {a : Expr} {es : List Expr} {env : Env} (h : isStar a = false) : starEach (a :: es) env = (false, eval a env) :: starEach es env := by
  cases a <;> first | rfl | cases h
theorem starAny {pos : Pos} {env : Env} : ∀ {es : List Expr}, (es.all fun e => !isStar e) = true → (backTo pos (starEach es env)).any (·.1) = false
  | [], _ => rfl
  | a :: r, h => by
    rw [List.all_cons, Bool.and_eq_true] at h
    have h1 : isStar a = false := by simpa using h.1
    rw [star1 h1]
    show (false || (backTo pos (starEach r env)).any (·.1)) = false
    rw [starAny h.2]; rfl
theorem starAll {pos : Pos} {env : Env} : ∀ {es : List Expr}, (es.all fun e => !isStar e) = true → (backTo pos (starEach es env)).all (fun x => !x.1) = true
  | [], _ => rfl
  | a :: r, h => by
    rw [List.all_cons, Bool.and_eq_true] at h
    have h1 : isStar a = false := by simpa using h.1
    rw [star1 h1]
    show (true && (backTo pos (starEach r env)).all (fun x => !x.1)) = true
    rw [starAll h.2]; rfl
theorem base_ok {o : Expr} {name : Str} {env : Env} {w : Sem Value} (h : baseOk o = true) : attributeBase o name env w = w := by
  cases o <;> try rfl
  rename_i f as kw p
  cases f <;> try rfl
  cases as <;> try rfl
  cases kw <;> try rfl
  cases h
theorem set_ok {e : Expr} {env : Env} (h : isSet e = false) : ∀ x, foldedSetIterable e env x = pure x := by
  intro x
  cases e <;> first | rfl | cases h
theorem marks_ok {op : CmpOp} {e : Expr} (h : isSet e = false) : behindInMarks op e = false := by
  cases e <;> first | rfl | cases h
theorem ix_ok {b : Expr} (h : isSlice b = false) : PlainIx b := by
  intro o i
  cases b <;> first | rfl | cases h
theorem relabel_eq (O : XOk X k G sc) (scope : Scope) : relabel scope X.env = relabelS scope sc.scope := by
  unfold relabel relabelS Env.kindOf
  rw [O.sco]
theorem compOk_of (O : XOk X k G sc) {scope : Scope} (h : compOkB scope sc = true) : CompOk X scope := by
  unfold compOkB at h
  rw [Bool.and_eq_true, Bool.and_eq_true] at h
  obtain ⟨h1, h2, h3⟩ := h
  refine ⟨?_, of_decide_eq_true h2, fun p hp e => ?_⟩
  · split at h1
    · assumption
    · cases h1
  · have := List.all_eq_true.mp h3 p hp
    rw [e] at this
    show X.env.scope.names.lookup p.1 = _ ∨ X.env.scope.names.lookup p.1 = _
    rw [O.sco]
    dsimp only at this
    split at this
    · exact .inl (by assumption)
    · exact .inr (by assumption)
    · cases this
theorem compNames_nd {scope : Scope} (h : (scope.names.map (·.1)).Nodup) : (compNames scope).Nodup := by
  unfold compNames
  exact h.sublist ((List.filter_sublist).map _)
theorem capOk_of (O : XOk X k G sc) (scope : Scope) : CapOk X (compNames scope) scope (capsOf sc.N scope) := by
  refine ⟨by unfold capsOf; rw [List.length_map], fun i x j e1 e2 => ?_⟩
  unfold capsOf at e2
  rw [List.getElem?_map, e1] at e2
  simp only [Option.map_some, Option.some.injEq] at e2
  split at e2
  · rename_i hl
    exact ⟨hl, by rw [O.N]; exact slot_some e2⟩
  · cases e2
theorem XOk.comp (O : XOk X k G sc) {scope : Scope} (h : compOkB scope sc = true) (pins : List (Addr × Obj)) (C : Addr) (cells : List (Str × Addr)) (s₀ : Shared) (H₀ : Hp) (fp : List Addr) :
    XOk (cxComp X pins (compNames scope) scope C cells s₀ H₀ fp) k G (compSC scope sc) := by
  have S := compOk_of O h
  refine ⟨rfl, compNames_nd S.nd, relabel_eq O scope, fun x hx hl => ?_, O.calm, rfl, O.room, O.g⟩
  have hx : locB scope x = true := hx
  rcases locB_ok hx with q | q
  · right
    show (relabelS scope sc.scope).names.lookup x = _
    rw [← relabel_eq O scope, relabel_lookup, q]
    rfl
  · left
    exact decide_eq_true (PySem.mem_of_lookup q)
theorem iGn_some {x : Str} {i : Nat} (h : iGn sc x = some i) : locB sc.scope x = true ∧ sc.own x = true ∧ slot sc.N x = some i := by
  unfold iGn at h
  split at h
  · rename_i hc
    rw [Bool.and_eq_true] at hc
    exact ⟨hc.1, hc.2, h⟩
  · cases h
theorem XOk.name (O : XOk X k G sc) {x : Str} {i : Nat} {pos : Pos} (h : iGn sc x = some i) : PG X (.Name x pos) (gName i) := by
  obtain ⟨h1, h2, h3⟩ := iGn_some h
  have hl := locB_ok h1
  refine pg_name (by rw [O.N]; exact O.nd) (by rw [O.N]; exact slot_some h3) (by rw [O.sco]; exact hl) ?_
  rw [O.sco]
  exact O.own x h2 hl
theorem XOk.names (O : XOk X k G sc) {es : List Expr} {is : List Nat} (h : iGs sc es = some is) : PGs X es (gNs is) ∧ (assignEach es X.env).length = is.length ∧ (assignEach es X.env).findIdx? (·.1) = none := by
  induction es generalizing is with
  | nil => cases h; exact ⟨pgs_nil, rfl, rfl⟩
  | cons e r ih =>
    cases e with
    | Name x p =>
      simp only [iGs] at h
      split at h
      · rename_i i ei
        split at h
        · rename_i js ej
          cases h
          obtain ⟨h1, h2, h3⟩ := ih ej
          refine ⟨pgs_cons (O.name ei) h1 rfl, ?_, ?_⟩
          · show (assignEach r X.env).length + 1 = js.length + 1
            rw [h2]
          · show List.findIdx? (fun x => x.1) ((false, assign (.Name x p) X.env) :: assignEach r X.env) = none
            rw [List.findIdx?_cons]
            simp only [Bool.false_eq_true, if_false, h3]
            rfl
        · cases h
      · cases h
    | _ => cases h
theorem XOk.target (O : XOk X k G sc) {tg : Expr} {ws : List Nat} {g : GM} (h : iG sc tg = some (ws, g)) : DG X tg ws g := by
  cases tg with
  | Name x p =>
    simp only [iG] at h
    split at h
    · rename_i i ei
      cases h
      obtain ⟨h1, h2, h3⟩ := iGn_some ei
      have hl := locB_ok h1
      refine dg_name (by rw [O.N]; exact O.nd) (by rw [O.N]; exact slot_some h3) (by rw [O.sco]; exact hl) ?_
      rw [O.sco]
      exact O.own x h2 hl
    · cases h
  | Tuple es kk p =>
    simp only [iG] at h
    split at h
    · rename_i is ei
      cases h
      obtain ⟨h1, h2, h3⟩ := O.names ei
      exact dg_tup O.calm h1 h2 h3
    · cases h
  | _ => cases h
end
structure SndE (G : Gb) (n : Nat) : Prop where
  e : ∀ {X : Cx} {k : Nat} {sc : SC}, XOk X k G sc → ∀ e, DE X e (iE G n sc e)
  t : ∀ {X : Cx} {k : Nat} {sc : SC}, XOk X k G sc → ∀ e, DT X e (iT G n sc e)
  a : ∀ {X : Cx} {k : Nat} {sc : SC}, XOk X k G sc → ∀ es, DA X es (iA G n sc es)
  f : ∀ {X : Cx} {k : Nat} {sc : SC}, XOk X k G sc → ∀ es, DIf X es (iF G n sc es)
  i : ∀ {X : Cx} {k : Nat} {sc : SC}, XOk X k G sc → ∀ tg e, DI X tg e (iI G n sc tg e)
theorem dif_bad {X : Cx} {es : List Expr} : DIf X es DM.bad := fun pins s σ H Q I ⟨loc, mh, ρ, b, mh', q, _⟩ => by cases q
theorem di_bad {X : Cx} {tg e : Expr} : DI X tg e DM.bad := fun loc mh => PI_none
theorem dicOf_some {X : Cx} {k : Nat} {G : Gb} {sc : SC} (O : XOk X k G sc) {e : Expr} {kvs : List (Str × D)} (h : dicOf G sc e = some kvs) : ∃ x p a, e = .Name x p ∧ Gl X x ∧ (x == ("__debug__" : Str)) = false ∧ X.mg x = some (.ref a) ∧ DicOk X.w X.K a kvs := by
  cases e with
  | Name x p =>
    simp only [dicOf] at h
    split at h
    · rename_i hc
      rw [Bool.and_eq_true] at hc
      obtain ⟨a, h1, h2⟩ := O.g.dic _ _ h
      exact ⟨x, p, a, rfl, O.gl hc.1, by simpa using hc.2, h1, h2⟩
    · cases h
  | _ => cases h
theorem dicArg_some {G : Gb} {sc : SC} {op : CmpOp} {b : Expr} {neg : Bool} {kvs : List (Str × D)} (h : dicArg G sc op b = some (neg, kvs)) : dicOf G sc b = some kvs ∧ ((op = .In ∧ neg = false) ∨ (op = .NotIn ∧ neg = true)) := by
  cases op <;> first | cases h; done | skip
  all_goals
    simp only [dicArg] at h
    split at h
    · rename_i q
      cases h
      exact ⟨q, by simp⟩
    · cases h
theorem dicArg_e {X : Cx} {k : Nat} {G : Gb} {sc : SC} (O : XOk X k G sc) {op : CmpOp} {a b : Expr} {neg : Bool} {kvs : List (Str × D)} {ma : DM D} {p : Pos} (h : dicArg G sc op b = some (neg, kvs)) (ha : DE X a ma) : DE X (.Compare a [op] [b] p) (dicIn neg kvs ma) := by
  obtain ⟨h0, h1⟩ := dicArg_some h
  obtain ⟨x, p', ad, rfl, g1, g2, g3, g4⟩ := dicOf_some O h0
  rcases h1 with ⟨rfl, rfl⟩ | ⟨rfl, rfl⟩
  · exact de_dicIn g4 g1 g3 g2 ha
  · exact de_dicNotIn g4 g1 g3 g2 ha
theorem dicArg_t {X : Cx} {k : Nat} {G : Gb} {sc : SC} (O : XOk X k G sc) {op : CmpOp} {a b : Expr} {neg : Bool} {kvs : List (Str × D)} {ma : DM D} {p : Pos} (h : dicArg G sc op b = some (neg, kvs)) (ha : DE X a ma) : DT X (.Compare a [op] [b] p) (boolD (dicIn neg kvs ma)) := by
  obtain ⟨h0, h1⟩ := dicArg_some h
  obtain ⟨x, p', ad, rfl, g1, g2, g3, g4⟩ := dicOf_some O h0
  rcases h1 with ⟨rfl, rfl⟩ | ⟨rfl, rfl⟩
  · exact dt_dicIn g4 g1 g3 g2 ha
  · exact dt_dicNotIn g4 g1 g3 g2 ha
theorem mkArg_some {G : Gb} {f fl : Str} {es : List Expr} (h : mkArg G f es = some fl) : es = [] ∧ G.mkr f = some fl := by
  cases es with
  | nil => exact ⟨rfl, h⟩
  | cons a r => cases h
theorem few_of {X : Cx} {a : Expr} {es : List Expr} {p : Pos} (hs : isStar a = false) (hr : (es.all fun e => !isStar e) = true) (hk : (a :: es).length < 20) : ((backTo p (starEach (a :: es) X.env)).all (fun x => !x.1) && (backToKw p (keywordEach [] X.env)).all (fun x => x.1.isSome) && decide ((a :: es).length + ([] : List Keyword).length + (if ([] : List Keyword).isEmpty then 0 else 1) < 30)) = true := by
  rw [starAll (by rw [List.all_cons, hs, hr]; rfl)]
  have : decide ((a :: es).length + ([] : List Keyword).length + (if ([] : List Keyword).isEmpty then 0 else 1) < 30) = true := decide_eq_true (by simp; simp at hk; omega)
  rw [this]; rfl
theorem blt_call {X : Cx} {k : Nat} {G : Gb} {sc : SC} (O : XOk X k G sc) {f : Str} {g : Fn} {p pos : Pos} {a : Expr} {es : List Expr} {mr : DM (List D)} (h : bltOf f = some g) (hg : glB sc.scope f = true) (ha : DA X (a :: es) mr) (hn : f ≠ "__name__") (hd : (f == ("__debug__" : Str)) = false) (hs : isStar a = false) (hr : (es.all fun e => !isStar e) = true) :
    DE X (.Call (.Name f p) (a :: es) [] pos) (mr.bnd fun ds => DM.lift (g ds)) := by
  unfold bltOf at h
  split at h
  · rename_i e; cases h; rw [eq_of_beq e] at hg hn hd ⊢; exact de_callB call_lenD (O.gl hg) (O.g.blt _ (by decide +kernel)) PySem.boot_len ha hn hd (star1 hs) (starAny hr)
  · split at h
    · rename_i e; cases h; rw [eq_of_beq e] at hg hn hd ⊢; exact de_callTy (call_no (f := .type "list")) (O.gl hg) (O.g.blt _ (by decide +kernel)) (by decide +kernel) ha hn hd (star1 hs) (starAny hr)
    · split at h
      · rename_i e; cases h; rw [eq_of_beq e] at hg hn hd ⊢; exact de_callTy call_tupleD (O.gl hg) (O.g.blt _ (by decide +kernel)) (by decide +kernel) ha hn hd (star1 hs) (starAny hr)
      · split at h
        · rename_i e; cases h; rw [eq_of_beq e] at hg hn hd ⊢; exact de_callB (call_no (f := .builtin "all")) (O.gl hg) (O.g.blt _ (by decide +kernel)) (by decide +kernel) ha hn hd (star1 hs) (starAny hr)
        · split at h
          · rename_i e; cases h; rw [eq_of_beq e] at hg hn hd ⊢; exact de_callB (call_no (f := .builtin "any")) (O.gl hg) (O.g.blt _ (by decide +kernel)) (by decide +kernel) ha hn hd (star1 hs) (starAny hr)
          · split at h
            · rename_i e; cases h; rw [eq_of_beq e] at hg hn hd ⊢; exact de_callB (call_maxD2 O.calm) (O.gl hg) (O.g.blt _ (by decide +kernel)) (by decide +kernel) ha hn hd (star1 hs) (starAny hr)
            · split at h
              · rename_i e; cases h; rw [eq_of_beq e] at hg hn hd ⊢; exact de_callB (call_minD2 O.calm) (O.gl hg) (O.g.blt _ (by decide +kernel)) (by decide +kernel) ha hn hd (star1 hs) (starAny hr)
              · split at h
                · rename_i e; cases h; rw [eq_of_beq e] at hg hn hd ⊢; exact de_callB (call_no (f := .builtin "sorted")) (O.gl hg) (O.g.blt _ (by decide +kernel)) (by decide +kernel) ha hn hd (star1 hs) (starAny hr)
                · cases h
theorem meth_call0 {X : Cx} {m : Str} {T : String} {f : D → List D → MH → Option (D × MH)} {o : Expr} {mo : DM D} {ap p : Pos} (h : methOf m 0 = some (T, f)) (ho : DE X o mo) (hb : baseOk o = true) (hl : (ap.endLine == p.line) = true) : DE X (.Call (.Attribute o m ap) [] [] p) (methM T f mo (DM.ret [])) := by
  unfold methOf at h
  split at h
  · rename_i e; rw [Bool.and_eq_true] at e; exact absurd e.2 (by decide)
  · split at h
    · rename_i e; rw [Bool.and_eq_true] at e; cases h; rw [eq_of_beq e.1]; exact de_bm0 PySem.F.plainAttrs_int PySem.F.slot_int_bit_length PySem.F.type_int_bit_length mt_no ho (base_ok hb) hl
    · split at h
      · rename_i e; rw [Bool.and_eq_true] at e; exact absurd e.2 (by decide)
      · split at h
        · rename_i e; rw [Bool.and_eq_true] at e; cases h; rw [eq_of_beq e.1]; exact de_bm0 PySem.F.plainAttrs_list PySem.F.slot_list_pop PySem.F.type_list_pop mt_no ho (base_ok hb) hl
        · split at h
          · rename_i e; rw [Bool.and_eq_true] at e; exact absurd e.2 (by decide)
          · split at h
            · rename_i e; rw [Bool.and_eq_true] at e; exact absurd e.2 (by decide)
            · cases h
theorem meth_call {X : Cx} {m : Str} {T : String} {f : D → List D → MH → Option (D × MH)} {o a : Expr} {es : List Expr} {mo : DM D} {mr : DM (List D)} {ap p : Pos} (h : methOf m (a :: es).length = some (T, f)) (ho : DE X o mo) (ha : DA X (a :: es) mr) (hb : baseOk o = true) (hl : (ap.endLine == p.line) = true) (hs : isStar a = false) (hr : (es.all fun e => !isStar e) = true) (hk : (a :: es).length < 20) :
    DE X (.Call (.Attribute o m ap) (a :: es) [] p) (methM T f mo mr) := by
  have few : ((backTo p (starEach (a :: es) X.env)).all (fun x => !x.1) && (backToKw p (keywordEach [] X.env)).all (fun x => x.1.isSome) && decide ((a :: es).length + ([] : List Keyword).length + (if ([] : List Keyword).isEmpty then 0 else 1) < 30)) = true := by
    rw [starAll (by rw [List.all_cons, hs, hr]; rfl)]
    have : decide ((a :: es).length + ([] : List Keyword).length + (if ([] : List Keyword).isEmpty then 0 else 1) < 30) = true := decide_eq_true (by simp; simp at hk; omega)
    rw [this]; rfl
  unfold methOf at h
  split at h
  · rename_i e; rw [Bool.and_eq_true] at e; cases h; rw [eq_of_beq e.1]; exact de_bm PySem.F.plainAttrs_list PySem.F.slot_list_append PySem.F.type_list_append mt_appendD ho ha (base_ok hb) few hl (star1 hs) (starAny hr)
  · split at h
    · rename_i e; rw [Bool.and_eq_true] at e; exact absurd (eq_of_beq e.2) (by simp)
    · split at h
      · rename_i e; rw [Bool.and_eq_true] at e; cases h; rw [eq_of_beq e.1]; exact de_bm PySem.F.plainAttrs_list PySem.F.slot_list_pop PySem.F.type_list_pop mt_no ho ha (base_ok hb) few hl (star1 hs) (starAny hr)
      · split at h
        · rename_i e; rw [Bool.and_eq_true] at e; exact absurd (eq_of_beq e.2) (by simp)
        · split at h
          · rename_i e; rw [Bool.and_eq_true] at e; cases h; rw [eq_of_beq e.1]; exact de_bm PySem.F.plainAttrs_list PySem.F.slot_list_extend PySem.F.type_list_extend mt_extendD ho ha (base_ok hb) few hl (star1 hs) (starAny hr)
          · split at h
            · rename_i e; rw [Bool.and_eq_true] at e; cases h; rw [eq_of_beq e.1]; exact de_bm PySem.F.plainAttrs_tuple PySem.F.slot_tuple_index PySem.F.type_tuple_index mt_no ho ha (base_ok hb) few hl (star1 hs) (starAny hr)
            · cases h
theorem rngArg_some {a : Expr} {es : List Expr} {b : Expr} (h : rngArg a es = some b) : es = [] ∧ isStar b = false ∧ ∃ p q, a = .Call (.Name "range" p) [b] [] q := by
  unfold rngArg at h
  split at h
  · rename_i g p b' q
    split at h
    · rename_i hc
      rw [Bool.and_eq_true] at hc
      cases h
      exact ⟨rfl, by simpa using hc.2, p, q, by rw [eq_of_beq hc.1]⟩
    · cases h
  · cases h
theorem setPair_ok {X : Cx} {k : Nat} {G : Gb} {sc : SC} (O : XOk X k G sc) {a b : Expr} {op : CmpOp} {i j : Nat} {pos : Pos} (h : setPair sc a op b = some (i, j)) :
    DE X (.Compare a [op] [b] pos) (setEqM (fun loc mh => match loc[i]? with | some (some d) => some (d, mh) | _ => none) (fun loc mh => match loc[j]? with | some (some d) => some (d, mh) | _ => none)) := by cases h
theorem snd_zero (G : Gb) : SndE G 0 := ⟨fun _ _ => de_bad, fun _ _ => dt_bad, fun _ _ => da_bad, fun _ _ => dif_bad, fun _ _ _ => di_bad⟩
theorem snd_a {G : Gb} {n : Nat} (S : SndE G n) {X : Cx} {k : Nat} {sc : SC} (O : XOk X k G sc) (es : List Expr) : DA X es (iA G (n + 1) sc es) := by
  cases es with
  | nil => exact da_nil
  | cons a r =>
    show DA X (a :: r) (if isStar a then DM.bad else dCons (iE G n sc a) (iA G n sc r))
    split
    · exact da_bad
    · rename_i h
      exact da_cons (S.e O a) (S.a O r) (star1 (by simpa using h))
theorem snd_f {G : Gb} {n : Nat} (S : SndE G n) {X : Cx} {k : Nat} {sc : SC} (O : XOk X k G sc) (es : List Expr) : DIf X es (iF G (n + 1) sc es) := by
  cases es with
  | nil => exact dif_nil
  | cons a r =>
    cases r with
    | nil => exact dif_one (S.t O a)
    | cons b r => exact dif_bad
theorem snd_i {G : Gb} {n : Nat} (S : SndE G n) {X : Cx} {k : Nat} {sc : SC} (O : XOk X k G sc) (tg e : Expr) : DI X tg e (iIb (iE G n) (iT G n) (iA G n) (iF G n) (iI G n) G sc tg e) := by
  cases e with
  | Call ff args kws p' =>
    cases ff with
    | Name f p =>
      cases args with
      | nil => exact di_val (S.e O _)
      | cons a r =>
        cases r with
        | nil =>
          cases kws with
          | nil =>
            delta iIb
            dsimp only
            split
            · rename_i h
              rw [Bool.and_eq_true] at h
              split
              · exact di_bad
              · rename_i hs
                have hs : isStar a = false := by simpa using hs
                have e := eq_of_beq h.1
                subst e
                exact di_range1 (O.gl h.2) (O.g.blt _ (by decide +kernel)) (S.a O [a]) (star1 hs)
            · split
              · rename_i h
                rw [Bool.and_eq_true] at h
                split
                · exact di_bad
                · rename_i hs
                  have hs : isStar a = false ∧ isTupE tg = true := by simpa using hs
                  have e := eq_of_beq h.1
                  subst e
                  cases tg with
                  | Tuple es kk tp => exact di_bad
                  | _ => cases hs.2
              · exact di_val (S.e O _)
          | cons _ _ => exact di_val (S.e O _)
        | cons b r =>
          cases r with
          | nil =>
            cases kws with
            | nil =>
              delta iIb
              dsimp only
              split
              · rename_i h
                rw [Bool.and_eq_true] at h
                split
                · exact di_bad
                · rename_i hs
                  have hs : isStar a = false ∧ isStar b = false := by simpa using hs
                  have e := eq_of_beq h.1
                  subst e
                  exact di_bad
              · split
                · rename_i h
                  rw [Bool.and_eq_true] at h
                  split
                  · exact di_bad
                  · rename_i hs
                    have hs : (isStar a = false ∧ isStar b = false) ∧ isTupE tg = true := by simpa using hs
                    have e := eq_of_beq h.1
                    subst e
                    cases tg with
                    | Tuple elts kk tp => exact di_bad
                    | _ => cases hs.2
                · exact di_val (S.e O _)
            | cons _ _ => exact di_val (S.e O _)
          | cons c r =>
            cases r with
            | cons _ _ => exact di_val (S.e O _)
            | nil =>
              cases kws with
              | cons _ _ => exact di_val (S.e O _)
              | nil =>
                delta iIb
                dsimp only
                split
                · rename_i h
                  rw [Bool.and_eq_true] at h
                  split
                  · exact di_bad
                  · rename_i hs
                    have hs : (isStar a = false ∧ isStar b = false) ∧ isStar c = false := by simpa using hs
                    have e := eq_of_beq h.1
                    subst e
                    exact di_range3 (O.gl h.2) (O.g.blt _ (by decide +kernel)) (S.a O [a, b, c]) (star1 hs.1.1) (starAny (by simp [hs.1.2, hs.2]))
                · exact di_val (S.e O _)
    | _ => exact di_val (S.e O _)
  | _ => exact di_val (S.e O _)
theorem dw_of {X : Cx} {op : BoolOp} {vs : List Expr} {p : Pos} {m : DM Bool} (h : DT X (.BoolOp op vs p) m) : DW X (.BoolOp op vs p) m := fun loc mh wh pins s σ H Q I q => h loc mh pins s σ H Q I q
theorem snd_t {G : Gb} {n : Nat} (S : SndE G n) {X : Cx} {k : Nat} {sc : SC} (O : XOk X k G sc) (e : Expr) : DT X e (iTb (iE G n) (iT G n) (iA G n) (iF G n) (iI G n) G sc e) := by
  cases e with
  | UnaryOp op a p =>
    cases op with
    | Not => exact dt_not (S.t O _)
    | _ => exact dt_truth (S.e O _) fun _ => rfl
  | BoolOp op vs p =>
    cases vs with
    | nil => cases op <;> exact dt_bad
    | cons a r =>
      cases r with
      | nil =>
        cases op
        · exact (dw_and1 (S.t O a)).dt
        · exact (dw_or1 (S.t O a)).dt
      | cons b r =>
        cases op
        · exact (dw_and (S.t O _) (dw_of (S.t O _))).dt
        · exact (dw_or (S.t O _) (dw_of (S.t O _))).dt
  | IfExp c a b p => exact dt_bad
  | Compare a ops cs p =>
    cases ops with
    | nil => exact dt_bad
    | cons op ops =>
      cases ops with
      | nil =>
        cases cs with
        | nil => exact dt_bad
        | cons b cs =>
          cases cs with
          | cons _ _ => exact dt_bad
          | nil =>
            delta iTb
            dsimp only
            split
            · rename_i neg kvs hd
              exact dicArg_t O hd (S.e O _)
            · split
              · exact dt_bad
              · rename_i h
                exact dt_cmp (cmpOf_ok O.units _) (marks_ok (by simpa using h)) (S.e O _) (S.e O _)
      | cons op' ops =>
        cases ops with
        | cons _ _ => exact dt_bad
        | nil =>
          cases cs with
          | nil => exact dt_bad
          | cons b cs =>
            cases cs with
            | nil => exact dt_bad
            | cons c cs =>
              cases cs with
              | cons _ _ => exact dt_bad
              | nil =>
                delta iTb
                dsimp only
                split
                · exact dt_bad
                · rename_i h
                  exact dt_chain (cmpOf_ok O.units _) (cmpOf_ok O.units _) (by show behindInMarks _ _ = false; exact marks_ok (by simpa using h)) (S.e O _) (S.e O _) (S.e O _)
  | _ => exact dt_truth (S.e O _) fun _ => rfl
theorem snd_e {G : Gb} {n : Nat} (S : SndE G n) {X : Cx} {k : Nat} {sc : SC} (O : XOk X k G sc) (e : Expr) : DE X e (iEb (iE G n) (iT G n) (iA G n) (iF G n) (iI G n) G sc e) := by
  cases e with
  | Constant c _ _ =>
    cases c with
    | int i => exact de_c pe_int fun _ _ _ => .int _
    | bool b => exact de_c pe_bl fun _ _ _ => .bl _
    | none => exact de_c pe_non fun _ _ _ => .non
    | str x => exact de_c pe_str fun _ _ _ => .str _
    | _ => exact de_bad
  | Name x p =>
    delta iEb
    dsimp only
    split
    · rename_i h
      rw [Bool.and_eq_true, Bool.and_eq_true] at h
      obtain ⟨⟨h1, h2⟩, h3⟩ := h
      split
      · rename_i i ei
        exact de_var (by rw [O.N]; exact slot_some ei) (O.vis h1) (by simpa using h2) (by simpa using h3)
      · exact de_bad
    · split
      · rename_i h
        rw [Bool.and_eq_true] at h
        split
        · rename_i d ed
          obtain ⟨u, v, h1, h2, h3⟩ := O.g.con _ _ ed
          exact fun loc mh => PE_imp (pe_glob (O.gl h.1) h1 h2 (by simpa using h.2)) fun σ H Q ⟨ρ, d', mh', q, rl, rs, co⟩ => by
            cases q
            exact co H ρ v Ev.refl rs (h3 H ρ)
        · exact de_bad
      · exact de_bad
  | BinOp a op b _ =>
    delta iEb
    dsimp only
    split
    · rename_i f ef
      exact de_op (opOf_ok ef) (S.e O _) (S.e O _)
    · exact de_bad
  | UnaryOp op a _ =>
    cases op with
    | USub => exact de_un un_negD (S.e O _)
    | Not => exact de_not (S.e O _)
    | _ => exact de_bad
  | BoolOp op vs _ =>
    cases vs with
    | nil => cases op <;> exact de_bad
    | cons a r =>
      cases r with
      | nil => cases op <;> exact de_one (S.e O _)
      | cons b r =>
        cases op
        · exact de_and (S.e O _) (S.e O _)
        · exact de_or (S.e O _) (S.e O _)
  | Compare a ops cs _ =>
    cases ops with
    | nil => exact de_bad
    | cons op ops =>
      cases ops with
      | nil =>
        cases cs with
        | nil => exact de_bad
        | cons b cs =>
          cases cs with
          | cons _ _ => exact de_bad
          | nil =>
            delta iEb
            dsimp only
            split
            · rename_i i j hp
              exact setPair_ok O hp
            · split
              · rename_i neg kvs hd
                exact dicArg_e O hd (S.e O _)
              · split
                · exact de_bad
                · rename_i h
                  exact de_cmp (cmpOf_ok O.units _) (marks_ok (by simpa using h)) (S.e O _) (S.e O _)
      | cons op' ops =>
        cases ops with
        | cons _ _ => exact de_bad
        | nil =>
          cases cs with
          | nil => exact de_bad
          | cons b cs =>
            cases cs with
            | nil => exact de_bad
            | cons c cs =>
              cases cs with
              | cons _ _ => exact de_bad
              | nil =>
                delta iEb
                dsimp only
                split
                · exact de_bad
                · rename_i h
                  exact de_chain (cmpOf_ok O.units _) (cmpOf_ok O.units _) (by show behindInMarks _ _ = false; exact marks_ok (by simpa using h)) (S.e O _) (S.e O _) (S.e O _)
  | IfExp c a b _ => exact de_if (S.t O _) (S.e O _) (S.e O _)
  | Tuple es _ _ => exact de_tup (S.a O _)
  | List es _ => exact de_lst (S.a O _)
  | Subscript a b _ =>
    have gen : DE X (.Subscript a b ‹_›) (if isSlice b then DM.bad else (match dicOf G sc a with | some kvs => dicIx kvs (iE G n sc b) | none => dop ixD (iE G n sc a) (iE G n sc b))) := by
      split
      · exact de_bad
      · rename_i h
        split
        · rename_i kvs hd
          obtain ⟨x, p, a, rfl, h1, h2, h3, h4⟩ := dicOf_some O hd
          exact de_dicIx h4 h1 h3 h2 (S.e O _) (ix_ok (by simpa using h))
        · exact de_ix ix_D (ix_ok (by simpa using h)) (S.e O _) (S.e O _)
    cases b with
    | Slice lo hi st _ =>
      cases st with
      | none =>
        refine de_slice (S.e O _) ?_ ?_
        · cases lo with
          | none => trivial
          | some e => exact S.e O e
        · cases hi with
          | none => trivial
          | some e => exact S.e O e
      | some s => exact gen
    | _ => exact gen
  | Attribute o f _ =>
    delta iEb
    dsimp only
    split
    · rename_i h
      exact de_attr (fun c hc => O.g.fld c _ hc) (S.e O _) (base_ok h)
    · exact de_bad
  | Call ff args kws p' =>
    cases ff with
    | Name f p =>
      cases kws with
      | cons kw ks =>
        cases args with
        | nil => exact de_bad
        | cons a es =>
          cases es with
          | cons _ _ => exact de_bad
          | nil =>
            delta iEb
            dsimp only
            split
            · rename_i h
              simp only [Bool.and_eq_true] at h
              obtain ⟨⟨⟨h1, h4⟩, h5⟩, h6⟩ := h
              have h4 : isStar a = false := by simpa using h4
              have h6 : ks = [] := by simpa using h6
              subst h6
              obtain ⟨j, cp, kp, rfl⟩ := kwNone_some h5
              split
              · rename_i hf
                have e := eq_of_beq hf
                subst e
                exact de_maxK O.calm (O.gl h1) (O.g.blt _ (by decide +kernel)) (S.a O [a]) (star1 h4)
              · split
                · rename_i hf
                  have e := eq_of_beq hf
                  subst e
                  exact de_minK O.calm (O.gl h1) (O.g.blt _ (by decide +kernel)) (S.a O [a]) (star1 h4)
                · exact de_bad
            · exact de_bad
      | nil =>
        cases args with
        | nil =>
          delta iEb
          dsimp only
          split
          · rename_i h
            rw [Bool.and_eq_true] at h
            split
            · rename_i g eg
              obtain ⟨fa, fd, h1, h2, h3, h4, h5⟩ := O.g.fn _ _ _ eg
              exact de_call0 (E := E0) h4 O.room (O.gl h.1) h1 h2 h3 pass0 (by simpa using h.2)
            · exact de_bad
          · exact de_bad
        | cons a es =>
          delta iEb
          dsimp only
          split
          · rename_i h
            simp only [Bool.and_eq_true] at h
            obtain ⟨⟨⟨⟨h1, h2⟩, h3⟩, h4⟩, h5⟩ := h
            have h2 : (f == ("__debug__" : Str)) = false := by simpa using h2
            have h3 : f ≠ "__name__" := by simpa using h3
            have h4 : isStar a = false := by simpa using h4
            split
            · rename_i ps g eg
              obtain ⟨fa, fd, g1, g2, g3, g4, g5⟩ := O.g.fn _ _ _ eg
              exact de_call (E := E0) g4 O.room (O.gl h1) g1 g2 g3 pass0 (S.a O _) g5 h2 (star1 h4) (starAny h5)
            · split
              · rename_i fl hb
                obtain ⟨rfl, hb⟩ := mkArg_some hb
                obtain ⟨C, fa, fd, ps, g1, g2, g3, g4, g5⟩ := O.g.mkr _ _ hb
                exact de_make (E := E0) g1 g2 g5 (O.room.mono (by omega)) (O.gl h1) g3 g4 pass0 (S.e O a) h2 (star1 h4)
              split
              · rename_i b hb
                cases hb
              · split
                · rename_i b hb
                  obtain ⟨rfl, hsb, p2, q2, rfl⟩ := rngArg_some hb
                  split
                  · rename_i hs
                    split
                    · rename_i hf
                      have e := eq_of_beq hf
                      subst e
                      exact de_listRng O.calm (O.gl h1) (O.g.blt _ (by decide +kernel)) (O.gl hs) (O.g.blt _ (by decide +kernel)) (S.e O b) (star1 hsb)
                    · split
                      · rename_i hf
                        have e := eq_of_beq hf
                        subst e
                        exact de_tupRng O.calm (O.gl h1) (O.g.blt _ (by decide +kernel)) (O.gl hs) (O.g.blt _ (by decide +kernel)) (S.e O b) (star1 hsb)
                      · exact de_bad
                  · exact de_bad
                · split
                  · rename_i hf
                    split
                    · rename_i c pc
                      split
                      · rename_i hc
                        simp only [Bool.and_eq_true] at hc
                        obtain ⟨⟨c1, c2⟩, c3⟩ := hc
                        split
                        · rename_i T eT
                          cases eT
                        · exact de_bad
                      · exact de_bad
                    · exact de_bad
                  · split
                    · rename_i g eg
                      exact blt_call O eg h1 (S.a O _) h3 h2 h4 h5
                    · exact de_bad
          · exact de_bad
    | Attribute o m ap =>
      cases kws with
      | cons _ _ => cases args <;> exact de_bad
      | nil =>
        cases args with
        | nil =>
          delta iEb
          dsimp only
          split
          · rename_i h
            rw [Bool.and_eq_true] at h
            split
            · rename_i T f eT
              exact meth_call0 eT (S.e O _) h.1 h.2
            · exact de_objM0 (E := E0) (fun c ps g hg => O.g.met c _ ps g hg) O.room pass0 (S.e O _) (base_ok h.1) h.2
          · exact de_bad
        | cons a es =>
          delta iEb
          dsimp only
          split
          · rename_i h
            simp only [Bool.and_eq_true] at h
            obtain ⟨⟨⟨⟨h1, h2⟩, h3⟩, h4⟩, h5⟩ := h
            split
            · rename_i hm
              rw [Bool.and_eq_true] at hm
              have em := eq_of_beq hm.1
              subst em
              rw [Bool.not_eq_true'] at h3
              exact de_methE (de_bm PySem.F.plainAttrs_tuple PySem.F.slot_tuple_count PySem.F.type_tuple_count mt_no (S.e O _) (S.a O _) (base_ok h1) (few_of h3 h4 (of_decide_eq_true h5)) h2 (star1 h3) (starAny h4))
                (de_bm PySem.F.plainAttrs_list PySem.F.slot_list_count PySem.F.type_list_count mt_no (S.e O _) (S.a O _) (base_ok h1) (few_of h3 h4 (of_decide_eq_true h5)) h2 (star1 h3) (starAny h4))
            split
            · rename_i T f eT
              exact meth_call eT (S.e O _) (S.a O _) h1 h2 (by simpa using h3) h4 (of_decide_eq_true h5)
            · rw [Bool.not_eq_true'] at h3
              exact de_objM (E := E0) (fun c ps g hg => O.g.met c _ ps g hg) O.room pass0 (S.e O _) (S.a O _) (base_ok h1) (few_of h3 h4 (of_decide_eq_true h5)) h2 (star1 h3) (starAny h4)
          · exact de_bad
    | _ => cases args <;> exact de_bad
  | ListComp elt gens scope p =>
    cases gens with
    | nil => exact de_bad
    | cons g gens =>
      obtain ⟨tg, iter, ifs, kk⟩ := g
      cases gens with
      | cons _ _ => exact de_bad
      | nil =>
        delta iEb
        dsimp only
        split
        · rename_i h
          simp only [Bool.and_eq_true] at h
          obtain ⟨⟨h1, h2⟩, h3⟩ := h
          have e := eq_of_beq h1
          subst e
          split
          · rename_i ws g eg
            split
            · rename_i hw
              refine de_comp (N' := compNames scope) O.calm (compOk_of O h2) (capOk_of O scope) (fun i hi j q => ?_) (S.i O tg iter) (fun p C c s h f => (O.comp h2 p C c s h f).target eg) (fun p C c s h f => S.f (O.comp h2 p C c s h f) ifs) (fun p C c s h f => S.e (O.comp h2 p C c s h f) elt) (set_ok (by simpa using h3))
              have z := List.all_eq_true.mp hw i hi
              rw [q] at z
              cases z
            · exact de_bad
          · exact de_bad
        · exact de_bad
  | _ => exact de_bad
theorem snd (G : Gb) : ∀ n, SndE G n
  | 0 => snd_zero G
  | n + 1 => ⟨fun O => snd_e (snd G n) O, fun O => snd_t (snd G n) O, fun O => snd_a (snd G n) O, fun O => snd_f (snd G n) O, fun O => snd_i (snd G n) O⟩
theorem asg_bad {X : Cx} {st : Stmt} {g : GM} : DS X st (asgS DM.bad g) := fun _ _ _ _ _ _ h => by obtain ⟨_, _, _, _, _, _, e, _⟩ := h; cases e
theorem ds_compAsg {G : Gb} {X : Cx} {k : Nat} {sc : SC} (O : XOk X k G sc) (n : Nat) {y : Str} {py vp spos : Pos} {elt : Expr} {gens : List Comprehension} {scope : Scope} {ws : List Nat} {gy : GM} (hgy : iG sc (.Name y py) = some (ws, gy)) :
    DS X (.Assign [.Name y py] (.ListComp elt gens scope vp) spos) (asgS (iE G n sc (.ListComp elt gens scope vp)) gy) := by
  have hg := O.target hgy
  have sw : swapsWith (.ListComp elt gens scope vp) (some (.Name y py)) spos.line X.env = pure (X.env.blockKind == .function && X.env.kindOf y == some .local && py.line == vp.line && !(scope.names.any fun (n, k) => n == y && (k == .local || k == .cell))) := rfl
  cases hb : (X.env.blockKind == .function && X.env.kindOf y == some .local && py.line == vp.line && !(scope.names.any fun (n, k) => n == y && (k == .local || k == .cell))) with
  | false =>
    rw [hb] at sw
    exact ds_asg ((snd G n).e O _) hg sw rfl rfl
  | true =>
    rw [hb] at sw
    cases n with
    | zero => exact asg_bad
    | succ n =>
      show DS X _ (asgS (iEb (iE G n) (iT G n) (iA G n) (iF G n) (iI G n) G sc _) gy)
      match gens with
      | [] => exact asg_bad
      | ⟨_, _, _, _⟩ :: _ :: _ => exact asg_bad
      | [⟨tg, iter, ifs, kk⟩] =>
        delta iEb
        dsimp only
        split
        · rename_i h
          simp only [Bool.and_eq_true] at h
          obtain ⟨⟨h1, h2⟩, h3⟩ := h
          have e := eq_of_beq h1
          subst e
          split
          · rename_i ws g eg
            split
            · rename_i hw
              refine ds_setComp (N' := compNames scope) O.calm (compOk_of O h2) (capOk_of O scope) (fun i hi j q => ?_) ((snd G n).i O tg iter) (fun p C c s h f => (O.comp h2 p C c s h f).target eg) (fun p C c s h f => (snd G n).f (O.comp h2 p C c s h f) ifs) (fun p C c s h f => (snd G n).e (O.comp h2 p C c s h f) elt) hg sw (set_ok (by simpa using h3))
              have z := List.all_eq_true.mp hw i hi
              rw [q] at z
              cases z
            · exact asg_bad
          · exact asg_bad
        · exact asg_bad
theorem not_swap {v tg : Expr} {line : Nat} {env : Env} (h : isCompE v = false) : swapsWithSole [tg] v line env = pure false := by
  show swapsWith v (some tg) line env = pure false
  cases v <;> first | rfl | cases h
theorem not_swapN {v : Expr} {line : Nat} {env : Env} (h : isCompE v = false) : swapsWith v none line env = pure false := by
  cases v <;> first | rfl | cases h
theorem not_swapped {v tg : Expr} {env : Env} (h : (isTupE tg && isTupE v) = false) (hl : ∀ es p, tg ≠ .List es p) : swappedStores [tg] v env = pure none := by
  cases tg with
  | Tuple ts kk p =>
    cases v with
    | Tuple vs k2 p2 => cases h
    | _ => rfl
  | List es p => exact (hl es p rfl).elim
  | _ => first | rfl | (cases v <;> rfl)
theorem par_ok {x y : Str} {a b : Expr} {px py pt pt2 : Pos} {kt k2 : Nat} {env : Env} (hb : (env.blockKind == .function) = true) (hx : (env.kindOf x == some .local) = true) (hy : (env.kindOf y == some .local) = true) (hl : (py.line == px.line) = true) (hne : (x == y) = false) (sa : isStar a = false) (sb : isStar b = false)
    (hf : [a, b].all (foldedForSure 8) = false) (hc : [a, b].all (constantsAlone 8) = false) : swappedStores [.Tuple [.Name x px, .Name y py] kt pt] (.Tuple [a, b] k2 pt2) env = pure (some [x, y]) := by
  have he : ([x, y].eraseDups.length != [x, y].length) = false := by
    have : (y == x) = false := by
      cases q : (y == x) with
      | false => rfl
      | true => rw [eq_of_beq q] at hne; simp at hne
    simp [List.eraseDups_cons, this, hne]
  have hbk : (env.blockKind != .function) = false := by rw [bne, hb]; rfl
  have e1 : (Option.map (fun e : Expr => e.pos.line) [Expr.Name x px, Expr.Name y py].head?).getD 0 = px.line := rfl
  unfold swappedStores
  dsimp only
  refine (if_neg ?_).trans ?_
  · simp [hbk]
  refine (if_neg ?_).trans ?_
  · simp only [List.any_cons, List.any_nil, Bool.or_false]
    rw [Bool.not_eq_true, Bool.or_eq_false_iff]
    constructor
    · cases a <;> first | rfl | cases sa
    · cases b <;> first | rfl | cases sb
  simp only [e1, List.filterMap_cons, List.filterMap_nil, hx, hy, hl, beq_self_eq_true, Bool.and_self, if_true]
  refine (if_neg ?_).trans ?_
  · rw [he]; simp
  rw [if_neg (by rw [hf]; simp), if_neg (by rw [hc]; simp)]
theorem ds_par {X : Cx} {i j : Nat} {x y : Str} {a b : Expr} {mr : DM (List D)} {px py pt pt2 pos : Pos} {kt k2 : Nat} (hc : X.calm = true) (hN : X.N.Nodup) (hi : X.N[i]? = some x) (hj : X.N[j]? = some y) (hij : i ≠ j) (hx : X.env.scope.names.lookup x = some .local) (hy : X.env.scope.names.lookup y = some .local) (ha : DA X [a, b] mr)
    (hw : swappedStores [.Tuple [.Name x px, .Name y py] kt pt] (.Tuple [a, b] k2 pt2) X.env = pure (some [x, y])) : DS X (.Assign [.Tuple [.Name x px, .Name y py] kt pt] (.Tuple [a, b] k2 pt2) pos) (parS mr i j) := by
  rintro pins s σ H N I ⟨loc, mh, ρ, f, loc', mh', e, rl, rs, co⟩
  refine ps_par hc hN hi hj hij hx hy (ha loc mh) hw rfl pins s σ H N I ?_
  unfold parS at e
  split at e
  · rename_i d1 d2 h1 er
    cases e
    refine ⟨ρ, [d1, d2], mh', er, rl, rs, fun H' ρ' vs e' rs' r' => ?_⟩
    cases r' with
    | cons r1 r' =>
      cases r' with
      | cons r2 r' =>
        cases r'
        exact ⟨_, _, rfl, co H' ρ' _ e' rs' (((rl.mono e').set r1).set r2)⟩
  · cases e
theorem sndSb (G : Gb) (n : Nat) (ihss : ∀ {X : Cx} {k : Nat} {sc : SC}, XOk X k G sc → ∀ ss, DSs X ss (iSs G n sc ss)) {X : Cx} {k : Nat} {sc : SC} (O : XOk X k G sc) (s : Stmt) : DS X s (iSb n (iSs G n) G sc s) := by
  have S := snd G n
  cases s with
  | Expr e p =>
    delta iSb
    dsimp only
    split
    · exact ds_bad
    · rename_i h
      exact ds_expr (S.e O _) (not_swapN (by simpa using h))
  | Pass _ => exact ds_pass
  | Break _ => exact ds_break
  | Continue _ => exact ds_continue
  | Return e _ =>
    cases e with
    | some e => exact ds_ret (S.e O _)
    | none => exact ds_retN
  | Assign ts v p =>
    cases ts with
    | nil => exact ds_bad
    | cons tg r =>
      cases r with
      | cons _ _ => exact ds_bad
      | nil =>
        have gen : DS X (.Assign [tg] v p) (if isCompE v || (isTupE tg && isTupE v) then SM.bad else (match iGt G n sc tg with | some g => asgS (iE G n sc v) g | none => SM.bad)) := by
          split
          · exact ds_bad
          · rename_i h
            have h : isCompE v = false ∧ (isTupE tg && isTupE v) = false := by
              rw [Bool.not_eq_true, Bool.or_eq_false_iff] at h
              exact h
            split
            · rename_i g eg
              have gen : (match iG sc tg with | some (_, g) => some g | none => none) = some g → DS X (.Assign [tg] v p) (asgS (iE G n sc v) g) := fun eg => by
                split at eg
                · rename_i ws g' eg'
                  cases eg
                  refine ds_asg (S.e O _) (O.target eg') (not_swap h.1) (not_swapped h.2 (fun es p z => by subst z; simp [iG] at eg')) ?_
                  cases tg <;> first | rfl | (simp [iG] at eg')
                · cases eg
              cases tg with
              | Subscript o i p' =>
                simp only [iGt] at eg
                split at eg
                · cases eg
                · rename_i hs
                  cases eg
                  have hs : isSlice i = false := by simpa using hs
                  refine ds_asg (S.e O _) (dg_sub (S.e O _) (S.e O _) ?_) (not_swap h.1) (not_swapped h.2 (fun _ _ z => by cases z)) rfl
                  intro v'
                  cases i <;> first | rfl | cases hs
              | _ => exact gen eg
            · exact ds_bad
        cases tg with
        | Name y py =>
          cases v with
          | ListComp elt gens scope vp =>
            delta iSb
            dsimp only
            delta asgB
            dsimp only
            split
            · rename_i ws g eg
              exact ds_compAsg O n eg
            · exact ds_bad
          | _ => exact gen
        | Tuple tl kt pt =>
          cases tl with
          | nil => exact gen
          | cons t1 tl =>
            cases t1 with
            | Name x px =>
              cases tl with
              | nil => exact gen
              | cons t2 tl =>
                cases t2 with
                | Name y py =>
                  cases tl with
                  | cons _ _ => exact gen
                  | nil =>
                    cases v with
                    | Tuple vl k2 pt2 =>
                      cases vl with
                      | nil => exact gen
                      | cons a vl =>
                        cases vl with
                        | nil => exact gen
                        | cons b vl =>
                          cases vl with
                          | cons _ _ => exact gen
                          | nil =>
                            delta iSb
                            dsimp only
                            delta asgB
                            dsimp only
                            split
                            · rename_i h
                              unfold parB at h
                              simp only [Bool.and_eq_true, Bool.not_eq_true'] at h
                              obtain ⟨⟨⟨⟨⟨⟨⟨⟨h1, h2⟩, h3⟩, h4⟩, h5⟩, h6⟩, h7⟩, h8⟩, h9⟩ := h
                              split
                              · rename_i i j ei ej
                                have hi := slot_some ei
                                have hj := slot_some ej
                                refine ds_par O.calm (by rw [O.N]; exact O.nd) (by rw [O.N]; exact hi) (by rw [O.N]; exact hj) (fun z => ?_) (by rw [O.sco]; exact eq_of_beq h2) (by rw [O.sco]; exact eq_of_beq h3) (S.a O _) (par_ok ?_ ?_ ?_ h4 h5 h6 h7 h8 h9)
                                · subst z
                                  rw [hi] at hj
                                  cases hj
                                  simp at h5
                                · unfold Env.blockKind; rw [O.sco]; exact h1
                                · unfold Env.kindOf; rw [O.sco]; exact h2
                                · unfold Env.kindOf; rw [O.sco]; exact h3
                              · exact ds_bad
                            · exact ds_bad
                    | _ => exact gen
                | _ => exact gen
            | _ => exact gen
        | _ => exact gen
  | If c a b _ => exact ds_if (S.t O _) (ihss O _) (ihss O _)
  | For tg it body els _ =>
    cases els with
    | cons _ _ => exact ds_bad
    | nil =>
      delta iSb
      dsimp only
      split
      · exact ds_bad
      · rename_i h
        split
        · rename_i ws g eg
          refine ds_for ?_ O.calm (S.i O _ _) (O.target eg) (ihss O _) (set_ok (by simpa using h))
          rw [O.xe]; exact PassesOwn.never
        · exact ds_bad
  | _ => exact ds_bad
theorem sndS (G : Gb) (n : Nat) : (∀ {X : Cx} {k : Nat} {sc : SC}, XOk X k G sc → ∀ s, DS X s (iS G n sc s)) ∧ (∀ {X : Cx} {k : Nat} {sc : SC}, XOk X k G sc → ∀ ss, DSs X ss (iSs G n sc ss)) := by
  induction n with
  | zero => exact ⟨fun _ _ => ds_bad, fun _ _ _ _ _ _ _ _ h => by obtain ⟨_, _, _, _, _, _, e, _⟩ := h; cases e⟩
  | succ n ih =>
    refine ⟨fun {X k sc} O s => sndSb G n (fun O ss => ih.2 O ss) O s, fun {X k sc} O ss => ?_⟩
    cases ss with
    | nil => exact dss_nil
    | cons s r => exact dss_cons (ih.1 O s) (ih.2 O r)
theorem start_rl {K : PySem.W.Frag} {H : Hp} {ρ : List Addr} {N : List Str} {ds : List D} {vs : List V} (r : RDs K H ρ ds vs) : RL K H ρ (ds.map some ++ List.replicate (N.length - ds.length) none) (L2.start N vs) := by
  have hl := r.length
  unfold L2.start
  refine ⟨by simp [hl], fun i d e => ?_⟩
  by_cases hi : i < ds.length
  · rw [List.getElem?_append_left (by simpa using hi), List.getElem?_map] at e
    cases q : ds[i]? with
    | none => rw [q] at e; cases e
    | some d' =>
      rw [q] at e
      cases e
      obtain ⟨v, e1, r1⟩ := r.get q
      exact ⟨v, by rw [List.getElem?_append_left (by simp; omega), List.getElem?_map, e1]; rfl, r1⟩
  · rw [List.getElem?_append_right (by simpa using hi), List.getElem?_replicate] at e
    split at e <;> cases e
theorem fn_ok {P : Program} {w : World} {K : PySem.W.Frag} {mg : Str → Option Value} {base : Heap} {k : Nat} {G : Gb} {x qual : Str} {st : Stmt} {f : Addr} {fd : FuncData} {I : FnI} (g : GOk P w K mg base k G) (F : Fun K x qual st f fd) (S : FnScope I.N I.ps (defScope st))
    (hs : I.scope = defScope st) (hb : I.body = defBody st) (n : Nat) : FnOk P w K mg base CX0 (k + 3) f fd I.ps (spD K I.ps.length (runF G n I)) := by
  refine F.ok S (fun vs H Q E h => h.1) fun cdv A outer s H vs Q E hr h => ?_
  obtain ⟨hl, ρ, mh, ds, d, mh', q, rs, r, co⟩ := h
  refine ⟨_, (sndS G n).2 (sc := { N := I.N, scope := I.scope, own := fun _ => true }) ⟨rfl, S.nd, hs.symm, fun _ _ _ => .inl rfl, rfl, rfl, hr, g⟩ (defBody st), ?_⟩
  unfold runF at q
  split at q
  · split at q
    · rename_i d' loc' m' e
      cases q
      exact ⟨_, mh, ρ, .rt d, loc', mh', by rw [← hb]; exact e, start_rl r, rs, co⟩
    · rename_i loc' m' e
      cases q
      exact ⟨_, mh, ρ, .nx, loc', mh', by rw [← hb]; exact e, start_rl r, rs, fun H' ρ' σ' e' rs' _ => co H' ρ' _ e' rs' .non⟩
    · cases q
  · cases q
theorem runF_len {G : Gb} {n : Nat} {I : FnI} {ds : List D} {mh : MH} {r : D × MH} (h : runF G n I ds mh = some r) : ds.length = I.ps.length := by
  unfold runF at h
  split at h
  · assumption
  · cases h
noncomputable def FnRow (K : PySem.W.Frag) (mg : Str → Option Value) (x : Str) (I : FnI) : Prop := ∃ (qual : Str) (st : Stmt) (f : Addr) (fd : FuncData), mg x = some (.ref f) ∧ Fun K x qual st f fd ∧ FnScope I.N I.ps (defScope st) ∧ I.scope = defScope st ∧ I.body = defBody st ∧ ∀ us : List Value, us.length = I.ps.length → bindArgs fd ⟨us, []⟩ = pure (I.ps.zip us)
noncomputable def ConRow (K : PySem.W.Frag) (mg : Str → Option Value) (x : Str) (d : D) : Prop := ∃ u v, mg x = some u ∧ RelV v u ∧ ∀ H ρ, RD K H ρ d v
theorem tb_step {α : Type} {x n : Str} {a I : α} {r : Option α} {P : Str → α → Prop} (hx : (if x == n then some a else r) = some I) (h1 : P n a) (h2 : r = some I → P x I) : P x I := by
  by_cases h : (x == n) = true
  · rw [if_pos h] at hx; cases hx; rw [eq_of_beq h]; exact h1
  · rw [if_neg h] at hx; exact h2 hx
structure TbOk (w : World) (K : PySem.W.Frag) (mg : Str → Option Value) (T : Tb) : Prop where
  fn : ∀ x I, T.tb x = some I → ∃ (qual : Str) (st : Stmt) (f : Addr) (fd : FuncData), mg x = some (.ref f) ∧ Fun K x qual st f fd ∧ FnScope I.N I.ps (defScope st) ∧ I.scope = defScope st ∧ I.body = defBody st ∧ ∀ us : List Value, us.length = I.ps.length → bindArgs fd ⟨us, []⟩ = pure (I.ps.zip us)
  con : ∀ x d, T.con x = some d → ∃ u v, mg x = some u ∧ RelV v u ∧ ∀ H ρ, RD K H ρ d v
  blt : ∀ b ∈ bltNames, mg b = none
  dic : ∀ x kvs, T.dic x = some kvs → ∃ a, mg x = some (.ref a) ∧ DicOk w K a kvs
  fld : ∀ c f, T.fld c f = true → ∃ C, PySem.W.nsIn K mainGlobals c = some (some (.ref C)) ∧ Cls K C ∧ NoAttr K C f
  met : ∀ c m I, T.tbm c m = some I → ∃ (qual : Str) (st : Stmt) (C f : Addr) (fd : FuncData), PySem.W.nsIn K mainGlobals c = some (some (.ref C)) ∧ Cls K C ∧ Meth K C m f ∧ Fun K m qual st f fd ∧ FnScope I.N I.ps (defScope st) ∧ I.scope = defScope st ∧ I.body = defBody st ∧ ∀ us : List Value, us.length = I.ps.length → bindArgs fd ⟨us, []⟩ = pure (I.ps.zip us)
  mkr : ∀ c f, T.mkr c = some f → ∃ C fa fd ps, PySem.W.nsIn K mainGlobals c = some (some (.ref C)) ∧ Mk K C fa ∧ mg c = some (.ref C) ∧ Binds K fd ps [] ∧ ∀ (P : Program) (w : World) (base : Heap), FnOk P w K mg base CX0 1 fa fd ps (spI C f)
theorem gok {P : Program} {w : World} {K : PySem.W.Frag} {mg : Str → Option Value} {base : Heap} {T : Tb} (O : TbOk w K mg T) (k : Nat) : GOk P w K mg base k (GkN T k) := by
  induction k with
  | zero => exact ⟨fun x ps f h => (by cases h), O.con, O.blt, O.dic, O.fld, fun c m ps g h => (by cases h), fun c f h => by
      obtain ⟨C, fa, fd, ps, h1, h2, h3, h4, h5⟩ := O.mkr c f h
      exact ⟨C, fa, fd, ps, h1, h2, h3, h4, h5 _ _ _⟩⟩
  | succ k ih =>
    refine ⟨fun x ps f h => ?_, O.con, O.blt, O.dic, O.fld, fun c m ps g h => ?_, fun c f h => by
      obtain ⟨C, fa, fd, ps, h1, h2, h3, h4, h5⟩ := O.mkr c f h
      exact ⟨C, fa, fd, ps, h1, h2, h3, h4, h5 _ _ _⟩⟩
    · simp only [GkN] at h
      split at h
      · rename_i I eI
        cases h
        obtain ⟨qual, st, fa, fd, h1, h2, h3, h4, h5, h6⟩ := O.fn x I eI
        exact ⟨fa, fd, h1, h2.kp, .all h6, fn_ok ih h2 h3 h4 h5 fuel, fun ds mh r hr => runF_len hr⟩
      · cases h
    · simp only [GkN] at h
      split at h
      · rename_i I eI
        cases h
        obtain ⟨qual, st, C, fa, fd, g1, g2, g3, h2, h3, h4, h5, h6⟩ := O.met c m I eI
        exact ⟨C, fa, fd, g1, g2, g3, .all h6, fn_ok ih h2 h3 h4 h5 fuel, fun ds mh r hr => runF_len hr⟩
      · cases h
noncomputable def mkFn (st : Stmt) : FnI :=
  { ps := (defArgs st).args.map (·.arg),
    N := (defArgs st).args.map (·.arg) ++ (((defScope st).names.filter fun p => (match p.2 with | .local => true | .cell => true | _ => false)).map (·.1)).filter (fun x => !((defArgs st).args.map (·.arg)).contains x),
    scope := defScope st, body := defBody st }
theorem walk {l : PySem.W.OpenLaw} {q : Program} {loose : List Str} {XP : (Str → Option Value) → Heap → Prop} {YP : World → Heap → Prop} {d : DefRec} {K : Params → PySem.W.Frag} {Tt : Tb} {I : FnI} {x : Str} (k : Nat)
    (hn : l.most = some 63) (hdf : d.params.defaults = []) (hY : ∀ (w : World) (h : Heap), YP w h → (K w.params).In h) (hr : Room (k + 3) callerA)
    (hI : Tt.tb d.name = some I) (hps : I.ps = [x])
    (T : ∀ (w : World) (mg : Str → Option Value) (h : Heap), (K w.params).In h → h.Ns mainGlobals mg → TbOk w (K w.params) mg Tt)
    (main : ∀ ns : List Int, ns.length ≤ 63 → ∃ mh', runF (GkN Tt k) fuel I [.rol (ns.map D.int)] [] = some (.bl true, mh')) :
    PySem.W.WalkO q loose XP YP l.row.toRowW d [] (fun f vs => PySem.call f vs) := by
  refine L2.walk_of (n := 63) (k := k + 3) (x := x) (CX := fun _ => CX0) (sp := fun w => spD (K w.params) 1 (runF (GkN Tt k) fuel I)) hn (by decide) hdf hr hY (fun w mg fa h hK hN hm => ?_) (fun w H a ns hl hO hS => ?_) fun _ _ _ _ _ z => z
  · obtain ⟨qual, st, f, fd, h1, h2, h3, h4, h5, h6⟩ := (T w mg h hK hN).fn _ _ hI
    rw [hm] at h1
    cases h1
    refine ⟨fd, fun s u => .of_eq ?_, fun base hKb hNb => ?_⟩
    · have := h6 [u] (by rw [hps]; rfl)
      rw [hps] at this
      exact this
    · have := fn_ok (P := l.prog) (w := w) (base := base) (gok (T w mg h hK hN) k) h2 h3 h4 h5 fuel
      rw [hps] at this
      exact this
  · obtain ⟨mh', e⟩ := main ns hl
    have P : PermL (K w.params) H a (ns.map V.int) := by
      rcases hS with (h | h) | h
      · rcases hO a with z | ⟨o, xs, z⟩
        · rw [z] at h; cases h
        · rw [z] at h; cases h
      · exact .inl h
      · exact .inr h
    refine ⟨rfl, [], [], [.rol (ns.map D.int)], .bl true, mh', e, ⟨rfl, List.nodup_nil, fun n a o e => by simp at e⟩, .cons (.rol P (RDs.ints ns)) .nil, fun H' ρ' v _ _ r => by cases r; rfl⟩
end DL
namespace DL
open PySem L2
noncomputable def vr (i : Nat) : DM D := fun loc mh => match loc[i]? with | some (some d) => some (d, mh) | _ => none
noncomputable abbrev subD := iop (fun _ _ => true) fun i j => i - j
noncomputable abbrev mulD := mulD2 (iop cmulB fun i j => i * j)
noncomputable abbrev fdivD := iop (fun _ j => decide (j ≠ 0) && decide (j.natAbs < 10889035741470030830827987437816582766592)) fun i j => i.fdiv j
noncomputable abbrev modD := iop (fun _ j => decide (j ≠ 0)) fun i j => i.fmod j
noncomputable abbrev powD := iop (fun i j => decide (0 ≤ j) && (decide (j ≤ 1000000) && decide (i.natAbs < 2 ^ 64))) fun i j => i ^ j.toNat
noncomputable abbrev ltD := icmp fun i j => decide (i < j)
noncomputable abbrev gtD := icmp fun i j => decide (j < i)
noncomputable def negM (m : DM D) : DM D := m.bnd fun x => DM.lift (negD x)
noncomputable def notV (m : DM D) : DM D := (boolD m).bnd fun c => DM.ret (.bl (!c))
noncomputable def tupM (mr : DM (List D)) : DM D := mr.bnd fun ds => DM.lift (mkTup ds)
noncomputable def lstM (mr : DM (List D)) : DM D := mr.bnd fun ds => DM.lift (mkLst ds)
noncomputable def calM (f : Fn) (mr : DM (List D)) : DM D := mr.bnd fun ds => DM.lift (f ds)
noncomputable def isiM (T : String) (m : DM D) : DM D := m.bnd fun x => DM.lift (isiD T x)
noncomputable def lenSetM (m : DM D) : DM D := m.bnd fun x => DM.lift (lenSetD x)
noncomputable def sortSetM (m : DM D) : DM D := m.bnd fun x => DM.lift (sortSetD x)
noncomputable def listRngM (m : DM D) : DM D := m.bnd fun x => DM.lift (listRngD x)
noncomputable def tupRngM (m : DM D) : DM D := m.bnd fun x => DM.lift (tupRngD x)
theorem ln0 {f : List Value → Prop} (h : f []) (us : List Value) (e : us.length = 0) : f us := by
  cases us with
  | nil => exact h
  | cons _ _ => cases e
theorem ln1 {f : List Value → Prop} (h : ∀ a, f [a]) (us : List Value) (e : us.length = 1) : f us := by
  cases us with
  | nil => cases e
  | cons a r => exact ln0 (f := fun r => f (a :: r)) (h a) r (Nat.succ.inj e)
theorem ln2 {f : List Value → Prop} (h : ∀ a b, f [a, b]) (us : List Value) (e : us.length = 2) : f us := by
  cases us with
  | nil => cases e
  | cons a r => exact ln1 (f := fun r => f (a :: r)) (h a) r (Nat.succ.inj e)
theorem ln3 {f : List Value → Prop} (h : ∀ a b c, f [a, b, c]) (us : List Value) (e : us.length = 3) : f us := by
  cases us with
  | nil => cases e
  | cons a r => exact ln2 (f := fun r => f (a :: r)) (h a) r (Nat.succ.inj e)
theorem ln4 {f : List Value → Prop} (h : ∀ a b c d, f [a, b, c, d]) (us : List Value) (e : us.length = 4) : f us := by
  cases us with
  | nil => cases e
  | cons a r => exact ln3 (f := fun r => f (a :: r)) (h a) r (Nat.succ.inj e)
theorem ln5 {f : List Value → Prop} (h : ∀ a b c d e, f [a, b, c, d, e]) (us : List Value) (e : us.length = 5) : f us := by
  cases us with
  | nil => cases e
  | cons a r => exact ln4 (f := fun r => f (a :: r)) (h a) r (Nat.succ.inj e)
theorem walkX_of {q : Program} {loose : List Str} {XP : (Str → Option Value) → Heap → Prop} {K : Params → PySem.W.Frag} {as : List Addr} {n t : Nat} {r : PySem.W.RowW} {d : DefRec} {kwd : List (Str × Expr)} {run : Value → List Value → Sem Value}
    (e : ∀ P, as = (K P).map (·.1)) (h : PySem.W.WalkO q loose XP (fun w h => (K w.params).In h) r d kwd run) : PySem.W.WalkX q loose XP (PySem.W.X.obsZ as) (PySem.W.X.valZ K n t) r d kwd run :=
  fun w s₀ s₁ mg mb G y a o pm cd doc dV kV h1 h2 h3 h4 h5 h6 args vals as' L hpre hlay hrd hwl hlo =>
    h w s₀ s₁ mg mb G (PySem.W.InK.keeps w s₀.heap s₁.heap (PySem.W.X.z_facts e y).2.1 L.keeps) a o pm cd doc dV kV h1 h2 h3 h4 h5 h6 args vals as' hpre hlay hrd hwl hlo
section
variable {loc : DL.Loc} {mh : MH} {ma mb : DM D} {mr : DM (List D)} {t u : DM Bool} {m1 m2 : SM}
theorem vr_ap (i : Nat) : vr i loc mh = (match loc[i]? with | some (some d) => some (d, mh) | _ => none) := by kernel_rfl
theorem truM_ap : truM ma loc mh = (match ma loc mh with | none => none | some (x, h) => (match truD x h with | some k => some (k, h) | none => none)) := by kernel_rfl
theorem methM_ap (T : String) (f : D → List D → MH → Option (D × MH)) : methM T f ma mr loc mh = (match ma loc mh with | none => none | some (x, h) => if tyOk T x h = true then (match mr loc h with | none => none | some (ds, h2) => f x ds h2) else none) := by kernel_rfl
theorem asgS_ap (g : GM) : asgS ma g loc mh = (match ma loc mh with | some (d, h) => (match g d loc h with | some (l, h') => some (.nx, l, h') | none => none) | none => none) := by kernel_rfl
theorem ifS_ap : ifS t m1 m2 loc mh = (match t loc mh with | some (k, h) => if k = true then m1 loc h else m2 loc h | none => none) := by kernel_rfl
theorem retS_ap : retS ma loc mh = (match ma loc mh with | some (d, h) => some (.rt d, loc, h) | none => none) := by kernel_rfl
theorem dropS_ap : dropS ma loc mh = (match ma loc mh with | some (_, h) => some (.nx, loc, h) | none => none) := by kernel_rfl
theorem seqS_ap : seqS m1 m2 loc mh = (match m1 loc mh with | some (.nx, l, h) => m2 l h | r => r) := by kernel_rfl
theorem srcM_ap : srcM ma loc mh = (match ma loc mh with | none => none | some (x, h) => (match srcOf x h with | some s => some (s, h) | none => none)) := by kernel_rfl
theorem rngM_ap (f : List D → Option Src) : rngM f mr loc mh = (match mr loc mh with | none => none | some (ds, h) => (match f ds with | some s => some (s, h) | none => none)) := by
  unfold rngM DM.bnd
  cases mr loc mh with
  | none => rfl
  | some p =>
    obtain ⟨ds, h⟩ := p
    dsimp only
    cases f ds <;> rfl
theorem partS_ap : partD (some ma) loc mh = (match ma loc mh with | some (.int i, h) => some (some i, h) | _ => none) := by
  show (ma.bnd _) loc mh = _
  unfold DM.bnd
  cases ma loc mh with
  | none => rfl
  | some p =>
    obtain ⟨x, h⟩ := p
    cases x <;> rfl
theorem enumM_ap : enumM ma loc mh = (match ma loc mh with | none => none | some (x, h) => (match srcOf x h with | some s => some (.enum s, h) | none => none)) := by kernel_rfl
end
theorem iop_ap (C : Int → Int → Bool) (g : Int → Int → Int) (i j : Int) (mh : MH) : iop C g (.int i) (.int j) mh = if C i j = true then some (.int (g i j), mh) else none := by kernel_rfl
theorem rng1_int {j : Int} (h0 : 0 ≤ j) (h : j ≤ 1000000) : rng1 [.int j] = some (.seq (rangeL 0 j.toNat)) := by
  have e2 : -(2 ^ 62) ≤ j ∧ j < 2 ^ 62 := by omega
  unfold rng1
  dsimp only
  rw [if_pos e2]
theorem rng1_nat {B : Nat} (h : B ≤ 1000000) : rng1 [.int B] = some (.seq (rangeL 0 B)) := by rw [rng1_int (by omega) (by omega), Int.toNat_natCast]
theorem rangeL_len (lo : Int) (n : Nat) : (rangeL lo n).length = n := by unfold rangeL; rw [List.length_map, List.length_range]
theorem le_size {n : Nat} (h : n ≤ 1000000) : n ≤ sizeLine := by rw [sizeLine_eq]; omega
theorem lt_size {n : Nat} (h : n ≤ 1000000) : n < sizeLine := by rw [sizeLine_eq]; omega
theorem mkTup_ok {ds : List D} {mh : MH} (h : ds.length ≤ 1000000) : mkTup ds mh = some (.tup ds, mh) := by unfold mkTup; rw [if_pos (le_size h)]
theorem mkLst_ok {ds : List D} {mh : MH} (h : ds.length ≤ 1000000) : mkLst ds mh = some (.ref mh.length, mh ++ [.lst ds]) := by unfold mkLst; rw [if_pos (le_size h)]
theorem appendD_ok {n : Nat} {ds : List D} {y : D} {mh : MH} (e : mh[n]? = some (.lst ds)) (h : ds.length ≤ 1000000) : appendD (.ref n) [y] mh = some (.non, mh.set n (.lst (ds ++ [y]))) := by
  simp only [appendD, e, if_pos (lt_size h)]
theorem addD_lst {n m : Nat} {xs ys : List D} {mh : MH} (e1 : mh[n]? = some (.lst xs)) (e2 : mh[m]? = some (.lst ys)) (h : xs.length + ys.length ≤ 1000000) : addD (.ref n) (.ref m) mh = some (.ref mh.length, mh ++ [.lst (xs ++ ys)]) := by
  simp only [addD, e1, e2, if_pos (le_size h)]
theorem compD_pure {ds : List D} {g : GM} {tc : DM Bool} {me : DM D} {loc : DL.Loc} {mh : MH} {p : D → Bool} {f : D → D} (step : ∀ d ∈ ds, ∃ l1, g d loc mh = some (l1, mh) ∧ tc l1 mh = some (p d, mh) ∧ (p d = true → me l1 mh = some (f d, mh))) :
    ∀ (k i : Nat) (acc : List D), i + k = ds.length → acc.length + k ≤ sizeLine → compD (.seq ds) g tc me loc k i acc mh = some (acc ++ ((ds.drop i).filter p).map f, mh)
  | 0, i, acc, e, _ => by
    have e : i = ds.length := by omega
    subst e
    have : Src.stop (.seq ds) mh ds.length = true := by simp [Src.stop, Src.ok, Src.items]
    simp only [compD, this, if_true]
    simp
  | k + 1, i, acc, e, hz => by
    have hi : i < ds.length := by omega
    obtain ⟨l1, e1, e2, e3⟩ := step ds[i] (List.getElem_mem hi)
    have eg : Src.get (.seq ds) mh i = some ds[i] := List.getElem?_eq_getElem hi
    have ed : ds.drop i = ds[i] :: ds.drop (i + 1) := List.drop_eq_getElem_cons hi
    simp only [compD, eg, e1, e2]
    cases hp : p ds[i] with
    | false =>
      simp only [Bool.false_eq_true, if_false]
      rw [compD_pure step k (i + 1) acc (by omega) (by omega), ed, List.filter_cons_of_neg (by simp [hp])]
    | true =>
      simp only [if_true, e3 hp]
      rw [if_pos (by omega), compD_pure step k (i + 1) (acc ++ [f ds[i]]) (by omega) (by rw [List.length_append, List.length_singleton]; omega), ed, List.filter_cons_of_pos hp, List.map_cons, List.append_assoc]
      rfl
theorem compM_pure {mi : DM Src} {cs : List (Option Nat)} {ds : List D} {g : GM} {tc : DM Bool} {me : DM D} {loc : DL.Loc} {mh mh0 : MH} {p : D → Bool} {f : D → D} (hm : mi loc mh = some (.seq ds, mh0)) (hz : ds.length ≤ sizeLine)
    (step : ∀ d ∈ ds, ∃ l1, g d (capD cs loc) mh0 = some (l1, mh0) ∧ tc l1 mh0 = some (p d, mh0) ∧ (p d = true → me l1 mh0 = some (f d, mh0))) : compM mi cs g tc me loc mh = some (.ref mh0.length, mh0 ++ [.lst ((ds.filter p).map f)]) := by
  unfold compM
  rw [hm]
  have := compD_pure step ds.length 0 [] (by omega) (by simpa using hz)
  have e : compD (.seq ds) g tc me (capD cs loc) (Src.items (.seq ds) mh0).length 0 [] mh0 = some (((ds.filter p).map f), mh0) := by
    show compD (.seq ds) g tc me (capD cs loc) ds.length 0 [] mh0 = _
    simpa using this
  simp only [e]
end DL
namespace DL
open PySem L2 PyProof.Rows
noncomputable abbrev natD (n : Nat) : D := .int (n : Int)
theorem compD_ref {n : Nat} {ds : List D} {g : GM} {tc : DM Bool} {me : DM D} {loc : DL.Loc} {mh : MH} {p : D → Bool} {f : D → D} (hn : mh[n]? = some (.lst ds)) (step : ∀ d ∈ ds, ∃ l1, g d loc mh = some (l1, mh) ∧ tc l1 mh = some (p d, mh) ∧ (p d = true → me l1 mh = some (f d, mh))) :
    ∀ (k i : Nat) (acc : List D), i + k = ds.length → acc.length + k ≤ sizeLine → compD (.lref n) g tc me loc k i acc mh = some (acc ++ ((ds.drop i).filter p).map f, mh)
  | 0, i, acc, e, _ => by
    have e : i = ds.length := by omega
    subst e
    have : Src.stop (.lref n) mh ds.length = true := by simp [Src.stop, Src.ok, Src.items, hn, MO.items]
    simp only [compD, this, if_true]
    simp
  | k + 1, i, acc, e, hz => by
    have hi : i < ds.length := by omega
    obtain ⟨l1, e1, e2, e3⟩ := step ds[i] (List.getElem_mem hi)
    have eg : Src.get (.lref n) mh i = some ds[i] := by simp [Src.get, Src.items, hn, MO.items, hi]
    have ed : ds.drop i = ds[i] :: ds.drop (i + 1) := List.drop_eq_getElem_cons hi
    simp only [compD, eg, e1, e2]
    cases hp : p ds[i] with
    | false =>
      simp only [Bool.false_eq_true, if_false]
      rw [compD_ref hn step k (i + 1) acc (by omega) (by omega), ed, List.filter_cons_of_neg (by simp [hp])]
    | true =>
      simp only [if_true, e3 hp]
      rw [if_pos (by omega), compD_ref hn step k (i + 1) (acc ++ [f ds[i]]) (by omega) (by rw [List.length_append, List.length_singleton]; omega), ed, List.filter_cons_of_pos hp, List.map_cons, List.append_assoc]
      rfl
theorem compM_ref {mi : DM Src} {cs : List (Option Nat)} {n : Nat} {ds : List D} {g : GM} {tc : DM Bool} {me : DM D} {loc : DL.Loc} {mh mh0 : MH} {p : D → Bool} {f : D → D} (hm : mi loc mh = some (.lref n, mh0)) (hn : mh0[n]? = some (.lst ds)) (hz : ds.length ≤ sizeLine)
    (step : ∀ d ∈ ds, ∃ l1, g d (capD cs loc) mh0 = some (l1, mh0) ∧ tc l1 mh0 = some (p d, mh0) ∧ (p d = true → me l1 mh0 = some (f d, mh0))) : compM mi cs g tc me loc mh = some (.ref mh0.length, mh0 ++ [.lst ((ds.filter p).map f)]) := by
  unfold compM
  rw [hm]
  have e0 : (Src.items (.lref n) mh0).length = ds.length := by simp [Src.items, hn, MO.items]
  have := compD_ref hn step ds.length 0 [] (by omega) (by simpa using hz)
  have e : compD (.lref n) g tc me (capD cs loc) (Src.items (.lref n) mh0).length 0 [] mh0 = some (((ds.filter p).map f), mh0) := by
    rw [e0]
    simpa using this
  simp only [e]
end DL
namespace DL
open PySem L2
noncomputable def wD {α : Type} (m : DM α) (loc : DL.Loc) (mh : MH) (P : α → MH → Prop) : Prop := ∃ a h, m loc mh = some (a, h) ∧ P a h
noncomputable def wV (r : Option (D × MH)) (P : D → MH → Prop) : Prop := ∃ d h, r = some (d, h) ∧ P d h
noncomputable def wG (r : Option (DL.Loc × MH)) (P : DL.Loc → MH → Prop) : Prop := ∃ l h, r = some (l, h) ∧ P l h
noncomputable def wS (m : SM) (loc : DL.Loc) (mh : MH) (P : Fl → DL.Loc → MH → Prop) : Prop := ∃ f l h, m loc mh = some (f, l, h) ∧ P f l h
section
variable {loc : DL.Loc} {mh : MH} {ma mb mc : DM D} {mr : DM (List D)} {t u : DM Bool} {P : D → MH → Prop} {B : Bool → MH → Prop}
theorem wD_mono {α : Type} {m : DM α} {P Q : α → MH → Prop} (h : wD m loc mh P) (i : ∀ a h, P a h → Q a h) : wD m loc mh Q := let ⟨a, h', e, p⟩ := h; ⟨a, h', e, i a h' p⟩
theorem wV_mono {r : Option (D × MH)} {P Q : D → MH → Prop} (h : wV r P) (i : ∀ a h, P a h → Q a h) : wV r Q := let ⟨a, h', e, p⟩ := h; ⟨a, h', e, i a h' p⟩
theorem wD_vr {i : Nat} {d : D} (e : loc[i]? = some (some d)) (h : P d mh) : wD (vr i) loc mh P := ⟨d, mh, by rw [vr_ap, e], h⟩
theorem wD_ret {α : Type} {a : α} {P : α → MH → Prop} (h : P a mh) : wD (DM.ret a) loc mh P := ⟨a, mh, rfl, h⟩
theorem wD_lift {f : MH → Option (D × MH)} (h : wV (f mh) P) : wD (DM.lift f) loc mh P := h
theorem wD_bnd {α β : Type} {m : DM α} {f : α → DM β} {P : β → MH → Prop} (h : wD m loc mh fun a h1 => wD (f a) loc h1 P) : wD (m.bnd f) loc mh P := by
  obtain ⟨a, h1, e1, b, h2, e2, p⟩ := h
  exact ⟨b, h2, by unfold DM.bnd; rw [e1]; exact e2, p⟩
theorem wD_op {f : D → D → MH → Option (D × MH)} (h : wD ma loc mh fun x h1 => wD mb loc h1 fun y h2 => wV (f x y h2) P) : wD (dop f ma mb) loc mh P := wD_bnd (wD_mono h fun _ _ q => wD_bnd (wD_mono q fun _ _ z => z))
theorem wD_cons {P : List D → MH → Prop} (h : wD ma loc mh fun x h1 => wD mr loc h1 fun xs h2 => P (x :: xs) h2) : wD (dCons ma mr) loc mh P := wD_bnd (wD_mono h fun _ _ q => wD_bnd (wD_mono q fun _ _ z => wD_ret z))
theorem wD_cal {f : Fn} (h : wD mr loc mh fun ds h1 => wV (f ds h1) P) : wD (calM f mr) loc mh P := wD_bnd (wD_mono h fun _ _ q => q)
theorem wD_tup (h : wD mr loc mh fun ds h1 => ds.length ≤ 1000000 ∧ P (.tup ds) h1) : wD (tupM mr) loc mh P := wD_bnd (wD_mono h fun _ _ q => ⟨_, _, mkTup_ok q.1, q.2⟩)
theorem wD_lst (h : wD mr loc mh fun ds h1 => ds.length ≤ 1000000 ∧ P (.ref h1.length) (h1 ++ [.lst ds])) : wD (lstM mr) loc mh P := wD_bnd (wD_mono h fun _ _ q => ⟨_, _, mkLst_ok q.1, q.2⟩)
theorem wD_neg (h : wD ma loc mh fun x h1 => ∃ i, x = .int i ∧ P (.int (-i)) h1) : wD (negM ma) loc mh P := wD_bnd (wD_mono h fun _ _ ⟨i, e, q⟩ => by subst e; exact ⟨_, _, rfl, q⟩)
theorem wD_isi {T : String} (h : wD ma loc mh fun x h1 => wV (isiD T x h1) P) : wD (isiM T ma) loc mh P := wD_bnd (wD_mono h fun _ _ q => q)
theorem wD_listRng (h : wD ma loc mh fun x h1 => wV (listRngD x h1) P) : wD (listRngM ma) loc mh P := wD_bnd (wD_mono h fun _ _ q => q)
theorem wD_tupRng (h : wD ma loc mh fun x h1 => wV (tupRngD x h1) P) : wD (tupRngM ma) loc mh P := wD_bnd (wD_mono h fun _ _ q => q)
theorem wD_lenSet (h : wD ma loc mh fun x h1 => wV (lenSetD x h1) P) : wD (lenSetM ma) loc mh P := wD_bnd (wD_mono h fun _ _ q => q)
theorem wD_sortSet (h : wD ma loc mh fun x h1 => wV (sortSetD x h1) P) : wD (sortSetM ma) loc mh P := wD_bnd (wD_mono h fun _ _ q => q)
theorem wD_bool (h : wD ma loc mh fun x h1 => ∃ k, x = .bl k ∧ B k h1) : wD (boolD ma) loc mh B := wD_bnd (wD_mono h fun _ _ ⟨k, e, q⟩ => by subst e; exact wD_ret q)
theorem wD_tru (h : wD ma loc mh fun x h1 => ∃ k, truD x h1 = some k ∧ B k h1) : wD (truM ma) loc mh B := by
  obtain ⟨x, h1, e, k, ek, q⟩ := h
  exact ⟨k, h1, by rw [truM_ap, e]; dsimp only; rw [ek], q⟩
theorem wD_notV (h : wD ma loc mh fun x h1 => ∃ k, x = .bl k ∧ P (.bl (!k)) h1) : wD (notV ma) loc mh P := wD_bnd (wD_bool (wD_mono h fun _ _ ⟨k, e, q⟩ => ⟨k, e, wD_ret q⟩))
theorem wD_notT (h : wD t loc mh fun k h1 => B (!k) h1) : wD (dNotT t) loc mh B := wD_bnd (wD_mono h fun _ _ q => wD_ret q)
theorem wD_andT (h : wD t loc mh fun k h1 => (k = true → wD u loc h1 B) ∧ (k = false → B false h1)) : wD (dAndT t u) loc mh B := wD_bnd (wD_mono h fun k _ q => by
  cases k with
  | true => exact q.1 rfl
  | false => exact wD_ret (q.2 rfl))
theorem wD_orT (h : wD t loc mh fun k h1 => (k = true → B true h1) ∧ (k = false → wD u loc h1 B)) : wD (dOrT t u) loc mh B := wD_bnd (wD_mono h fun k _ q => by
  cases k with
  | true => exact wD_ret (q.1 rfl)
  | false => exact q.2 rfl)
theorem wD_andV (h : wD ma loc mh fun x h1 => ∃ k, x = .bl k ∧ (k = true → wD mb loc h1 P) ∧ (k = false → P (.bl false) h1)) : wD (dAndV ma mb) loc mh P := wD_bnd (wD_bool (wD_mono h fun _ _ ⟨k, e, q⟩ => ⟨k, e, by
  cases k with
  | true => exact q.1 rfl
  | false => exact wD_ret (q.2 rfl)⟩))
theorem wD_orV (h : wD ma loc mh fun x h1 => ∃ k, x = .bl k ∧ (k = true → P (.bl true) h1) ∧ (k = false → wD mb loc h1 P)) : wD (dOrV ma mb) loc mh P := wD_bnd (wD_bool (wD_mono h fun _ _ ⟨k, e, q⟩ => ⟨k, e, by
  cases k with
  | true => exact wD_ret (q.1 rfl)
  | false => exact q.2 rfl⟩))
theorem wD_if (h : wD t loc mh fun k h1 => (k = true → wD ma loc h1 P) ∧ (k = false → wD mb loc h1 P)) : wD (dIf t ma mb) loc mh P := wD_bnd (wD_mono h fun k _ q => by
  cases k with
  | true => exact q.1 rfl
  | false => exact q.2 rfl)
theorem wD_chain {f f' : D → D → MH → Option (D × MH)} (h : wD ma loc mh fun x h1 => wD mb loc h1 fun y h2 => wV (f x y h2) fun z h3 => ∃ k, z = .bl k ∧ (k = true → wD mc loc h3 fun w h4 => wV (f' y w h4) P) ∧ (k = false → P (.bl false) h3)) : wD (dchain f f' ma mb mc) loc mh P :=
  wD_bnd (wD_mono h fun _ _ q => wD_bnd (wD_mono q fun _ _ z => wD_bnd (wD_bool (wD_mono (wD_lift z) fun _ _ ⟨k, e, q⟩ => ⟨k, e, by
    cases k with
    | true => exact wD_bnd (wD_mono (q.1 rfl) fun _ _ w => w)
    | false => exact wD_ret (q.2 rfl)⟩))))
theorem wD_meth {T : String} {f : D → List D → MH → Option (D × MH)} (h : wD ma loc mh fun x h1 => tyOk T x h1 = true ∧ wD mr loc h1 fun ds h2 => wV (f x ds h2) P) : wD (methM T f ma mr) loc mh P := by
  obtain ⟨x, h1, e1, ht, ds, h2, e2, d, h3, e3, p⟩ := h
  exact ⟨d, h3, by rw [methM_ap, e1]; dsimp only; rw [if_pos ht, e2]; exact e3, p⟩
theorem wD_partN {O : Option Int → MH → Prop} (h : O none mh) : wD (partD none) loc mh O := ⟨none, mh, rfl, h⟩
theorem wD_partS {O : Option Int → MH → Prop} (h : wD ma loc mh fun x h1 => ∃ i, x = .int i ∧ O (some i) h1) : wD (partD (some ma)) loc mh O := by
  obtain ⟨x, h1, e, i, rfl, q⟩ := h
  exact ⟨some i, h1, by rw [partS_ap, e], q⟩
theorem wD_sl {ml mu : Option (DM D)} (h : wD ma loc mh fun x h1 => wD (partD ml) loc h1 fun l h2 => wD (partD mu) loc h2 fun r h3 => wV (slD x l r h3) P) : wD (dSl ma ml mu) loc mh P :=
  wD_bnd (wD_mono h fun _ _ q => wD_bnd (wD_mono q fun _ _ z => wD_bnd (wD_mono z fun _ _ w => w)))
theorem wD_src {R : Src → MH → Prop} (h : wD ma loc mh fun x h1 => ∃ s, srcOf x h1 = some s ∧ R s h1) : wD (srcM ma) loc mh R := by
  obtain ⟨x, h1, e, s, es, q⟩ := h
  exact ⟨s, h1, by rw [srcM_ap, e]; dsimp only; rw [es], q⟩
theorem wD_enum {R : Src → MH → Prop} (h : wD ma loc mh fun x h1 => ∃ s, srcOf x h1 = some s ∧ R (.enum s) h1) : wD (enumM ma) loc mh R := by
  obtain ⟨x, h1, e, s, es, q⟩ := h
  exact ⟨.enum s, h1, by rw [enumM_ap, e]; dsimp only; rw [es], q⟩
theorem wD_rng {R : Src → MH → Prop} {f : List D → Option Src} (h : wD mr loc mh fun ds h1 => ∃ s, f ds = some s ∧ R s h1) : wD (rngM f mr) loc mh R := by
  obtain ⟨x, h1, e, s, es, q⟩ := h
  exact ⟨s, h1, by rw [rngM_ap, e]; dsimp only; rw [es], q⟩
end
noncomputable def seqK (m2 : SM) (P : Fl → DL.Loc → MH → Prop) (f : Fl) (l : DL.Loc) (h : MH) : Prop := match f with
  | .nx => wS m2 l h P
  | f => P f l h
section
variable {loc l : DL.Loc} {mh h1 : MH} {me : DM D} {m1 m2 : SM} {g : GM} {t : DM Bool} {P : Fl → DL.Loc → MH → Prop}
theorem wS_mono {m : SM} {P Q : Fl → DL.Loc → MH → Prop} (h : wS m loc mh P) (i : ∀ f l h, P f l h → Q f l h) : wS m loc mh Q := let ⟨f, l, h', e, p⟩ := h; ⟨f, l, h', e, i f l h' p⟩
theorem wS_seq (h : wS m1 loc mh (seqK m2 P)) : wS (seqS m1 m2) loc mh P := by
  obtain ⟨f, l, h1, e, q⟩ := h
  cases f with
  | nx =>
    obtain ⟨f', l', h', e', p⟩ := q
    exact ⟨f', l', h', by rw [seqS_ap, e]; exact e', p⟩
  | _ => exact ⟨_, l, h1, by rw [seqS_ap, e], q⟩
theorem seqK_nx (h : wS m2 l h1 P) : seqK m2 P .nx l h1 := h
theorem seqK_rt {d : D} (h : P (.rt d) l h1) : seqK m2 P (.rt d) l h1 := h
theorem wS_nxt (h : P .nx loc mh) : wS SM.nxt loc mh P := ⟨_, _, _, rfl, h⟩
theorem wS_asg (h : wD me loc mh fun d h1 => wG (g d loc h1) fun l h2 => P .nx l h2) : wS (asgS me g) loc mh P := by
  obtain ⟨d, h1, e1, l, h2, e2, p⟩ := h
  exact ⟨.nx, l, h2, by rw [asgS_ap, e1]; dsimp only; rw [e2], p⟩
theorem wS_ret (h : wD me loc mh fun d h1 => P (.rt d) loc h1) : wS (retS me) loc mh P := by
  obtain ⟨d, h1, e1, p⟩ := h
  exact ⟨.rt d, loc, h1, by rw [retS_ap, e1], p⟩
theorem wS_drop (h : wD me loc mh fun _ h1 => P .nx loc h1) : wS (dropS me) loc mh P := by
  obtain ⟨d, h1, e1, p⟩ := h
  exact ⟨.nx, loc, h1, by rw [dropS_ap, e1], p⟩
theorem wS_if (h : wD t loc mh fun k h1 => (k = true → wS m1 loc h1 P) ∧ (k = false → wS m2 loc h1 P)) : wS (ifS t m1 m2) loc mh P := by
  obtain ⟨k, h1, e1, a, b⟩ := h
  cases k with
  | true =>
    obtain ⟨f, l, h', e, p⟩ := a rfl
    exact ⟨f, l, h', by rw [ifS_ap, e1]; exact e, p⟩
  | false =>
    obtain ⟨f, l, h', e, p⟩ := b rfl
    exact ⟨f, l, h', by rw [ifS_ap, e1]; exact e, p⟩
theorem wG_set {i : Nat} {d : D} {R : DL.Loc → MH → Prop} (h : R (loc.set i (some d)) mh) : wG (gSet i d loc mh) R := ⟨_, _, rfl, h⟩
theorem wG_tup {is : List Nat} {ds : List D} {R : DL.Loc → MH → Prop} (hl : ds.length = is.length) (h : R (setAll is ds loc) mh) : wG (gTupD is (.tup ds) loc mh) R := ⟨_, _, if_pos hl, h⟩
theorem wG_sub {mo mi : DM D} {v : D} {R : DL.Loc → MH → Prop} (h : wD mo loc mh fun o h1 => wD mi loc h1 fun i h2 => ∃ h3, setIx o i v h2 = some h3 ∧ R loc h3) : wG (gSubD mo mi v loc mh) R := by
  obtain ⟨o, h1, e1, i, h2, e2, h3, e3, p⟩ := h
  refine ⟨loc, h3, ?_, p⟩
  unfold gSubD
  rw [e1]; dsimp only; rw [e2]; dsimp only; rw [e3]
noncomputable def forK (J : DL.Loc → MH → Prop) (P : Fl → DL.Loc → MH → Prop) (f : Fl) (l : DL.Loc) (h : MH) : Prop := match f with
  | .nx => J l h
  | .ct => J l h
  | .bk => P .nx l h
  | .rt d => P (.rt d) l h
theorem forD_w {src : Src} {ds : List D} {body : SM} (J : Nat → DL.Loc → MH → Prop) (keep : ∀ i l h, J i l h → src.ok h = true ∧ src.items h = ds)
    (step : ∀ i d l h, ds[i]? = some d → J i l h → wG (g d l h) fun l1 h1 => wS body l1 h1 (forK (J (i + 1)) P)) (fin : ∀ l h, J ds.length l h → P .nx l h) :
    ∀ (k i : Nat) (l : DL.Loc) (h : MH), i + k = ds.length → J i l h → wS (forD src g body k i) l h P
  | 0, i, l, h, e, j => by
    have e : i = ds.length := by omega
    subst e
    have s : src.stop h ds.length = true := by
      unfold Src.stop
      rw [(keep _ _ _ j).1, (keep _ _ _ j).2, Bool.true_and]
      exact decide_eq_true (Nat.le_refl _)
    exact ⟨.nx, l, h, by simp only [forD, s, if_true], fin _ _ j⟩
  | k + 1, i, l, h, e, j => by
    have hi : i < ds.length := by omega
    have eg : src.get h i = some ds[i] := by
      unfold Src.get
      rw [(keep _ _ _ j).2, List.getElem?_eq_getElem hi]
    obtain ⟨l1, h1, e1, f, l2, h2, e2, q⟩ := step i ds[i] l h (List.getElem?_eq_getElem hi) j
    cases f with
    | nx =>
      obtain ⟨f', l', h', e', p⟩ := forD_w J keep step fin k (i + 1) l2 h2 (by omega) q
      exact ⟨f', l', h', by simp only [forD, eg, e1, e2]; exact e', p⟩
    | ct =>
      obtain ⟨f', l', h', e', p⟩ := forD_w J keep step fin k (i + 1) l2 h2 (by omega) q
      exact ⟨f', l', h', by simp only [forD, eg, e1, e2]; exact e', p⟩
    | bk => exact ⟨.nx, l2, h2, by simp only [forD, eg, e1, e2], q⟩
    | rt d => exact ⟨.rt d, l2, h2, by simp only [forD, eg, e1, e2], q⟩
theorem wS_for {mi : DM Src} {body : SM} (h : wD mi loc mh fun src h0 => ∃ ds, ∃ J : Nat → DL.Loc → MH → Prop, J 0 loc h0 ∧ (∀ i l h, J i l h → src.ok h = true ∧ src.items h = ds) ∧
    (∀ i d l h, ds[i]? = some d → J i l h → wG (g d l h) fun l1 h1 => wS body l1 h1 (forK (J (i + 1)) P)) ∧ ∀ l h, J ds.length l h → P .nx l h) : wS (forS mi g body) loc mh P := by
  obtain ⟨src, h0, e, ds, J, j0, keep, step, fin⟩ := h
  have el : (src.items h0).length = ds.length := by rw [(keep _ _ _ j0).2]
  obtain ⟨f, l, h', e', p⟩ := forD_w J keep step fin ds.length 0 loc h0 (by omega) j0
  refine ⟨f, l, h', ?_, p⟩
  unfold forS
  rw [e]
  dsimp only
  rw [el]
  exact e'
theorem compD_w {src : Src} {ds : List D} {tc : DM Bool} {e : DM D} {R : List D → MH → Prop} (J : Nat → List D → MH → Prop) (keep : ∀ i acc h, J i acc h → src.ok h = true ∧ src.items h = ds) (hz : ds.length ≤ 1000000) (small : ∀ i acc h, J i acc h → acc.length ≤ i)
    (step : ∀ i d acc h, ds[i]? = some d → J i acc h → wG (g d loc h) fun l1 h1 => wD tc l1 h1 fun c h2 => (c = true → wD e l1 h2 fun y h3 => J (i + 1) (acc ++ [y]) h3) ∧ (c = false → J (i + 1) acc h2)) (fin : ∀ acc h, J ds.length acc h → R acc h) :
    ∀ (k i : Nat) (acc : List D) (h : MH), i + k = ds.length → J i acc h → ∃ acc' h', compD src g tc e loc k i acc h = some (acc', h') ∧ R acc' h'
  | 0, i, acc, h, q, j => by
    have q : i = ds.length := by omega
    subst q
    have s : src.stop h ds.length = true := by
      unfold Src.stop
      rw [(keep _ _ _ j).1, (keep _ _ _ j).2, Bool.true_and]
      exact decide_eq_true (Nat.le_refl _)
    exact ⟨acc, h, by simp only [compD, s, if_true], fin _ _ j⟩
  | k + 1, i, acc, h, q, j => by
    have hi : i < ds.length := by omega
    have eg : src.get h i = some ds[i] := by
      unfold Src.get
      rw [(keep _ _ _ j).2, List.getElem?_eq_getElem hi]
    obtain ⟨l1, h1, e1, c, h2, e2, a, b⟩ := step i ds[i] acc h (List.getElem?_eq_getElem hi) j
    cases c with
    | true =>
      obtain ⟨y, h3, e3, j3⟩ := a rfl
      obtain ⟨acc', h', e', p⟩ := compD_w J keep hz small step fin k (i + 1) _ h3 (by omega) j3
      have hl : acc.length < sizeLine := lt_size (by have := small _ _ _ j; omega)
      exact ⟨acc', h', by simp only [compD, eg, e1, e2, if_true, e3, if_pos hl]; exact e', p⟩
    | false =>
      obtain ⟨acc', h', e', p⟩ := compD_w J keep hz small step fin k (i + 1) _ h2 (by omega) (b rfl)
      exact ⟨acc', h', by simp only [compD, eg, e1, e2, Bool.false_eq_true, if_false]; exact e', p⟩
theorem wD_comp {mi : DM Src} {cs : List (Option Nat)} {tc : DM Bool} {e : DM D} {Q : D → MH → Prop} (h : wD mi loc mh fun src h0 => ∃ ds, ∃ J : Nat → List D → MH → Prop, ds.length ≤ 1000000 ∧ J 0 [] h0 ∧ (∀ i acc h, J i acc h → src.ok h = true ∧ src.items h = ds) ∧ (∀ i acc h, J i acc h → acc.length ≤ i) ∧
    (∀ i d acc h, ds[i]? = some d → J i acc h → wG (g d (capD cs loc) h) fun l1 h1 => wD tc l1 h1 fun c h2 => (c = true → wD e l1 h2 fun y h3 => J (i + 1) (acc ++ [y]) h3) ∧ (c = false → J (i + 1) acc h2)) ∧
    ∀ acc h, J ds.length acc h → Q (.ref h.length) (h ++ [.lst acc])) : wD (compM mi cs g tc e) loc mh Q := by
  obtain ⟨src, h0, e0, ds, J, hz, j0, keep, small, step, fin⟩ := h
  have el : (src.items h0).length = ds.length := by rw [(keep _ _ _ j0).2]
  obtain ⟨acc, h', e', p⟩ := compD_w J keep hz small step fin ds.length 0 [] h0 (by omega) j0
  refine ⟨.ref h'.length, h' ++ [.lst acc], ?_, p⟩
  unfold compM
  rw [e0]
  dsimp only
  rw [el, e']
end
noncomputable def retK (P : D → MH → Prop) (f : Fl) (_ : DL.Loc) (h : MH) : Prop := match f with
  | .rt d => P d h
  | .nx => P .non h
  | _ => False
theorem wV_run {G : Gb} {n : Nat} {I : FnI} {b : SM} {ds : List D} {mh : MH} {np m : Nat} {P : D → MH → Prop} (hb : iSs G n { N := I.N, scope := I.scope, own := fun _ => true } I.body = b) (hp : I.ps.length = np) (hN : I.N.length = m) (hl : ds.length = np)
    (h : wS b (ds.map some ++ List.replicate (m - np) none) mh (retK P)) : wV (runF G n I ds mh) P := by
  obtain ⟨f, l, h', e, p⟩ := h
  cases f with
  | rt d => exact ⟨d, h', by unfold runF; rw [if_pos (by rw [hp]; exact hl), hb, hN, hl, e], p⟩
  | nx => exact ⟨.non, h', by unfold runF; rw [if_pos (by rw [hp]; exact hl), hb, hN, hl, e], p⟩
  | bk => exact p.elim
  | ct => exact p.elim
section
variable {mh : MH} {P : D → MH → Prop}
theorem wV_of {r : Option (D × MH)} {d : D} {h : MH} (e : r = some (d, h)) (p : P d h) : wV r P := ⟨d, h, e, p⟩
theorem wV_iop {C : Int → Int → Bool} {g : Int → Int → Int} {i j : Int} (hC : C i j = true) (h : P (.int (g i j)) mh) : wV (iop C g (.int i) (.int j) mh) P := ⟨_, _, by rw [iop_ap, if_pos hC], h⟩
theorem wV_sub {i j : Int} (h : P (.int (i - j)) mh) : wV (subD (.int i) (.int j) mh) P := wV_iop rfl h
theorem wV_mod {i j : Int} (hj : j ≠ 0) (h : P (.int (i.fmod j)) mh) : wV (modD (.int i) (.int j) mh) P := wV_iop (decide_eq_true hj) h
theorem wV_fdiv {i j : Int} (hj : j ≠ 0) (hb : j.natAbs < 10889035741470030830827987437816582766592) (h : P (.int (i.fdiv j)) mh) : wV (fdivD (.int i) (.int j) mh) P := wV_iop (by rw [decide_eq_true hj, decide_eq_true hb]; rfl) h
theorem wV_mul {i j : Int} (hb : (-(2 ^ 64) < i ∧ i < 2 ^ 64) ∨ (-(2 ^ 64) < j ∧ j < 2 ^ 64)) (h : P (.int (i * j)) mh) : wV (mulD (.int i) (.int j) mh) P := show wV (iop cmulB (fun i j => i * j) (.int i) (.int j) mh) P from wV_iop (by unfold cmulB; rw [Bool.or_eq_true, decide_eq_true_iff, decide_eq_true_iff]; exact hb) h
theorem wV_icmp {g : Int → Int → Bool} {i j : Int} (h : P (.bl (g i j)) mh) : wV (icmp g (.int i) (.int j) mh) P := ⟨_, _, rfl, h⟩
theorem wV_add {i j : Int} (h : P (.int (i + j)) mh) : wV (addD (.int i) (.int j) mh) P := ⟨_, _, rfl, h⟩
theorem wV_eqI {i j : Int} (h : P (.bl (i == j)) mh) : wV (eqD (.int i) (.int j) mh) P := ⟨_, _, rfl, h⟩
theorem wV_neI {i j : Int} (h : P (.bl (!(i == j))) mh) : wV (neD (.int i) (.int j) mh) P := ⟨_, _, rfl, h⟩
theorem wV_eq {x y : D} {k : Bool} (e : eqB mh x y = some k) (h : P (.bl k) mh) : wV (eqD x y mh) P := ⟨_, _, by unfold eqD; rw [e], h⟩
theorem wV_in {neg : Bool} {x y : D} {k : Bool} (e : inB mh x y = some k) (h : P (.bl (if neg then !k else k)) mh) : wV (inD neg x y mh) P := ⟨_, _, by unfold inD; rw [e], h⟩
theorem wV_addL {n m : Nat} {xs ys : List D} (e1 : mh[n]? = some (.lst xs)) (e2 : mh[m]? = some (.lst ys)) (hz : xs.length + ys.length ≤ 1000000) (h : P (.ref mh.length) (mh ++ [.lst (xs ++ ys)])) : wV (addD (.ref n) (.ref m) mh) P := ⟨_, _, addD_lst e1 e2 hz, h⟩
theorem wV_addT {xs ys : List D} (hz : xs.length + ys.length ≤ 1000000) (h : P (.tup (xs ++ ys)) mh) : wV (addD (.tup xs) (.tup ys) mh) P := ⟨_, _, by simp only [addD, if_pos (le_size hz)], h⟩
theorem wV_ixT {ds : List D} {j : Nat} {d : D} (e : ds[j]? = some d) (h : P d mh) : wV (ixD (.tup ds) (.int j) mh) P := ⟨d, mh, by simp only [ixD, seqD, atI_nat e], h⟩
theorem wV_ixR {ds : List D} {j : Nat} {d : D} (e : ds[j]? = some d) (h : P d mh) : wV (ixD (.rol ds) (.int j) mh) P := ⟨d, mh, by simp only [ixD, seqD, atI_nat e], h⟩
theorem wV_ixL {n : Nat} {ds : List D} {j : Nat} {d : D} (e1 : mh[n]? = some (.lst ds)) (e : ds[j]? = some d) (h : P d mh) : wV (ixD (.ref n) (.int j) mh) P := ⟨d, mh, by simp only [ixD, seqD, e1, MO.items, atI_nat e], h⟩
theorem wV_append {n : Nat} {ds : List D} {y : D} (e : mh[n]? = some (.lst ds)) (hz : ds.length ≤ 1000000) (h : P .non (mh.set n (.lst (ds ++ [y])))) : wV (appendD (.ref n) [y] mh) P := ⟨_, _, appendD_ok e hz, h⟩
theorem wV_len {x : D} {ds : List D} (hx : ∀ z, x ≠ .str z) (e : seqD x mh = some ds) (h : P (.int ds.length) mh) : wV (lenD [x] mh) P := by
  refine ⟨_, _, ?_, h⟩
  cases x with
  | str z => exact (hx z rfl).elim
  | _ => simp only [lenD, e]
theorem wV_tupOf {x : D} {ds : List D} (e : seqD x mh = some ds) (h : P (.tup ds) mh) : wV (tupleD [x] mh) P := ⟨_, _, by simp only [tupleD, e], h⟩
end
structure Ext (W : List Nat) (a b : MH) : Prop where
  len : a.length ≤ b.length
  old : ∀ i o, i ∉ W → a[i]? = some o → b[i]? = some o
theorem Ext.refl {W : List Nat} {a : MH} : Ext W a a := ⟨Nat.le_refl _, fun _ _ _ e => e⟩
theorem Ext.trans {W : List Nat} {a b c : MH} (x : Ext W a b) (y : Ext W b c) : Ext W a c := ⟨Nat.le_trans x.len y.len, fun i o h e => y.old i o h (x.old i o h e)⟩
theorem Ext.weak {W : List Nat} {a b : MH} (x : Ext [] a b) : Ext W a b := ⟨x.len, fun i o _ e => x.old i o (by simp) e⟩
theorem Ext.more {W : List Nat} {a g : MH} : Ext W a (a ++ g) := ⟨by rw [List.length_append]; omega, fun i o _ e => by rw [List.getElem?_append_left (List.getElem?_eq_some_iff.mp e).1]; exact e⟩
theorem Ext.set {n : Nat} {a : MH} {o : MO} : Ext [n] a (a.set n o) := ⟨by rw [List.length_set]; exact Nat.le_refl _, fun i o' h e => by rw [List.getElem?_set_ne (fun z => h (by simp [z]))]; exact e⟩
theorem Ext.setNew {W : List Nat} {n : Nat} {a b : MH} {o : MO} (x : Ext W a b) (h : a.length ≤ n) : Ext W a (b.set n o) := ⟨by rw [List.length_set]; exact x.len, fun i o' hi e => by
  have : i < a.length := (List.getElem?_eq_some_iff.mp e).1
  rw [List.getElem?_set_ne (by omega)]; exact x.old i o' hi e⟩
theorem at_new {a : MH} {o : MO} : (a ++ [o])[a.length]? = some o := by rw [List.getElem?_append_right (Nat.le_refl _), Nat.sub_self]; rfl
theorem at_set {a : MH} {n : Nat} {o o' : MO} (h : a[n]? = some o') : (a.set n o)[n]? = some o := by
  rw [List.getElem?_set]; simp [(List.getElem?_eq_some_iff.mp h).1]
noncomputable def mkM (c f : Str) (ma : DM D) : DM D := ma.bnd fun d => DM.ret (.obj c [f] [d])
section
variable {loc : DL.Loc} {mh : MH} {ma : DM D} {mr : DM (List D)} {P : D → MH → Prop}
theorem wD_mk {c f : Str} (h : wD ma loc mh fun d h1 => P (.obj c [f] [d]) h1) : wD (mkM c f ma) loc mh P := wD_bnd (wD_mono h fun _ _ q => wD_ret q)
theorem wD_dicIn {neg : Bool} {kvs : List (Str × D)} (h : wD ma loc mh fun x h1 => ∃ k, x = .str k ∧ P (.bl (if neg then !(kvs.lookup k).isSome else (kvs.lookup k).isSome)) h1) : wD (dicIn neg kvs ma) loc mh P := wD_bnd (wD_mono h fun _ _ ⟨k, e, q⟩ => by subst e; exact wD_ret q)
theorem wD_dicIx {kvs : List (Str × D)} (h : wD ma loc mh fun x h1 => ∃ k d, x = .str k ∧ kvs.lookup k = some d ∧ P d h1) : wD (dicIx kvs ma) loc mh P := wD_bnd (wD_mono h fun _ _ ⟨k, d, e, l, q⟩ => by
  subst e
  show wD (match kvs.lookup k with | some d => DM.ret d | none => DM.bad) _ _ _
  rw [l]; exact wD_ret q)
theorem wD_attr {ok : Str → Str → Bool} {f : Str} (h : wD ma loc mh fun x h1 => ∃ c ks ds d, x = .obj c ks ds ∧ ok c f = true ∧ (ks.zip ds).lookup f = some d ∧ P d h1) : wD (attrM ok f ma) loc mh P := wD_bnd (wD_mono h fun _ h1 ⟨c, ks, ds, d, e, o, l, q⟩ => by
  subst e
  refine ⟨d, h1, ?_, q⟩
  show (if ok c f then DM.lift (fldD c f (.obj c ks ds)) else DM.bad) loc h1 = _
  rw [if_pos o]
  show fldD c f (.obj c ks ds) h1 = _
  simp only [fldD, beq_self_eq_true, if_true, l])
theorem wD_obj {met : Str → Str → Option (List Str × Fn)} {m : Str} (h : wD ma loc mh fun x h1 => ∃ c ks ds ps g, x = .obj c ks ds ∧ met c m = some (ps, g) ∧ ks.contains m = false ∧ wD mr loc h1 fun as h2 => wV (g (.obj c ks ds :: as) h2) P) : wD (objM met m ma mr) loc mh P := wD_bnd (wD_mono h fun _ h1 ⟨c, ks, ds, ps, g, e, em, hk, q⟩ => by
  subst e
  show wD (match met c m with | some (_, g) => if ks.contains m then DM.bad else mr.bnd fun as => DM.lift (g (.obj c ks ds :: as)) | none => DM.bad) _ _ _
  rw [em]
  dsimp only
  rw [if_neg (by rw [hk]; simp)]
  exact wD_bnd (wD_mono q fun _ _ z => z))
theorem wS_par {i j : Nat} {Q : Fl → DL.Loc → MH → Prop} (h : wD mr loc mh fun ds h1 => ∃ d e, ds = [d, e] ∧ Q .nx ((loc.set i (some d)).set j (some e)) h1) : wS (parS mr i j) loc mh Q := by
  obtain ⟨ds, h1, e, d, d2, rfl, q⟩ := h
  exact ⟨.nx, _, h1, by unfold parS; rw [e], q⟩
theorem wD_zip {R : Src → MH → Prop} (h : wD mr loc mh fun ds h1 => ∃ x y s t, ds = [x, y] ∧ srcOf x h1 = some s ∧ srcOf y h1 = some t ∧ R (.zip s t) h1) : wD (zipM mr) loc mh R := wD_bnd (wD_mono h fun _ h1 ⟨x, y, s, t, e, e1, e2, q⟩ => by
  subst e
  exact ⟨_, h1, by simp only [zipS, e1, e2], q⟩)
theorem ex_form {c f : Str} {t : D} {ok : Str → Str → Bool} {Q : D → Prop} (ho : ok c f = true) (h : Q t) : ∃ c' ks ds d, D.obj c [f] [t] = .obj c' ks ds ∧ ok c' f = true ∧ (ks.zip ds).lookup f = some d ∧ Q d := ⟨c, [f], [t], t, rfl, ho, by simp [List.lookup], h⟩
theorem wV_pow {i j : Int} (h1 : 0 ≤ j) (h2 : j ≤ 1000000) (h3 : i.natAbs < 2 ^ 64) (h : P (.int (i ^ j.toNat)) mh) : wV (powD (.int i) (.int j) mh) P := wV_iop (by rw [decide_eq_true h1, decide_eq_true h2, decide_eq_true h3]; rfl) h
end
theorem and_mk {p q : Prop} (hp : p) (hq : q) : p ∧ q := ⟨hp, hq⟩
theorem ex_bl {k : Bool} {B : Bool → Prop} (h : B k) : ∃ j, D.bl k = .bl j ∧ B j := ⟨k, rfl, h⟩
theorem ex_int {i : Int} {B : Int → Prop} (h : B i) : ∃ j, D.int i = .int j ∧ B j := ⟨i, rfl, h⟩
theorem when_t {p q : Prop} (h : p) : ((true = true) → p) ∧ ((true = false) → q) := ⟨fun _ => h, fun z => by cases z⟩
theorem when_f {p q : Prop} (h : q) : ((false = true) → p) ∧ ((false = false) → q) := ⟨fun z => (by cases z), fun _ => h⟩
theorem when_tt {k : Bool} {p q : Prop} (e : k = true) (h : p) : (k = true → p) ∧ (k = false → q) := ⟨fun _ => h, fun z => by rw [e] at z; cases z⟩
theorem when_ff {k : Bool} {p q : Prop} (e : k = false) (h : q) : (k = true → p) ∧ (k = false → q) := ⟨fun z => (by rw [e] at z; cases z), fun _ => h⟩
theorem when_of {k : Bool} {p q : Prop} (h1 : k = true → p) (h2 : k = false → q) : (k = true → p) ∧ (k = false → q) := ⟨h1, h2⟩
theorem tru_bl {k : Bool} {h : MH} {B : Bool → Prop} (q : B k) : ∃ j, truD (.bl k) h = some j ∧ B j := ⟨k, rfl, q⟩
theorem wV_isi {T t : String} {x : D} {b : Bool} {mh : MH} {P : D → MH → Prop} (e1 : tyName x mh = some t) (e2 : isiB t T = some b) (h : P (.bl b) mh) : wV (isiD T x mh) P := ⟨_, _, by unfold isiD; rw [e1]; dsimp only; rw [e2], h⟩
noncomputable abbrev IsP (c : Nat) (p : List Nat) : Prop := p.Perm (List.range c)
theorem IsP.len {c : Nat} {p : List Nat} (h : IsP c p) : p.length = c := by rw [h.length_eq, List.length_range]
theorem IsP.nd {c : Nat} {p : List Nat} (h : IsP c p) : p.Nodup := h.nodup_iff.mpr List.nodup_range
theorem IsP.lt {c : Nat} {p : List Nat} (h : IsP c p) {x : Nat} (hx : x ∈ p) : x < c := List.mem_range.mp (h.mem_iff.mp hx)
theorem IsP.mem {c : Nat} {p : List Nat} (h : IsP c p) {x : Nat} (hx : x < c) : x ∈ p := h.mem_iff.mpr (List.mem_range.mpr hx)
theorem IsP.range (c : Nat) : IsP c (List.range c) := .refl _
noncomputable def St3 (mh : MH) (n : Nat) : Prop := ∃ a b c : Int, mh[n]? = some (.lst [.int a, .int b, .int c])
theorem St3.ext {mh mh' : MH} {n : Nat} {W : List Nat} (h : St3 mh n) (e : Ext W mh mh') (hn : n ∉ W) : St3 mh' n := let ⟨a, b, c, q⟩ := h; ⟨a, b, c, e.old _ _ hn q⟩
mutual
noncomputable def dat : Nat → D → Bool
  | _, .int _ => true
  | _, .bl _ => true
  | _, .non => true
  | _, .str x => PyData.strOk x
  | n + 1, .tup ds => dats n ds
  | _, _ => false
noncomputable def dats : Nat → List D → Bool
  | _, [] => true
  | n, d :: r => dat n d && dats n r
end
mutual
theorem dat_py (mh : MH) : ∀ (n : Nat) (d : D), dat n d = true → ∃ a, py mh n d = some a ∧ a.canLay0 = true
  | n, .int i, _ => ⟨.int i, by cases n <;> rfl, rfl⟩
  | n, .bl i, _ => ⟨.bool i, by cases n <;> rfl, rfl⟩
  | n, .non, _ => ⟨.none, by cases n <;> rfl, rfl⟩
  | n, .str x, h => by
    have h2 : PyData.strOk x = true := by cases n <;> exact h
    exact ⟨.str x, by cases n <;> (show (if PyData.strOk x = true then some (PyData.str x) else none) = _; rw [if_pos h2]), h2⟩
  | 0, .tup ds, h => by simp [dat] at h
  | n + 1, .tup ds, h => by
    have h : dats n ds = true := h
    obtain ⟨as, e, l⟩ := dats_py mh n ds h
    exact ⟨.tuple as, by simp only [py, e], by simpa [PyData.canLay0] using l⟩
  | 0, .ref _, h => by simp [dat] at h
  | _ + 1, .ref _, h => by simp [dat] at h
  | 0, .rol _, h => by simp [dat] at h
  | _ + 1, .rol _, h => by simp [dat] at h
  | 0, .obj .., h => by simp [dat] at h
  | _ + 1, .obj .., h => by simp [dat] at h
theorem dats_py (mh : MH) : ∀ (n : Nat) (ds : List D), dats n ds = true → ∃ as, mapO (py mh n) ds = some as ∧ PyData.canLayAll0 as = true
  | n, [], _ => ⟨[], rfl, rfl⟩
  | n, d :: r, h => by
    have h : (dat n d && dats n r) = true := by simpa [dats] using h
    rw [Bool.and_eq_true] at h
    obtain ⟨a, e1, l1⟩ := dat_py mh n d h.1
    obtain ⟨as, e2, l2⟩ := dats_py mh n r h.2
    exact ⟨a :: as, by simp only [mapO, e1, e2], by simp only [PyData.canLayAll0, l1, l2, Bool.and_self]⟩
end
noncomputable def hv (hs : List Nat) (r : Nat) : List Nat := (List.range hs.length).filter fun n => hs[n]? == some r
noncomputable def lon (hs : List Nat) (r : Nat) (p : List Nat) : List (List Nat) := ((hv hs r).filter fun n => !p.contains n).map fun n => p ++ [n]
noncomputable def stepG (hs : List Nat) (r : Nat) (found : List (List Nat)) : List (List Nat) := found.flatMap (lon hs r)
noncomputable def gen (hs : List Nat) : Nat → List (List Nat)
  | 0 => [[]]
  | i + 1 => stepG hs ((hs[i]?).getD 0) (gen hs i)
theorem wV_extend {n m : Nat} {xs ys : List D} {mh : MH} {P : D → MH → Prop} (e1 : mh[n]? = some (.lst xs)) (e2 : mh[m]? = some (.lst ys)) (hz : xs.length + ys.length ≤ 1000000) (h : P .non (mh.set n (.lst (xs ++ ys)))) : wV (extendD (.ref n) [.ref m] mh) P :=
  ⟨_, _, by simp only [extendD, e1, e2, if_pos (le_size hz)], h⟩
theorem ty_list {a : Nat} {ds : List D} {mh : MH} (e : mh[a]? = some (.lst ds)) : tyOk "list" (.ref a) mh = true := by
  show (true && (mh[a]?).isSome) = true; rw [e]; rfl
theorem src_list {a : Nat} {ds : List D} {mh : MH} (e : mh[a]? = some (.lst ds)) : srcOf (.ref a) mh = some (.lref a) := by
  show (match mh[a]? with | some _ => some (Src.lref a) | none => none) = _; rw [e]
theorem lref_keep {a : Nat} {ds : List D} {mh : MH} (e : mh[a]? = some (.lst ds)) : (Src.lref a).ok mh = true ∧ (Src.lref a).items mh = ds := by
  refine ⟨?_, ?_⟩
  · show (mh[a]?).isSome = true; rw [e]; rfl
  · show (match mh[a]? with | some o => o.items | none => []) = _; rw [e]; rfl
end DL
namespace Lw
open PySem L2 DL
noncomputable def top (i : Nat) : Stmt := PySem.Challenge.pw_letterall_k53_pairs_reckoned.main.body.getD i (.Pass ⟨0, 0, 0, 0⟩)
noncomputable def inCls (s : Stmt) (j : Nat) : Stmt := match s with
  | .ClassDef _ _ _ b _ _ _ _ _ _ _ => b.getD j (.Pass ⟨0, 0, 0, 0⟩)
  | _ => .Pass ⟨0, 0, 0, 0⟩
noncomputable abbrev s14 : Stmt := top 14
noncomputable def f14 : FnI := mkFn s14
noncomputable abbrev s15 : Stmt := top 15
noncomputable def f15 : FnI := mkFn s15
noncomputable abbrev s16 : Stmt := top 16
noncomputable def f16 : FnI := mkFn s16
noncomputable abbrev s17 : Stmt := top 17
noncomputable def f17 : FnI := mkFn s17
noncomputable abbrev s18 : Stmt := top 18
noncomputable def f18 : FnI := mkFn s18
noncomputable abbrev s20 : Stmt := top 20
noncomputable def f20 : FnI := mkFn s20
noncomputable abbrev s21 : Stmt := top 21
noncomputable def f21 : FnI := mkFn s21
noncomputable abbrev s22 : Stmt := top 22
noncomputable def f22 : FnI := mkFn s22
noncomputable abbrev s30 : Stmt := top 30
noncomputable def f30 : FnI := mkFn s30
noncomputable abbrev s31 : Stmt := top 31
noncomputable def f31 : FnI := mkFn s31
noncomputable abbrev s36 : Stmt := top 36
noncomputable def f36 : FnI := mkFn s36
noncomputable abbrev s37 : Stmt := top 37
noncomputable def f37 : FnI := mkFn s37
noncomputable abbrev s38 : Stmt := top 38
noncomputable def f38 : FnI := mkFn s38
noncomputable abbrev s39 : Stmt := top 39
noncomputable def f39 : FnI := mkFn s39
noncomputable abbrev s40 : Stmt := top 40
noncomputable def f40 : FnI := mkFn s40
noncomputable abbrev s43 : Stmt := top 43
noncomputable def f43 : FnI := mkFn s43
noncomputable abbrev s45 : Stmt := top 45
noncomputable def f45 : FnI := mkFn s45
noncomputable abbrev s47 : Stmt := top 47
noncomputable def f47 : FnI := mkFn s47
noncomputable abbrev s48 : Stmt := top 48
noncomputable def f48 : FnI := mkFn s48
noncomputable abbrev s49 : Stmt := top 49
noncomputable def f49 : FnI := mkFn s49
noncomputable abbrev s54 : Stmt := top 54
noncomputable def f54 : FnI := mkFn s54
noncomputable abbrev s61 : Stmt := top 61
noncomputable def f61 : FnI := mkFn s61
noncomputable abbrev s62 : Stmt := top 62
noncomputable def f62 : FnI := mkFn s62
noncomputable abbrev s64 : Stmt := top 64
noncomputable def f64 : FnI := mkFn s64
noncomputable abbrev s65 : Stmt := top 65
noncomputable def f65 : FnI := mkFn s65
noncomputable abbrev s66 : Stmt := top 66
noncomputable def f66 : FnI := mkFn s66
noncomputable abbrev s67 : Stmt := top 67
noncomputable def f67 : FnI := mkFn s67
noncomputable abbrev s68 : Stmt := top 68
noncomputable def f68 : FnI := mkFn s68
noncomputable abbrev s69 : Stmt := top 69
noncomputable def f69 : FnI := mkFn s69
noncomputable abbrev s71 : Stmt := top 71
noncomputable def f71 : FnI := mkFn s71
noncomputable abbrev s72 : Stmt := top 72
noncomputable def f72 : FnI := mkFn s72
noncomputable abbrev s73 : Stmt := top 73
noncomputable def f73 : FnI := mkFn s73
noncomputable abbrev s74 : Stmt := top 74
noncomputable def f74 : FnI := mkFn s74
noncomputable abbrev s75 : Stmt := top 75
noncomputable def f75 : FnI := mkFn s75
noncomputable abbrev s76 : Stmt := top 76
noncomputable def f76 : FnI := mkFn s76
noncomputable abbrev s77 : Stmt := top 77
noncomputable def f77 : FnI := mkFn s77
noncomputable abbrev s79 : Stmt := top 79
noncomputable def f79 : FnI := mkFn s79
noncomputable abbrev s80 : Stmt := top 80
noncomputable def f80 : FnI := mkFn s80
noncomputable abbrev s81 : Stmt := top 81
noncomputable def f81 : FnI := mkFn s81
noncomputable abbrev s82 : Stmt := top 82
noncomputable def f82 : FnI := mkFn s82
noncomputable abbrev s83 : Stmt := top 83
noncomputable def f83 : FnI := mkFn s83
noncomputable abbrev s84 : Stmt := top 84
noncomputable def f84 : FnI := mkFn s84
noncomputable abbrev s86 : Stmt := top 86
noncomputable def f86 : FnI := mkFn s86
noncomputable abbrev s87 : Stmt := top 87
noncomputable def f87 : FnI := mkFn s87
noncomputable abbrev s88 : Stmt := top 88
noncomputable def f88 : FnI := mkFn s88
noncomputable abbrev s89 : Stmt := top 89
noncomputable def f89 : FnI := mkFn s89
noncomputable abbrev s90 : Stmt := top 90
noncomputable def f90 : FnI := mkFn s90
noncomputable abbrev s91 : Stmt := top 91
noncomputable def f91 : FnI := mkFn s91
noncomputable abbrev s92 : Stmt := top 92
noncomputable def f92 : FnI := mkFn s92
noncomputable abbrev s93 : Stmt := top 93
noncomputable def f93 : FnI := mkFn s93
noncomputable abbrev s94 : Stmt := top 94
noncomputable def f94 : FnI := mkFn s94
noncomputable abbrev s95 : Stmt := top 95
noncomputable def f95 : FnI := mkFn s95
noncomputable abbrev s96 : Stmt := top 96
noncomputable def f96 : FnI := mkFn s96
noncomputable abbrev s97 : Stmt := top 97
noncomputable def f97 : FnI := mkFn s97
noncomputable abbrev s98 : Stmt := top 98
noncomputable def f98 : FnI := mkFn s98
noncomputable abbrev s99 : Stmt := top 99
noncomputable def f99 : FnI := mkFn s99
noncomputable abbrev s100 : Stmt := top 100
noncomputable def f100 : FnI := mkFn s100
noncomputable abbrev s101 : Stmt := top 101
noncomputable def f101 : FnI := mkFn s101
noncomputable abbrev s24_1 : Stmt := inCls (top 24) 1
noncomputable def f24_1 : FnI := mkFn s24_1
noncomputable def tb101 (x : Str) : Option FnI := if x == "law" then some f101 else none
noncomputable def tb100 (x : Str) : Option FnI := if x == "_law_carried" then some f100 else tb101 x
noncomputable def tb99 (x : Str) : Option FnI := if x == "_law_reckoned" then some f99 else tb100 x
noncomputable def tb98 (x : Str) : Option FnI := if x == "_law_step" then some f98 else tb99 x
noncomputable def tb97 (x : Str) : Option FnI := if x == "_law_due" then some f97 else tb98 x
noncomputable def tb96 (x : Str) : Option FnI := if x == "_law_parted" then some f96 else tb97 x
noncomputable def tb95 (x : Str) : Option FnI := if x == "_law_put" then some f95 else tb96 x
noncomputable def tb94 (x : Str) : Option FnI := if x == "_law_some" then some f94 else tb95 x
noncomputable def tb93 (x : Str) : Option FnI := if x == "_law_low" then some f93 else tb94 x
noncomputable def tb92 (x : Str) : Option FnI := if x == "_law_top" then some f92 else tb93 x
noncomputable def tb91 (x : Str) : Option FnI := if x == "_law_plus" then some f91 else tb92 x
noncomputable def tb90 (x : Str) : Option FnI := if x == "_law_pair" then some f90 else tb91 x
noncomputable def tb89 (x : Str) : Option FnI := if x == "_law_far" then some f89 else tb90 x
noncomputable def tb88 (x : Str) : Option FnI := if x == "_law_draws" then some f88 else tb89 x
noncomputable def tb87 (x : Str) : Option FnI := if x == "_law_mixed" then some f87 else tb88 x
noncomputable def tb86 (x : Str) : Option FnI := if x == "_law_cell_at" then some f86 else tb87 x
noncomputable def tb84 (x : Str) : Option FnI := if x == "after_before" then some f84 else tb86 x
noncomputable def tb83 (x : Str) : Option FnI := if x == "after_less" then some f83 else tb84 x
noncomputable def tb82 (x : Str) : Option FnI := if x == "reckoned_pair" then some f82 else tb83 x
noncomputable def tb81 (x : Str) : Option FnI := if x == "reckoned_parts" then some f81 else tb82 x
noncomputable def tb80 (x : Str) : Option FnI := if x == "outcomes_of" then some f80 else tb81 x
noncomputable def tb79 (x : Str) : Option FnI := if x == "spread" then some f79 else tb80 x
noncomputable def tb77 (x : Str) : Option FnI := if x == "added" then some f77 else tb79 x
noncomputable def tb76 (x : Str) : Option FnI := if x == "more_by" then some f76 else tb77 x
noncomputable def tb75 (x : Str) : Option FnI := if x == "lower" then some f75 else tb76 x
noncomputable def tb74 (x : Str) : Option FnI := if x == "higher" then some f74 else tb75 x
noncomputable def tb73 (x : Str) : Option FnI := if x == "cut" then some f73 else tb74 x
noncomputable def tb72 (x : Str) : Option FnI := if x == "pair_of" then some f72 else tb73 x
noncomputable def tb71 (x : Str) : Option FnI := if x == "is_void" then some f71 else tb72 x
noncomputable def tb69 (x : Str) : Option FnI := if x == "after_fall" then some f69 else tb71 x
noncomputable def tb68 (x : Str) : Option FnI := if x == "after_loss" then some f68 else tb69 x
noncomputable def tb67 (x : Str) : Option FnI := if x == "after_move" then some f67 else tb68 x
noncomputable def tb66 (x : Str) : Option FnI := if x == "falls" then some f66 else tb67 x
noncomputable def tb65 (x : Str) : Option FnI := if x == "losses" then some f65 else tb66 x
noncomputable def tb64 (x : Str) : Option FnI := if x == "moves" then some f64 else tb65 x
noncomputable def tb62 (x : Str) : Option FnI := if x == "after_take" then some f62 else tb64 x
noncomputable def tb61 (x : Str) : Option FnI := if x == "after_send" then some f61 else tb62 x
noncomputable def tb54 (x : Str) : Option FnI := if x == "after_step" then some f54 else tb61 x
noncomputable def tb49 (x : Str) : Option FnI := if x == "senders" then some f49 else tb54 x
noncomputable def tb48 (x : Str) : Option FnI := if x == "take_choices" then some f48 else tb49 x
noncomputable def tb47 (x : Str) : Option FnI := if x == "may_send" then some f47 else tb48 x
noncomputable def tb45 (x : Str) : Option FnI := if x == "choices_of" then some f45 else tb47 x
noncomputable def tb43 (x : Str) : Option FnI := if x == "step_now" then some f43 else tb45 x
noncomputable def tb40 (x : Str) : Option FnI := if x == "with_row" then some f40 else tb43 x
noncomputable def tb39 (x : Str) : Option FnI := if x == "with_part" then some f39 else tb40 x
noncomputable def tb38 (x : Str) : Option FnI := if x == "row" then some f38 else tb39 x
noncomputable def tb37 (x : Str) : Option FnI := if x == "part" then some f37 else tb38 x
noncomputable def tb36 (x : Str) : Option FnI := if x == "all_hands" then some f36 else tb37 x
noncomputable def tb31 (x : Str) : Option FnI := if x == "step_at" then some f31 else tb36 x
noncomputable def tb30 (x : Str) : Option FnI := if x == "length_of" then some f30 else tb31 x
noncomputable def tb22 (x : Str) : Option FnI := if x == "moved_on" then some f22 else tb30 x
noncomputable def tb21 (x : Str) : Option FnI := if x == "at_place" then some f21 else tb22 x
noncomputable def tb20 (x : Str) : Option FnI := if x == "with_bell" then some f20 else tb21 x
noncomputable def tb18 (x : Str) : Option FnI := if x == "with_name" then some f18 else tb20 x
noncomputable def tb17 (x : Str) : Option FnI := if x == "with_number" then some f17 else tb18 x
noncomputable def tb16 (x : Str) : Option FnI := if x == "replaced" then some f16 else tb17 x
noncomputable def tb15 (x : Str) : Option FnI := if x == "has_fallen" then some f15 else tb16 x
noncomputable def tb14 (x : Str) : Option FnI := if x == "blank" then some f14 else tb15 x
noncomputable def tb (x : Str) : Option FnI := tb14 x
noncomputable def con (x : Str) : Option D := if x == "BELL_CHOICE" then some (.tup [(.int (-1)), (.int (0))]) else if x == "NUMBER_WORDS" then some (.tup [(.str "put"), (.str "copy"), (.str "raise"), (.str "sum"), (.str "choose")]) else if x == "PLACE" then some (.int (0)) else if x == "NUMBERS" then some (.int (1)) else if x == "NAMES" then some (.int (2)) else if x == "SETS" then some (.int (3)) else if x == "BELL" then some (.int (4)) else if x == "NOBODY" then some (.int (-1)) else if x == "FALLEN" then some (.int (-1)) else if x == "ROOM" then some (.int (0)) else if x == "ROLES" then some (.int (2)) else if x == "HANDS" then some (.int (3)) else if x == "PARTS" then some (.int (0)) else if x == "ROWS" then some (.int (1)) else if x == "LEFT_STILL" then some (.int (2)) else none
noncomputable def dic (_ : Str) : Option (List (Str × D)) := none
noncomputable def fld (c f : Str) : Bool := (c == "Step" && f == "form")
noncomputable def tbm (c m : Str) : Option FnI := if c == "Step" && m == "told" then some f24_1 else none
noncomputable def mkr (c : Str) : Option Str := if c == "Step" then some "form" else none
noncomputable def Tt : Tb := { tb := tb, con := con, dic := dic, fld := fld, tbm := tbm, mkr := mkr }
theorem sc14 : FnScope f14.N f14.ps (defScope s14) := ⟨rfl, rfl, rfl, by decide +kernel, by decide +kernel, by decide +kernel, by decide +kernel⟩
theorem sc15 : FnScope f15.N f15.ps (defScope s15) := ⟨rfl, rfl, rfl, by decide +kernel, by decide +kernel, by decide +kernel, by decide +kernel⟩
theorem sc16 : FnScope f16.N f16.ps (defScope s16) := ⟨rfl, rfl, rfl, by decide +kernel, by decide +kernel, by decide +kernel, by decide +kernel⟩
theorem sc17 : FnScope f17.N f17.ps (defScope s17) := ⟨rfl, rfl, rfl, by decide +kernel, by decide +kernel, by decide +kernel, by decide +kernel⟩
theorem sc18 : FnScope f18.N f18.ps (defScope s18) := ⟨rfl, rfl, rfl, by decide +kernel, by decide +kernel, by decide +kernel, by decide +kernel⟩
theorem sc20 : FnScope f20.N f20.ps (defScope s20) := ⟨rfl, rfl, rfl, by decide +kernel, by decide +kernel, by decide +kernel, by decide +kernel⟩
theorem sc21 : FnScope f21.N f21.ps (defScope s21) := ⟨rfl, rfl, rfl, by decide +kernel, by decide +kernel, by decide +kernel, by decide +kernel⟩
theorem sc22 : FnScope f22.N f22.ps (defScope s22) := ⟨rfl, rfl, rfl, by decide +kernel, by decide +kernel, by decide +kernel, by decide +kernel⟩
theorem sc30 : FnScope f30.N f30.ps (defScope s30) := ⟨rfl, rfl, rfl, by decide +kernel, by decide +kernel, by decide +kernel, by decide +kernel⟩
theorem sc31 : FnScope f31.N f31.ps (defScope s31) := ⟨rfl, rfl, rfl, by decide +kernel, by decide +kernel, by decide +kernel, by decide +kernel⟩
theorem sc36 : FnScope f36.N f36.ps (defScope s36) := ⟨rfl, rfl, rfl, by decide +kernel, by decide +kernel, by decide +kernel, by decide +kernel⟩
theorem sc37 : FnScope f37.N f37.ps (defScope s37) := ⟨rfl, rfl, rfl, by decide +kernel, by decide +kernel, by decide +kernel, by decide +kernel⟩
theorem sc38 : FnScope f38.N f38.ps (defScope s38) := ⟨rfl, rfl, rfl, by decide +kernel, by decide +kernel, by decide +kernel, by decide +kernel⟩
theorem sc39 : FnScope f39.N f39.ps (defScope s39) := ⟨rfl, rfl, rfl, by decide +kernel, by decide +kernel, by decide +kernel, by decide +kernel⟩
theorem sc40 : FnScope f40.N f40.ps (defScope s40) := ⟨rfl, rfl, rfl, by decide +kernel, by decide +kernel, by decide +kernel, by decide +kernel⟩
theorem sc43 : FnScope f43.N f43.ps (defScope s43) := ⟨rfl, rfl, rfl, by decide +kernel, by decide +kernel, by decide +kernel, by decide +kernel⟩
theorem sc45 : FnScope f45.N f45.ps (defScope s45) := ⟨rfl, rfl, rfl, by decide +kernel, by decide +kernel, by decide +kernel, by decide +kernel⟩
theorem sc47 : FnScope f47.N f47.ps (defScope s47) := ⟨rfl, rfl, rfl, by decide +kernel, by decide +kernel, by decide +kernel, by decide +kernel⟩
theorem sc48 : FnScope f48.N f48.ps (defScope s48) := ⟨rfl, rfl, rfl, by decide +kernel, by decide +kernel, by decide +kernel, by decide +kernel⟩
theorem sc49 : FnScope f49.N f49.ps (defScope s49) := ⟨rfl, rfl, rfl, by decide +kernel, by decide +kernel, by decide +kernel, by decide +kernel⟩
theorem sc54 : FnScope f54.N f54.ps (defScope s54) := ⟨rfl, rfl, rfl, by decide +kernel, by decide +kernel, by decide +kernel, by decide +kernel⟩
theorem sc61 : FnScope f61.N f61.ps (defScope s61) := ⟨rfl, rfl, rfl, by decide +kernel, by decide +kernel, by decide +kernel, by decide +kernel⟩
theorem sc62 : FnScope f62.N f62.ps (defScope s62) := ⟨rfl, rfl, rfl, by decide +kernel, by decide +kernel, by decide +kernel, by decide +kernel⟩
theorem sc64 : FnScope f64.N f64.ps (defScope s64) := ⟨rfl, rfl, rfl, by decide +kernel, by decide +kernel, by decide +kernel, by decide +kernel⟩
theorem sc65 : FnScope f65.N f65.ps (defScope s65) := ⟨rfl, rfl, rfl, by decide +kernel, by decide +kernel, by decide +kernel, by decide +kernel⟩
theorem sc66 : FnScope f66.N f66.ps (defScope s66) := ⟨rfl, rfl, rfl, by decide +kernel, by decide +kernel, by decide +kernel, by decide +kernel⟩
theorem sc67 : FnScope f67.N f67.ps (defScope s67) := ⟨rfl, rfl, rfl, by decide +kernel, by decide +kernel, by decide +kernel, by decide +kernel⟩
theorem sc68 : FnScope f68.N f68.ps (defScope s68) := ⟨rfl, rfl, rfl, by decide +kernel, by decide +kernel, by decide +kernel, by decide +kernel⟩
theorem sc69 : FnScope f69.N f69.ps (defScope s69) := ⟨rfl, rfl, rfl, by decide +kernel, by decide +kernel, by decide +kernel, by decide +kernel⟩
theorem sc71 : FnScope f71.N f71.ps (defScope s71) := ⟨rfl, rfl, rfl, by decide +kernel, by decide +kernel, by decide +kernel, by decide +kernel⟩
theorem sc72 : FnScope f72.N f72.ps (defScope s72) := ⟨rfl, rfl, rfl, by decide +kernel, by decide +kernel, by decide +kernel, by decide +kernel⟩
theorem sc73 : FnScope f73.N f73.ps (defScope s73) := ⟨rfl, rfl, rfl, by decide +kernel, by decide +kernel, by decide +kernel, by decide +kernel⟩
theorem sc74 : FnScope f74.N f74.ps (defScope s74) := ⟨rfl, rfl, rfl, by decide +kernel, by decide +kernel, by decide +kernel, by decide +kernel⟩
theorem sc75 : FnScope f75.N f75.ps (defScope s75) := ⟨rfl, rfl, rfl, by decide +kernel, by decide +kernel, by decide +kernel, by decide +kernel⟩
theorem sc76 : FnScope f76.N f76.ps (defScope s76) := ⟨rfl, rfl, rfl, by decide +kernel, by decide +kernel, by decide +kernel, by decide +kernel⟩
theorem sc77 : FnScope f77.N f77.ps (defScope s77) := ⟨rfl, rfl, rfl, by decide +kernel, by decide +kernel, by decide +kernel, by decide +kernel⟩
theorem sc79 : FnScope f79.N f79.ps (defScope s79) := ⟨rfl, rfl, rfl, by decide +kernel, by decide +kernel, by decide +kernel, by decide +kernel⟩
theorem sc80 : FnScope f80.N f80.ps (defScope s80) := ⟨rfl, rfl, rfl, by decide +kernel, by decide +kernel, by decide +kernel, by decide +kernel⟩
theorem sc81 : FnScope f81.N f81.ps (defScope s81) := ⟨rfl, rfl, rfl, by decide +kernel, by decide +kernel, by decide +kernel, by decide +kernel⟩
theorem sc82 : FnScope f82.N f82.ps (defScope s82) := ⟨rfl, rfl, rfl, by decide +kernel, by decide +kernel, by decide +kernel, by decide +kernel⟩
theorem sc83 : FnScope f83.N f83.ps (defScope s83) := ⟨rfl, rfl, rfl, by decide +kernel, by decide +kernel, by decide +kernel, by decide +kernel⟩
theorem sc84 : FnScope f84.N f84.ps (defScope s84) := ⟨rfl, rfl, rfl, by decide +kernel, by decide +kernel, by decide +kernel, by decide +kernel⟩
theorem sc86 : FnScope f86.N f86.ps (defScope s86) := ⟨rfl, rfl, rfl, by decide +kernel, by decide +kernel, by decide +kernel, by decide +kernel⟩
theorem sc87 : FnScope f87.N f87.ps (defScope s87) := ⟨rfl, rfl, rfl, by decide +kernel, by decide +kernel, by decide +kernel, by decide +kernel⟩
theorem sc88 : FnScope f88.N f88.ps (defScope s88) := ⟨rfl, rfl, rfl, by decide +kernel, by decide +kernel, by decide +kernel, by decide +kernel⟩
theorem sc89 : FnScope f89.N f89.ps (defScope s89) := ⟨rfl, rfl, rfl, by decide +kernel, by decide +kernel, by decide +kernel, by decide +kernel⟩
theorem sc90 : FnScope f90.N f90.ps (defScope s90) := ⟨rfl, rfl, rfl, by decide +kernel, by decide +kernel, by decide +kernel, by decide +kernel⟩
theorem sc91 : FnScope f91.N f91.ps (defScope s91) := ⟨rfl, rfl, rfl, by decide +kernel, by decide +kernel, by decide +kernel, by decide +kernel⟩
theorem sc92 : FnScope f92.N f92.ps (defScope s92) := ⟨rfl, rfl, rfl, by decide +kernel, by decide +kernel, by decide +kernel, by decide +kernel⟩
theorem sc93 : FnScope f93.N f93.ps (defScope s93) := ⟨rfl, rfl, rfl, by decide +kernel, by decide +kernel, by decide +kernel, by decide +kernel⟩
theorem sc94 : FnScope f94.N f94.ps (defScope s94) := ⟨rfl, rfl, rfl, by decide +kernel, by decide +kernel, by decide +kernel, by decide +kernel⟩
theorem sc95 : FnScope f95.N f95.ps (defScope s95) := ⟨rfl, rfl, rfl, by decide +kernel, by decide +kernel, by decide +kernel, by decide +kernel⟩
theorem sc96 : FnScope f96.N f96.ps (defScope s96) := ⟨rfl, rfl, rfl, by decide +kernel, by decide +kernel, by decide +kernel, by decide +kernel⟩
theorem sc97 : FnScope f97.N f97.ps (defScope s97) := ⟨rfl, rfl, rfl, by decide +kernel, by decide +kernel, by decide +kernel, by decide +kernel⟩
theorem sc98 : FnScope f98.N f98.ps (defScope s98) := ⟨rfl, rfl, rfl, by decide +kernel, by decide +kernel, by decide +kernel, by decide +kernel⟩
theorem sc99 : FnScope f99.N f99.ps (defScope s99) := ⟨rfl, rfl, rfl, by decide +kernel, by decide +kernel, by decide +kernel, by decide +kernel⟩
theorem sc100 : FnScope f100.N f100.ps (defScope s100) := ⟨rfl, rfl, rfl, by decide +kernel, by decide +kernel, by decide +kernel, by decide +kernel⟩
theorem sc101 : FnScope f101.N f101.ps (defScope s101) := ⟨rfl, rfl, rfl, by decide +kernel, by decide +kernel, by decide +kernel, by decide +kernel⟩
theorem sc24_1 : FnScope f24_1.N f24_1.ps (defScope s24_1) := ⟨rfl, rfl, rfl, by decide +kernel, by decide +kernel, by decide +kernel, by decide +kernel⟩
theorem lenP45 : f45.ps.length = 3 := by decide +kernel
theorem lenP48 : f48.ps.length = 3 := by decide +kernel
theorem lenP54 : f54.ps.length = 5 := by decide +kernel
theorem lenP62 : f62.ps.length = 4 := by decide +kernel
theorem lenP64 : f64.ps.length = 2 := by decide +kernel
theorem lenP65 : f65.ps.length = 1 := by decide +kernel
theorem lenP66 : f66.ps.length = 1 := by decide +kernel
theorem lenP67 : f67.ps.length = 3 := by decide +kernel
theorem lenP79 : f79.ps.length = 2 := by decide +kernel
theorem lenP80 : f80.ps.length = 3 := by decide +kernel
theorem lenP81 : f81.ps.length = 3 := by decide +kernel
theorem lenP82 : f82.ps.length = 3 := by decide +kernel
theorem lenP83 : f83.ps.length = 4 := by decide +kernel
theorem lenP84 : f84.ps.length = 4 := by decide +kernel
theorem lenP86 : f86.ps.length = 2 := by decide +kernel
theorem lenP87 : f87.ps.length = 2 := by decide +kernel
theorem lenP88 : f88.ps.length = 3 := by decide +kernel
theorem lenP89 : f89.ps.length = 1 := by decide +kernel
theorem lenP90 : f90.ps.length = 2 := by decide +kernel
theorem lenP92 : f92.ps.length = 2 := by decide +kernel
theorem lenP93 : f93.ps.length = 2 := by decide +kernel
theorem lenP96 : f96.ps.length = 2 := by decide +kernel
theorem lenP97 : f97.ps.length = 2 := by decide +kernel
theorem lenP98 : f98.ps.length = 1 := by decide +kernel
theorem lenP99 : f99.ps.length = 2 := by decide +kernel
theorem lenP100 : f100.ps.length = 3 := by decide +kernel
theorem lenP101 : f101.ps.length = 1 := by decide +kernel
theorem lenP24_1 : f24_1.ps.length = 1 := by decide +kernel
theorem tbok {w : World} {K : PySem.W.Frag} {h : Heap} {mg : Str → Option Value} (X : K.In h) (G : h.Ns mainGlobals mg)
    {f14' : Addr} {od14 an14 : Option Addr} {sl14 : Array (Option Value)} {oc14 kV14 dc14 pm14 cd14 ct14 : Value}
    {f15' : Addr} {od15 an15 : Option Addr} {sl15 : Array (Option Value)} {oc15 kV15 dc15 pm15 cd15 ct15 : Value}
    {f16' : Addr} {od16 an16 : Option Addr} {sl16 : Array (Option Value)} {oc16 kV16 dc16 pm16 cd16 ct16 : Value}
    {f17' : Addr} {od17 an17 : Option Addr} {sl17 : Array (Option Value)} {oc17 kV17 dc17 pm17 cd17 ct17 : Value}
    {f18' : Addr} {od18 an18 : Option Addr} {sl18 : Array (Option Value)} {oc18 kV18 dc18 pm18 cd18 ct18 : Value}
    {f20' : Addr} {od20 an20 : Option Addr} {sl20 : Array (Option Value)} {oc20 kV20 dc20 pm20 cd20 ct20 : Value}
    {f21' : Addr} {od21 an21 : Option Addr} {sl21 : Array (Option Value)} {oc21 kV21 dc21 pm21 cd21 ct21 : Value}
    {f22' : Addr} {od22 an22 : Option Addr} {sl22 : Array (Option Value)} {oc22 kV22 dc22 pm22 cd22 ct22 : Value}
    {f30' : Addr} {od30 an30 : Option Addr} {sl30 : Array (Option Value)} {oc30 kV30 dc30 pm30 cd30 ct30 : Value}
    {f31' : Addr} {od31 an31 : Option Addr} {sl31 : Array (Option Value)} {oc31 kV31 dc31 pm31 cd31 ct31 : Value}
    {f36' : Addr} {od36 an36 : Option Addr} {sl36 : Array (Option Value)} {oc36 kV36 dc36 pm36 cd36 ct36 : Value}
    {f37' : Addr} {od37 an37 : Option Addr} {sl37 : Array (Option Value)} {oc37 kV37 dc37 pm37 cd37 ct37 : Value}
    {f38' : Addr} {od38 an38 : Option Addr} {sl38 : Array (Option Value)} {oc38 kV38 dc38 pm38 cd38 ct38 : Value}
    {f39' : Addr} {od39 an39 : Option Addr} {sl39 : Array (Option Value)} {oc39 kV39 dc39 pm39 cd39 ct39 : Value}
    {f40' : Addr} {od40 an40 : Option Addr} {sl40 : Array (Option Value)} {oc40 kV40 dc40 pm40 cd40 ct40 : Value}
    {f43' : Addr} {od43 an43 : Option Addr} {sl43 : Array (Option Value)} {oc43 kV43 dc43 pm43 cd43 ct43 : Value}
    {f45' : Addr} {od45 an45 : Option Addr} {sl45 : Array (Option Value)} {oc45 kV45 dc45 pm45 cd45 ct45 : Value}
    {f47' : Addr} {od47 an47 : Option Addr} {sl47 : Array (Option Value)} {oc47 kV47 dc47 pm47 cd47 ct47 : Value}
    {f48' : Addr} {od48 an48 : Option Addr} {sl48 : Array (Option Value)} {oc48 kV48 dc48 pm48 cd48 ct48 : Value}
    {f49' : Addr} {od49 an49 : Option Addr} {sl49 : Array (Option Value)} {oc49 kV49 dc49 pm49 cd49 ct49 : Value}
    {f54' : Addr} {od54 an54 : Option Addr} {sl54 : Array (Option Value)} {oc54 kV54 dc54 pm54 cd54 ct54 : Value}
    {f61' : Addr} {od61 an61 : Option Addr} {sl61 : Array (Option Value)} {oc61 kV61 dc61 pm61 cd61 ct61 : Value}
    {f62' : Addr} {od62 an62 : Option Addr} {sl62 : Array (Option Value)} {oc62 kV62 dc62 pm62 cd62 ct62 : Value}
    {f64' : Addr} {od64 an64 : Option Addr} {sl64 : Array (Option Value)} {oc64 kV64 dc64 pm64 cd64 ct64 : Value}
    {f65' : Addr} {od65 an65 : Option Addr} {sl65 : Array (Option Value)} {oc65 kV65 dc65 pm65 cd65 ct65 : Value}
    {f66' : Addr} {od66 an66 : Option Addr} {sl66 : Array (Option Value)} {oc66 kV66 dc66 pm66 cd66 ct66 : Value}
    {f67' : Addr} {od67 an67 : Option Addr} {sl67 : Array (Option Value)} {oc67 kV67 dc67 pm67 cd67 ct67 : Value}
    {f68' : Addr} {od68 an68 : Option Addr} {sl68 : Array (Option Value)} {oc68 kV68 dc68 pm68 cd68 ct68 : Value}
    {f69' : Addr} {od69 an69 : Option Addr} {sl69 : Array (Option Value)} {oc69 kV69 dc69 pm69 cd69 ct69 : Value}
    {f71' : Addr} {od71 an71 : Option Addr} {sl71 : Array (Option Value)} {oc71 kV71 dc71 pm71 cd71 ct71 : Value}
    {f72' : Addr} {od72 an72 : Option Addr} {sl72 : Array (Option Value)} {oc72 kV72 dc72 pm72 cd72 ct72 : Value}
    {f73' : Addr} {od73 an73 : Option Addr} {sl73 : Array (Option Value)} {oc73 kV73 dc73 pm73 cd73 ct73 : Value}
    {f74' : Addr} {od74 an74 : Option Addr} {sl74 : Array (Option Value)} {oc74 kV74 dc74 pm74 cd74 ct74 : Value}
    {f75' : Addr} {od75 an75 : Option Addr} {sl75 : Array (Option Value)} {oc75 kV75 dc75 pm75 cd75 ct75 : Value}
    {f76' : Addr} {od76 an76 : Option Addr} {sl76 : Array (Option Value)} {oc76 kV76 dc76 pm76 cd76 ct76 : Value}
    {f77' : Addr} {od77 an77 : Option Addr} {sl77 : Array (Option Value)} {oc77 kV77 dc77 pm77 cd77 ct77 : Value}
    {f79' : Addr} {od79 an79 : Option Addr} {sl79 : Array (Option Value)} {oc79 kV79 dc79 pm79 cd79 ct79 : Value}
    {f80' : Addr} {od80 an80 : Option Addr} {sl80 : Array (Option Value)} {oc80 kV80 dc80 pm80 cd80 ct80 : Value}
    {f81' : Addr} {od81 an81 : Option Addr} {sl81 : Array (Option Value)} {oc81 kV81 dc81 pm81 cd81 ct81 : Value}
    {f82' : Addr} {od82 an82 : Option Addr} {sl82 : Array (Option Value)} {oc82 kV82 dc82 pm82 cd82 ct82 : Value}
    {f83' : Addr} {od83 an83 : Option Addr} {sl83 : Array (Option Value)} {oc83 kV83 dc83 pm83 cd83 ct83 : Value}
    {f84' : Addr} {od84 an84 : Option Addr} {sl84 : Array (Option Value)} {oc84 kV84 dc84 pm84 cd84 ct84 : Value}
    {f86' : Addr} {od86 an86 : Option Addr} {sl86 : Array (Option Value)} {oc86 kV86 dc86 pm86 cd86 ct86 : Value}
    {f87' : Addr} {od87 an87 : Option Addr} {sl87 : Array (Option Value)} {oc87 kV87 dc87 pm87 cd87 ct87 : Value}
    {f88' : Addr} {od88 an88 : Option Addr} {sl88 : Array (Option Value)} {oc88 kV88 dc88 pm88 cd88 ct88 : Value}
    {f89' : Addr} {od89 an89 : Option Addr} {sl89 : Array (Option Value)} {oc89 kV89 dc89 pm89 cd89 ct89 : Value}
    {f90' : Addr} {od90 an90 : Option Addr} {sl90 : Array (Option Value)} {oc90 kV90 dc90 pm90 cd90 ct90 : Value}
    {f91' : Addr} {od91 an91 : Option Addr} {sl91 : Array (Option Value)} {oc91 kV91 dc91 pm91 cd91 ct91 : Value}
    {f92' : Addr} {od92 an92 : Option Addr} {sl92 : Array (Option Value)} {oc92 kV92 dc92 pm92 cd92 ct92 : Value}
    {f93' : Addr} {od93 an93 : Option Addr} {sl93 : Array (Option Value)} {oc93 kV93 dc93 pm93 cd93 ct93 : Value}
    {f94' : Addr} {od94 an94 : Option Addr} {sl94 : Array (Option Value)} {oc94 kV94 dc94 pm94 cd94 ct94 : Value}
    {f95' : Addr} {od95 an95 : Option Addr} {sl95 : Array (Option Value)} {oc95 kV95 dc95 pm95 cd95 ct95 : Value}
    {f96' : Addr} {od96 an96 : Option Addr} {sl96 : Array (Option Value)} {oc96 kV96 dc96 pm96 cd96 ct96 : Value}
    {f97' : Addr} {od97 an97 : Option Addr} {sl97 : Array (Option Value)} {oc97 kV97 dc97 pm97 cd97 ct97 : Value}
    {f98' : Addr} {od98 an98 : Option Addr} {sl98 : Array (Option Value)} {oc98 kV98 dc98 pm98 cd98 ct98 : Value}
    {f99' : Addr} {od99 an99 : Option Addr} {sl99 : Array (Option Value)} {oc99 kV99 dc99 pm99 cd99 ct99 : Value}
    {f100' : Addr} {od100 an100 : Option Addr} {sl100 : Array (Option Value)} {oc100 kV100 dc100 pm100 cd100 ct100 : Value}
    {f101' : Addr} {od101 an101 : Option Addr} {sl101 : Array (Option Value)} {oc101 kV101 dc101 pm101 cd101 ct101 : Value}
    {tk0 : Tok}
    {tk1 : Tok}
    {tk2 : Tok}
    {tk3 : Tok}
    {tk4 : Tok}
    {tk5 : Tok}
    {tk6 : Tok}
    {tk7 : Tok}
    {tk8 : Tok}
    {tk9 : Tok}
    {tk10 : Tok}
    {tk11 : Tok}
    {tk12 : Tok}
    {tv0 : Value}
    {tv1 : Value}
    {C24 : Addr}
    {f24_1' : Addr} {od24_1 an24_1 : Option Addr} {sl24_1 : Array (Option Value)} {oc24_1 kV24_1 dc24_1 pm24_1 cd24_1 ct24_1 : Value}
    {f24_0' : Addr} {od24_0 an24_0 : Option Addr} {sl24_0 : Array (Option Value)} {oc24_0 kV24_0 dc24_0 pm24_0 cd24_0 ct24_0 : Value}
    (a14 : PySem.W.nsIn K mainGlobals "blank" = some (some (.ref f14')))
    (l14 : K.lookup f14' = some ⟨oc14, od14, .func (PySem.W.fnOf "blank" "blank" (defArgs s14) (defBody s14) (defScope s14) .none kV14 dc14 pm14 an14 cd14 ct14), sl14⟩)
    (c14 : PySem.W.codeIn K cd14 "blank" = true)
    (k14 : PySem.W.keepIn K (.ref f14') = true)
    (a15 : PySem.W.nsIn K mainGlobals "has_fallen" = some (some (.ref f15')))
    (l15 : K.lookup f15' = some ⟨oc15, od15, .func (PySem.W.fnOf "has_fallen" "has_fallen" (defArgs s15) (defBody s15) (defScope s15) .none kV15 dc15 pm15 an15 cd15 ct15), sl15⟩)
    (c15 : PySem.W.codeIn K cd15 "has_fallen" = true)
    (k15 : PySem.W.keepIn K (.ref f15') = true)
    (a16 : PySem.W.nsIn K mainGlobals "replaced" = some (some (.ref f16')))
    (l16 : K.lookup f16' = some ⟨oc16, od16, .func (PySem.W.fnOf "replaced" "replaced" (defArgs s16) (defBody s16) (defScope s16) .none kV16 dc16 pm16 an16 cd16 ct16), sl16⟩)
    (c16 : PySem.W.codeIn K cd16 "replaced" = true)
    (k16 : PySem.W.keepIn K (.ref f16') = true)
    (a17 : PySem.W.nsIn K mainGlobals "with_number" = some (some (.ref f17')))
    (l17 : K.lookup f17' = some ⟨oc17, od17, .func (PySem.W.fnOf "with_number" "with_number" (defArgs s17) (defBody s17) (defScope s17) .none kV17 dc17 pm17 an17 cd17 ct17), sl17⟩)
    (c17 : PySem.W.codeIn K cd17 "with_number" = true)
    (k17 : PySem.W.keepIn K (.ref f17') = true)
    (a18 : PySem.W.nsIn K mainGlobals "with_name" = some (some (.ref f18')))
    (l18 : K.lookup f18' = some ⟨oc18, od18, .func (PySem.W.fnOf "with_name" "with_name" (defArgs s18) (defBody s18) (defScope s18) .none kV18 dc18 pm18 an18 cd18 ct18), sl18⟩)
    (c18 : PySem.W.codeIn K cd18 "with_name" = true)
    (k18 : PySem.W.keepIn K (.ref f18') = true)
    (a20 : PySem.W.nsIn K mainGlobals "with_bell" = some (some (.ref f20')))
    (l20 : K.lookup f20' = some ⟨oc20, od20, .func (PySem.W.fnOf "with_bell" "with_bell" (defArgs s20) (defBody s20) (defScope s20) .none kV20 dc20 pm20 an20 cd20 ct20), sl20⟩)
    (c20 : PySem.W.codeIn K cd20 "with_bell" = true)
    (k20 : PySem.W.keepIn K (.ref f20') = true)
    (a21 : PySem.W.nsIn K mainGlobals "at_place" = some (some (.ref f21')))
    (l21 : K.lookup f21' = some ⟨oc21, od21, .func (PySem.W.fnOf "at_place" "at_place" (defArgs s21) (defBody s21) (defScope s21) .none kV21 dc21 pm21 an21 cd21 ct21), sl21⟩)
    (c21 : PySem.W.codeIn K cd21 "at_place" = true)
    (k21 : PySem.W.keepIn K (.ref f21') = true)
    (a22 : PySem.W.nsIn K mainGlobals "moved_on" = some (some (.ref f22')))
    (l22 : K.lookup f22' = some ⟨oc22, od22, .func (PySem.W.fnOf "moved_on" "moved_on" (defArgs s22) (defBody s22) (defScope s22) .none kV22 dc22 pm22 an22 cd22 ct22), sl22⟩)
    (c22 : PySem.W.codeIn K cd22 "moved_on" = true)
    (k22 : PySem.W.keepIn K (.ref f22') = true)
    (a30 : PySem.W.nsIn K mainGlobals "length_of" = some (some (.ref f30')))
    (l30 : K.lookup f30' = some ⟨oc30, od30, .func (PySem.W.fnOf "length_of" "length_of" (defArgs s30) (defBody s30) (defScope s30) .none kV30 dc30 pm30 an30 cd30 ct30), sl30⟩)
    (c30 : PySem.W.codeIn K cd30 "length_of" = true)
    (k30 : PySem.W.keepIn K (.ref f30') = true)
    (a31 : PySem.W.nsIn K mainGlobals "step_at" = some (some (.ref f31')))
    (l31 : K.lookup f31' = some ⟨oc31, od31, .func (PySem.W.fnOf "step_at" "step_at" (defArgs s31) (defBody s31) (defScope s31) .none kV31 dc31 pm31 an31 cd31 ct31), sl31⟩)
    (c31 : PySem.W.codeIn K cd31 "step_at" = true)
    (k31 : PySem.W.keepIn K (.ref f31') = true)
    (a36 : PySem.W.nsIn K mainGlobals "all_hands" = some (some (.ref f36')))
    (l36 : K.lookup f36' = some ⟨oc36, od36, .func (PySem.W.fnOf "all_hands" "all_hands" (defArgs s36) (defBody s36) (defScope s36) .none kV36 dc36 pm36 an36 cd36 ct36), sl36⟩)
    (c36 : PySem.W.codeIn K cd36 "all_hands" = true)
    (k36 : PySem.W.keepIn K (.ref f36') = true)
    (a37 : PySem.W.nsIn K mainGlobals "part" = some (some (.ref f37')))
    (l37 : K.lookup f37' = some ⟨oc37, od37, .func (PySem.W.fnOf "part" "part" (defArgs s37) (defBody s37) (defScope s37) .none kV37 dc37 pm37 an37 cd37 ct37), sl37⟩)
    (c37 : PySem.W.codeIn K cd37 "part" = true)
    (k37 : PySem.W.keepIn K (.ref f37') = true)
    (a38 : PySem.W.nsIn K mainGlobals "row" = some (some (.ref f38')))
    (l38 : K.lookup f38' = some ⟨oc38, od38, .func (PySem.W.fnOf "row" "row" (defArgs s38) (defBody s38) (defScope s38) .none kV38 dc38 pm38 an38 cd38 ct38), sl38⟩)
    (c38 : PySem.W.codeIn K cd38 "row" = true)
    (k38 : PySem.W.keepIn K (.ref f38') = true)
    (a39 : PySem.W.nsIn K mainGlobals "with_part" = some (some (.ref f39')))
    (l39 : K.lookup f39' = some ⟨oc39, od39, .func (PySem.W.fnOf "with_part" "with_part" (defArgs s39) (defBody s39) (defScope s39) .none kV39 dc39 pm39 an39 cd39 ct39), sl39⟩)
    (c39 : PySem.W.codeIn K cd39 "with_part" = true)
    (k39 : PySem.W.keepIn K (.ref f39') = true)
    (a40 : PySem.W.nsIn K mainGlobals "with_row" = some (some (.ref f40')))
    (l40 : K.lookup f40' = some ⟨oc40, od40, .func (PySem.W.fnOf "with_row" "with_row" (defArgs s40) (defBody s40) (defScope s40) .none kV40 dc40 pm40 an40 cd40 ct40), sl40⟩)
    (c40 : PySem.W.codeIn K cd40 "with_row" = true)
    (k40 : PySem.W.keepIn K (.ref f40') = true)
    (a43 : PySem.W.nsIn K mainGlobals "step_now" = some (some (.ref f43')))
    (l43 : K.lookup f43' = some ⟨oc43, od43, .func (PySem.W.fnOf "step_now" "step_now" (defArgs s43) (defBody s43) (defScope s43) .none kV43 dc43 pm43 an43 cd43 ct43), sl43⟩)
    (c43 : PySem.W.codeIn K cd43 "step_now" = true)
    (k43 : PySem.W.keepIn K (.ref f43') = true)
    (a45 : PySem.W.nsIn K mainGlobals "choices_of" = some (some (.ref f45')))
    (l45 : K.lookup f45' = some ⟨oc45, od45, .func (PySem.W.fnOf "choices_of" "choices_of" (defArgs s45) (defBody s45) (defScope s45) .none kV45 dc45 pm45 an45 cd45 ct45), sl45⟩)
    (c45 : PySem.W.codeIn K cd45 "choices_of" = true)
    (k45 : PySem.W.keepIn K (.ref f45') = true)
    (a47 : PySem.W.nsIn K mainGlobals "may_send" = some (some (.ref f47')))
    (l47 : K.lookup f47' = some ⟨oc47, od47, .func (PySem.W.fnOf "may_send" "may_send" (defArgs s47) (defBody s47) (defScope s47) .none kV47 dc47 pm47 an47 cd47 ct47), sl47⟩)
    (c47 : PySem.W.codeIn K cd47 "may_send" = true)
    (k47 : PySem.W.keepIn K (.ref f47') = true)
    (a48 : PySem.W.nsIn K mainGlobals "take_choices" = some (some (.ref f48')))
    (l48 : K.lookup f48' = some ⟨oc48, od48, .func (PySem.W.fnOf "take_choices" "take_choices" (defArgs s48) (defBody s48) (defScope s48) .none kV48 dc48 pm48 an48 cd48 ct48), sl48⟩)
    (c48 : PySem.W.codeIn K cd48 "take_choices" = true)
    (k48 : PySem.W.keepIn K (.ref f48') = true)
    (a49 : PySem.W.nsIn K mainGlobals "senders" = some (some (.ref f49')))
    (l49 : K.lookup f49' = some ⟨oc49, od49, .func (PySem.W.fnOf "senders" "senders" (defArgs s49) (defBody s49) (defScope s49) .none kV49 dc49 pm49 an49 cd49 ct49), sl49⟩)
    (c49 : PySem.W.codeIn K cd49 "senders" = true)
    (k49 : PySem.W.keepIn K (.ref f49') = true)
    (a54 : PySem.W.nsIn K mainGlobals "after_step" = some (some (.ref f54')))
    (l54 : K.lookup f54' = some ⟨oc54, od54, .func (PySem.W.fnOf "after_step" "after_step" (defArgs s54) (defBody s54) (defScope s54) .none kV54 dc54 pm54 an54 cd54 ct54), sl54⟩)
    (c54 : PySem.W.codeIn K cd54 "after_step" = true)
    (k54 : PySem.W.keepIn K (.ref f54') = true)
    (a61 : PySem.W.nsIn K mainGlobals "after_send" = some (some (.ref f61')))
    (l61 : K.lookup f61' = some ⟨oc61, od61, .func (PySem.W.fnOf "after_send" "after_send" (defArgs s61) (defBody s61) (defScope s61) .none kV61 dc61 pm61 an61 cd61 ct61), sl61⟩)
    (c61 : PySem.W.codeIn K cd61 "after_send" = true)
    (k61 : PySem.W.keepIn K (.ref f61') = true)
    (a62 : PySem.W.nsIn K mainGlobals "after_take" = some (some (.ref f62')))
    (l62 : K.lookup f62' = some ⟨oc62, od62, .func (PySem.W.fnOf "after_take" "after_take" (defArgs s62) (defBody s62) (defScope s62) .none kV62 dc62 pm62 an62 cd62 ct62), sl62⟩)
    (c62 : PySem.W.codeIn K cd62 "after_take" = true)
    (k62 : PySem.W.keepIn K (.ref f62') = true)
    (a64 : PySem.W.nsIn K mainGlobals "moves" = some (some (.ref f64')))
    (l64 : K.lookup f64' = some ⟨oc64, od64, .func (PySem.W.fnOf "moves" "moves" (defArgs s64) (defBody s64) (defScope s64) .none kV64 dc64 pm64 an64 cd64 ct64), sl64⟩)
    (c64 : PySem.W.codeIn K cd64 "moves" = true)
    (k64 : PySem.W.keepIn K (.ref f64') = true)
    (a65 : PySem.W.nsIn K mainGlobals "losses" = some (some (.ref f65')))
    (l65 : K.lookup f65' = some ⟨oc65, od65, .func (PySem.W.fnOf "losses" "losses" (defArgs s65) (defBody s65) (defScope s65) .none kV65 dc65 pm65 an65 cd65 ct65), sl65⟩)
    (c65 : PySem.W.codeIn K cd65 "losses" = true)
    (k65 : PySem.W.keepIn K (.ref f65') = true)
    (a66 : PySem.W.nsIn K mainGlobals "falls" = some (some (.ref f66')))
    (l66 : K.lookup f66' = some ⟨oc66, od66, .func (PySem.W.fnOf "falls" "falls" (defArgs s66) (defBody s66) (defScope s66) .none kV66 dc66 pm66 an66 cd66 ct66), sl66⟩)
    (c66 : PySem.W.codeIn K cd66 "falls" = true)
    (k66 : PySem.W.keepIn K (.ref f66') = true)
    (a67 : PySem.W.nsIn K mainGlobals "after_move" = some (some (.ref f67')))
    (l67 : K.lookup f67' = some ⟨oc67, od67, .func (PySem.W.fnOf "after_move" "after_move" (defArgs s67) (defBody s67) (defScope s67) .none kV67 dc67 pm67 an67 cd67 ct67), sl67⟩)
    (c67 : PySem.W.codeIn K cd67 "after_move" = true)
    (k67 : PySem.W.keepIn K (.ref f67') = true)
    (a68 : PySem.W.nsIn K mainGlobals "after_loss" = some (some (.ref f68')))
    (l68 : K.lookup f68' = some ⟨oc68, od68, .func (PySem.W.fnOf "after_loss" "after_loss" (defArgs s68) (defBody s68) (defScope s68) .none kV68 dc68 pm68 an68 cd68 ct68), sl68⟩)
    (c68 : PySem.W.codeIn K cd68 "after_loss" = true)
    (k68 : PySem.W.keepIn K (.ref f68') = true)
    (a69 : PySem.W.nsIn K mainGlobals "after_fall" = some (some (.ref f69')))
    (l69 : K.lookup f69' = some ⟨oc69, od69, .func (PySem.W.fnOf "after_fall" "after_fall" (defArgs s69) (defBody s69) (defScope s69) .none kV69 dc69 pm69 an69 cd69 ct69), sl69⟩)
    (c69 : PySem.W.codeIn K cd69 "after_fall" = true)
    (k69 : PySem.W.keepIn K (.ref f69') = true)
    (a71 : PySem.W.nsIn K mainGlobals "is_void" = some (some (.ref f71')))
    (l71 : K.lookup f71' = some ⟨oc71, od71, .func (PySem.W.fnOf "is_void" "is_void" (defArgs s71) (defBody s71) (defScope s71) .none kV71 dc71 pm71 an71 cd71 ct71), sl71⟩)
    (c71 : PySem.W.codeIn K cd71 "is_void" = true)
    (k71 : PySem.W.keepIn K (.ref f71') = true)
    (a72 : PySem.W.nsIn K mainGlobals "pair_of" = some (some (.ref f72')))
    (l72 : K.lookup f72' = some ⟨oc72, od72, .func (PySem.W.fnOf "pair_of" "pair_of" (defArgs s72) (defBody s72) (defScope s72) .none kV72 dc72 pm72 an72 cd72 ct72), sl72⟩)
    (c72 : PySem.W.codeIn K cd72 "pair_of" = true)
    (k72 : PySem.W.keepIn K (.ref f72') = true)
    (a73 : PySem.W.nsIn K mainGlobals "cut" = some (some (.ref f73')))
    (l73 : K.lookup f73' = some ⟨oc73, od73, .func (PySem.W.fnOf "cut" "cut" (defArgs s73) (defBody s73) (defScope s73) .none kV73 dc73 pm73 an73 cd73 ct73), sl73⟩)
    (c73 : PySem.W.codeIn K cd73 "cut" = true)
    (k73 : PySem.W.keepIn K (.ref f73') = true)
    (a74 : PySem.W.nsIn K mainGlobals "higher" = some (some (.ref f74')))
    (l74 : K.lookup f74' = some ⟨oc74, od74, .func (PySem.W.fnOf "higher" "higher" (defArgs s74) (defBody s74) (defScope s74) .none kV74 dc74 pm74 an74 cd74 ct74), sl74⟩)
    (c74 : PySem.W.codeIn K cd74 "higher" = true)
    (k74 : PySem.W.keepIn K (.ref f74') = true)
    (a75 : PySem.W.nsIn K mainGlobals "lower" = some (some (.ref f75')))
    (l75 : K.lookup f75' = some ⟨oc75, od75, .func (PySem.W.fnOf "lower" "lower" (defArgs s75) (defBody s75) (defScope s75) .none kV75 dc75 pm75 an75 cd75 ct75), sl75⟩)
    (c75 : PySem.W.codeIn K cd75 "lower" = true)
    (k75 : PySem.W.keepIn K (.ref f75') = true)
    (a76 : PySem.W.nsIn K mainGlobals "more_by" = some (some (.ref f76')))
    (l76 : K.lookup f76' = some ⟨oc76, od76, .func (PySem.W.fnOf "more_by" "more_by" (defArgs s76) (defBody s76) (defScope s76) .none kV76 dc76 pm76 an76 cd76 ct76), sl76⟩)
    (c76 : PySem.W.codeIn K cd76 "more_by" = true)
    (k76 : PySem.W.keepIn K (.ref f76') = true)
    (a77 : PySem.W.nsIn K mainGlobals "added" = some (some (.ref f77')))
    (l77 : K.lookup f77' = some ⟨oc77, od77, .func (PySem.W.fnOf "added" "added" (defArgs s77) (defBody s77) (defScope s77) .none kV77 dc77 pm77 an77 cd77 ct77), sl77⟩)
    (c77 : PySem.W.codeIn K cd77 "added" = true)
    (k77 : PySem.W.keepIn K (.ref f77') = true)
    (a79 : PySem.W.nsIn K mainGlobals "spread" = some (some (.ref f79')))
    (l79 : K.lookup f79' = some ⟨oc79, od79, .func (PySem.W.fnOf "spread" "spread" (defArgs s79) (defBody s79) (defScope s79) .none kV79 dc79 pm79 an79 cd79 ct79), sl79⟩)
    (c79 : PySem.W.codeIn K cd79 "spread" = true)
    (k79 : PySem.W.keepIn K (.ref f79') = true)
    (a80 : PySem.W.nsIn K mainGlobals "outcomes_of" = some (some (.ref f80')))
    (l80 : K.lookup f80' = some ⟨oc80, od80, .func (PySem.W.fnOf "outcomes_of" "outcomes_of" (defArgs s80) (defBody s80) (defScope s80) .none kV80 dc80 pm80 an80 cd80 ct80), sl80⟩)
    (c80 : PySem.W.codeIn K cd80 "outcomes_of" = true)
    (k80 : PySem.W.keepIn K (.ref f80') = true)
    (a81 : PySem.W.nsIn K mainGlobals "reckoned_parts" = some (some (.ref f81')))
    (l81 : K.lookup f81' = some ⟨oc81, od81, .func (PySem.W.fnOf "reckoned_parts" "reckoned_parts" (defArgs s81) (defBody s81) (defScope s81) .none kV81 dc81 pm81 an81 cd81 ct81), sl81⟩)
    (c81 : PySem.W.codeIn K cd81 "reckoned_parts" = true)
    (k81 : PySem.W.keepIn K (.ref f81') = true)
    (a82 : PySem.W.nsIn K mainGlobals "reckoned_pair" = some (some (.ref f82')))
    (l82 : K.lookup f82' = some ⟨oc82, od82, .func (PySem.W.fnOf "reckoned_pair" "reckoned_pair" (defArgs s82) (defBody s82) (defScope s82) .none kV82 dc82 pm82 an82 cd82 ct82), sl82⟩)
    (c82 : PySem.W.codeIn K cd82 "reckoned_pair" = true)
    (k82 : PySem.W.keepIn K (.ref f82') = true)
    (a83 : PySem.W.nsIn K mainGlobals "after_less" = some (some (.ref f83')))
    (l83 : K.lookup f83' = some ⟨oc83, od83, .func (PySem.W.fnOf "after_less" "after_less" (defArgs s83) (defBody s83) (defScope s83) .none kV83 dc83 pm83 an83 cd83 ct83), sl83⟩)
    (c83 : PySem.W.codeIn K cd83 "after_less" = true)
    (k83 : PySem.W.keepIn K (.ref f83') = true)
    (a84 : PySem.W.nsIn K mainGlobals "after_before" = some (some (.ref f84')))
    (l84 : K.lookup f84' = some ⟨oc84, od84, .func (PySem.W.fnOf "after_before" "after_before" (defArgs s84) (defBody s84) (defScope s84) .none kV84 dc84 pm84 an84 cd84 ct84), sl84⟩)
    (c84 : PySem.W.codeIn K cd84 "after_before" = true)
    (k84 : PySem.W.keepIn K (.ref f84') = true)
    (a86 : PySem.W.nsIn K mainGlobals "_law_cell_at" = some (some (.ref f86')))
    (l86 : K.lookup f86' = some ⟨oc86, od86, .func (PySem.W.fnOf "_law_cell_at" "_law_cell_at" (defArgs s86) (defBody s86) (defScope s86) .none kV86 dc86 pm86 an86 cd86 ct86), sl86⟩)
    (c86 : PySem.W.codeIn K cd86 "_law_cell_at" = true)
    (k86 : PySem.W.keepIn K (.ref f86') = true)
    (a87 : PySem.W.nsIn K mainGlobals "_law_mixed" = some (some (.ref f87')))
    (l87 : K.lookup f87' = some ⟨oc87, od87, .func (PySem.W.fnOf "_law_mixed" "_law_mixed" (defArgs s87) (defBody s87) (defScope s87) .none kV87 dc87 pm87 an87 cd87 ct87), sl87⟩)
    (c87 : PySem.W.codeIn K cd87 "_law_mixed" = true)
    (k87 : PySem.W.keepIn K (.ref f87') = true)
    (a88 : PySem.W.nsIn K mainGlobals "_law_draws" = some (some (.ref f88')))
    (l88 : K.lookup f88' = some ⟨oc88, od88, .func (PySem.W.fnOf "_law_draws" "_law_draws" (defArgs s88) (defBody s88) (defScope s88) .none kV88 dc88 pm88 an88 cd88 ct88), sl88⟩)
    (c88 : PySem.W.codeIn K cd88 "_law_draws" = true)
    (k88 : PySem.W.keepIn K (.ref f88') = true)
    (a89 : PySem.W.nsIn K mainGlobals "_law_far" = some (some (.ref f89')))
    (l89 : K.lookup f89' = some ⟨oc89, od89, .func (PySem.W.fnOf "_law_far" "_law_far" (defArgs s89) (defBody s89) (defScope s89) .none kV89 dc89 pm89 an89 cd89 ct89), sl89⟩)
    (c89 : PySem.W.codeIn K cd89 "_law_far" = true)
    (k89 : PySem.W.keepIn K (.ref f89') = true)
    (a90 : PySem.W.nsIn K mainGlobals "_law_pair" = some (some (.ref f90')))
    (l90 : K.lookup f90' = some ⟨oc90, od90, .func (PySem.W.fnOf "_law_pair" "_law_pair" (defArgs s90) (defBody s90) (defScope s90) .none kV90 dc90 pm90 an90 cd90 ct90), sl90⟩)
    (c90 : PySem.W.codeIn K cd90 "_law_pair" = true)
    (k90 : PySem.W.keepIn K (.ref f90') = true)
    (a91 : PySem.W.nsIn K mainGlobals "_law_plus" = some (some (.ref f91')))
    (l91 : K.lookup f91' = some ⟨oc91, od91, .func (PySem.W.fnOf "_law_plus" "_law_plus" (defArgs s91) (defBody s91) (defScope s91) .none kV91 dc91 pm91 an91 cd91 ct91), sl91⟩)
    (c91 : PySem.W.codeIn K cd91 "_law_plus" = true)
    (k91 : PySem.W.keepIn K (.ref f91') = true)
    (a92 : PySem.W.nsIn K mainGlobals "_law_top" = some (some (.ref f92')))
    (l92 : K.lookup f92' = some ⟨oc92, od92, .func (PySem.W.fnOf "_law_top" "_law_top" (defArgs s92) (defBody s92) (defScope s92) .none kV92 dc92 pm92 an92 cd92 ct92), sl92⟩)
    (c92 : PySem.W.codeIn K cd92 "_law_top" = true)
    (k92 : PySem.W.keepIn K (.ref f92') = true)
    (a93 : PySem.W.nsIn K mainGlobals "_law_low" = some (some (.ref f93')))
    (l93 : K.lookup f93' = some ⟨oc93, od93, .func (PySem.W.fnOf "_law_low" "_law_low" (defArgs s93) (defBody s93) (defScope s93) .none kV93 dc93 pm93 an93 cd93 ct93), sl93⟩)
    (c93 : PySem.W.codeIn K cd93 "_law_low" = true)
    (k93 : PySem.W.keepIn K (.ref f93') = true)
    (a94 : PySem.W.nsIn K mainGlobals "_law_some" = some (some (.ref f94')))
    (l94 : K.lookup f94' = some ⟨oc94, od94, .func (PySem.W.fnOf "_law_some" "_law_some" (defArgs s94) (defBody s94) (defScope s94) .none kV94 dc94 pm94 an94 cd94 ct94), sl94⟩)
    (c94 : PySem.W.codeIn K cd94 "_law_some" = true)
    (k94 : PySem.W.keepIn K (.ref f94') = true)
    (a95 : PySem.W.nsIn K mainGlobals "_law_put" = some (some (.ref f95')))
    (l95 : K.lookup f95' = some ⟨oc95, od95, .func (PySem.W.fnOf "_law_put" "_law_put" (defArgs s95) (defBody s95) (defScope s95) .none kV95 dc95 pm95 an95 cd95 ct95), sl95⟩)
    (c95 : PySem.W.codeIn K cd95 "_law_put" = true)
    (k95 : PySem.W.keepIn K (.ref f95') = true)
    (a96 : PySem.W.nsIn K mainGlobals "_law_parted" = some (some (.ref f96')))
    (l96 : K.lookup f96' = some ⟨oc96, od96, .func (PySem.W.fnOf "_law_parted" "_law_parted" (defArgs s96) (defBody s96) (defScope s96) .none kV96 dc96 pm96 an96 cd96 ct96), sl96⟩)
    (c96 : PySem.W.codeIn K cd96 "_law_parted" = true)
    (k96 : PySem.W.keepIn K (.ref f96') = true)
    (a97 : PySem.W.nsIn K mainGlobals "_law_due" = some (some (.ref f97')))
    (l97 : K.lookup f97' = some ⟨oc97, od97, .func (PySem.W.fnOf "_law_due" "_law_due" (defArgs s97) (defBody s97) (defScope s97) .none kV97 dc97 pm97 an97 cd97 ct97), sl97⟩)
    (c97 : PySem.W.codeIn K cd97 "_law_due" = true)
    (k97 : PySem.W.keepIn K (.ref f97') = true)
    (a98 : PySem.W.nsIn K mainGlobals "_law_step" = some (some (.ref f98')))
    (l98 : K.lookup f98' = some ⟨oc98, od98, .func (PySem.W.fnOf "_law_step" "_law_step" (defArgs s98) (defBody s98) (defScope s98) .none kV98 dc98 pm98 an98 cd98 ct98), sl98⟩)
    (c98 : PySem.W.codeIn K cd98 "_law_step" = true)
    (k98 : PySem.W.keepIn K (.ref f98') = true)
    (a99 : PySem.W.nsIn K mainGlobals "_law_reckoned" = some (some (.ref f99')))
    (l99 : K.lookup f99' = some ⟨oc99, od99, .func (PySem.W.fnOf "_law_reckoned" "_law_reckoned" (defArgs s99) (defBody s99) (defScope s99) .none kV99 dc99 pm99 an99 cd99 ct99), sl99⟩)
    (c99 : PySem.W.codeIn K cd99 "_law_reckoned" = true)
    (k99 : PySem.W.keepIn K (.ref f99') = true)
    (a100 : PySem.W.nsIn K mainGlobals "_law_carried" = some (some (.ref f100')))
    (l100 : K.lookup f100' = some ⟨oc100, od100, .func (PySem.W.fnOf "_law_carried" "_law_carried" (defArgs s100) (defBody s100) (defScope s100) .none kV100 dc100 pm100 an100 cd100 ct100), sl100⟩)
    (c100 : PySem.W.codeIn K cd100 "_law_carried" = true)
    (k100 : PySem.W.keepIn K (.ref f100') = true)
    (a101 : PySem.W.nsIn K mainGlobals "law" = some (some (.ref f101')))
    (l101 : K.lookup f101' = some ⟨oc101, od101, .func (PySem.W.fnOf "law" "law" (defArgs s101) (defBody s101) (defScope s101) .none kV101 dc101 pm101 an101 cd101 ct101), sl101⟩)
    (c101 : PySem.W.codeIn K cd101 "law" = true)
    (k101 : PySem.W.keepIn K (.ref f101') = true)
    (z0 : PySem.W.nsIn K mainGlobals "len" = some none)
    (z1 : PySem.W.nsIn K mainGlobals "list" = some none)
    (z2 : PySem.W.nsIn K mainGlobals "tuple" = some none)
    (z3 : PySem.W.nsIn K mainGlobals "range" = some none)
    (z4 : PySem.W.nsIn K mainGlobals "isinstance" = some none)
    (z5 : PySem.W.nsIn K mainGlobals "int" = some none)
    (z6 : PySem.W.nsIn K mainGlobals "bool" = some none)
    (z7 : PySem.W.nsIn K mainGlobals "str" = some none)
    (z8 : PySem.W.nsIn K mainGlobals "dict" = some none)
    (z9 : PySem.W.nsIn K mainGlobals "set" = some none)
    (z10 : PySem.W.nsIn K mainGlobals "sorted" = some none)
    (z11 : PySem.W.nsIn K mainGlobals "all" = some none)
    (z12 : PySem.W.nsIn K mainGlobals "any" = some none)
    (z13 : PySem.W.nsIn K mainGlobals "max" = some none)
    (z14 : PySem.W.nsIn K mainGlobals "min" = some none)
    (z15 : PySem.W.nsIn K mainGlobals "enumerate" = some none)
    (z16 : PySem.W.nsIn K mainGlobals "zip" = some none)
    (n0 : PySem.W.nsIn K mainGlobals "PLACE" = some (some (.int (0) tk0)))
    (n1 : PySem.W.nsIn K mainGlobals "NUMBERS" = some (some (.int (1) tk1)))
    (n2 : PySem.W.nsIn K mainGlobals "NAMES" = some (some (.int (2) tk2)))
    (n3 : PySem.W.nsIn K mainGlobals "SETS" = some (some (.int (3) tk3)))
    (n4 : PySem.W.nsIn K mainGlobals "BELL" = some (some (.int (4) tk4)))
    (n5 : PySem.W.nsIn K mainGlobals "NOBODY" = some (some (.int (-1) tk5)))
    (n6 : PySem.W.nsIn K mainGlobals "FALLEN" = some (some (.int (-1) tk6)))
    (n7 : PySem.W.nsIn K mainGlobals "ROOM" = some (some (.int (0) tk7)))
    (n8 : PySem.W.nsIn K mainGlobals "ROLES" = some (some (.int (2) tk8)))
    (n9 : PySem.W.nsIn K mainGlobals "HANDS" = some (some (.int (3) tk9)))
    (n10 : PySem.W.nsIn K mainGlobals "PARTS" = some (some (.int (0) tk10)))
    (n11 : PySem.W.nsIn K mainGlobals "ROWS" = some (some (.int (1) tk11)))
    (n12 : PySem.W.nsIn K mainGlobals "LEFT_STILL" = some (some (.int (2) tk12)))
    (t0 : PySem.W.nsIn K mainGlobals "BELL_CHOICE" = some (some tv0))
    (tr0 : rdV K 60 tv0 = some (.tup [(.int (-1)), (.int (0))]))
    (t1 : PySem.W.nsIn K mainGlobals "NUMBER_WORDS" = some (some tv1))
    (tr1 : rdV K 60 tv1 = some (.tup [(.str "put"), (.str "copy"), (.str "raise"), (.str "sum"), (.str "choose")]))
    (C24a : PySem.W.nsIn K mainGlobals "Step" = some (some (.ref C24)))
    (C24b : PySem.W.plainGet K C24 Str.empty = true)
    (C24c : PySem.W.hasDictIn K C24 = true)
    (C24d : PySem.W.plainOver K C24 = true)
    (C24e : PySem.W.findIn K (.ref C24) "__setattr__" = some (some (.builtin "object.__setattr__")))
    (C24f : PySem.W.findIn K (.ref C24) "form" = some none)
    (a24_1 : PySem.W.findIn K (.ref C24) "told" = some (some (.ref f24_1')))
    (b24_1 : PySem.W.isFn K (.ref f24_1') = true)
    (l24_1 : K.lookup f24_1' = some ⟨oc24_1, od24_1, .func (PySem.W.fnOf "told" "Step.told" (defArgs s24_1) (defBody s24_1) (defScope s24_1) .none kV24_1 dc24_1 pm24_1 an24_1 cd24_1 ct24_1), sl24_1⟩)
    (c24_1 : PySem.W.codeIn K cd24_1 "Step.told" = true)
    (k24_1 : PySem.W.keepIn K (.ref f24_1') = true)
    (a24_0 : PySem.W.findIn K (.ref C24) "__init__" = some (some (.ref f24_0')))
    (b24_0 : PySem.W.isFn K (.ref f24_0') = true)
    (l24_0 : K.lookup f24_0' = some ⟨oc24_0, od24_0, .func (PySem.W.fnOf "__init__" "Step.__init__" (defArgs (inCls (top 24) 0)) (defBody (inCls (top 24) 0)) (defScope (inCls (top 24) 0)) .none kV24_0 dc24_0 pm24_0 an24_0 cd24_0 ct24_0), sl24_0⟩)
    (c24_0 : PySem.W.codeIn K cd24_0 "Step.__init__" = true)
    (k24_0 : PySem.W.keepIn K (.ref f24_0') = true)
    (C24m : PySem.W.makesIn K C24 = true)
    (C24k : PySem.W.keepIn K (.ref C24) = true) : TbOk w K mg Tt := by
  refine ⟨fun x I hx => ?_, fun x d hx => ?_, fun b hb => ?_, fun x kvs hx => ?_, fun c f hx => ?_, fun c m I hx => ?_, fun c f hx => ?_⟩
  · show FnRow K mg x I
    change tb x = some I at hx
    unfold tb at hx
    refine tb_step (P := FnRow K mg) (a := f14) hx ⟨_, s14, _, _, PySem.W.mg_of X G a14, fun_mk (st := s14) l14 c14 k14, sc14, rfl, rfl, ln1 fun _ => rfl⟩ fun hx => ?_
    refine tb_step (P := FnRow K mg) (a := f15) hx ⟨_, s15, _, _, PySem.W.mg_of X G a15, fun_mk (st := s15) l15 c15 k15, sc15, rfl, rfl, ln1 fun _ => rfl⟩ fun hx => ?_
    refine tb_step (P := FnRow K mg) (a := f16) hx ⟨_, s16, _, _, PySem.W.mg_of X G a16, fun_mk (st := s16) l16 c16 k16, sc16, rfl, rfl, ln3 fun _ _ _ => rfl⟩ fun hx => ?_
    refine tb_step (P := FnRow K mg) (a := f17) hx ⟨_, s17, _, _, PySem.W.mg_of X G a17, fun_mk (st := s17) l17 c17 k17, sc17, rfl, rfl, ln3 fun _ _ _ => rfl⟩ fun hx => ?_
    refine tb_step (P := FnRow K mg) (a := f18) hx ⟨_, s18, _, _, PySem.W.mg_of X G a18, fun_mk (st := s18) l18 c18 k18, sc18, rfl, rfl, ln3 fun _ _ _ => rfl⟩ fun hx => ?_
    refine tb_step (P := FnRow K mg) (a := f20) hx ⟨_, s20, _, _, PySem.W.mg_of X G a20, fun_mk (st := s20) l20 c20 k20, sc20, rfl, rfl, ln2 fun _ _ => rfl⟩ fun hx => ?_
    refine tb_step (P := FnRow K mg) (a := f21) hx ⟨_, s21, _, _, PySem.W.mg_of X G a21, fun_mk (st := s21) l21 c21 k21, sc21, rfl, rfl, ln2 fun _ _ => rfl⟩ fun hx => ?_
    refine tb_step (P := FnRow K mg) (a := f22) hx ⟨_, s22, _, _, PySem.W.mg_of X G a22, fun_mk (st := s22) l22 c22 k22, sc22, rfl, rfl, ln1 fun _ => rfl⟩ fun hx => ?_
    refine tb_step (P := FnRow K mg) (a := f30) hx ⟨_, s30, _, _, PySem.W.mg_of X G a30, fun_mk (st := s30) l30 c30 k30, sc30, rfl, rfl, ln2 fun _ _ => rfl⟩ fun hx => ?_
    refine tb_step (P := FnRow K mg) (a := f31) hx ⟨_, s31, _, _, PySem.W.mg_of X G a31, fun_mk (st := s31) l31 c31 k31, sc31, rfl, rfl, ln3 fun _ _ _ => rfl⟩ fun hx => ?_
    refine tb_step (P := FnRow K mg) (a := f36) hx ⟨_, s36, _, _, PySem.W.mg_of X G a36, fun_mk (st := s36) l36 c36 k36, sc36, rfl, rfl, ln1 fun _ => rfl⟩ fun hx => ?_
    refine tb_step (P := FnRow K mg) (a := f37) hx ⟨_, s37, _, _, PySem.W.mg_of X G a37, fun_mk (st := s37) l37 c37 k37, sc37, rfl, rfl, ln2 fun _ _ => rfl⟩ fun hx => ?_
    refine tb_step (P := FnRow K mg) (a := f38) hx ⟨_, s38, _, _, PySem.W.mg_of X G a38, fun_mk (st := s38) l38 c38 k38, sc38, rfl, rfl, ln3 fun _ _ _ => rfl⟩ fun hx => ?_
    refine tb_step (P := FnRow K mg) (a := f39) hx ⟨_, s39, _, _, PySem.W.mg_of X G a39, fun_mk (st := s39) l39 c39 k39, sc39, rfl, rfl, ln3 fun _ _ _ => rfl⟩ fun hx => ?_
    refine tb_step (P := FnRow K mg) (a := f40) hx ⟨_, s40, _, _, PySem.W.mg_of X G a40, fun_mk (st := s40) l40 c40 k40, sc40, rfl, rfl, ln4 fun _ _ _ _ => rfl⟩ fun hx => ?_
    refine tb_step (P := FnRow K mg) (a := f43) hx ⟨_, s43, _, _, PySem.W.mg_of X G a43, fun_mk (st := s43) l43 c43 k43, sc43, rfl, rfl, ln3 fun _ _ _ => rfl⟩ fun hx => ?_
    refine tb_step (P := FnRow K mg) (a := f45) hx ⟨_, s45, _, _, PySem.W.mg_of X G a45, fun_mk (st := s45) l45 c45 k45, sc45, rfl, rfl, ln3 fun _ _ _ => rfl⟩ fun hx => ?_
    refine tb_step (P := FnRow K mg) (a := f47) hx ⟨_, s47, _, _, PySem.W.mg_of X G a47, fun_mk (st := s47) l47 c47 k47, sc47, rfl, rfl, ln4 fun _ _ _ _ => rfl⟩ fun hx => ?_
    refine tb_step (P := FnRow K mg) (a := f48) hx ⟨_, s48, _, _, PySem.W.mg_of X G a48, fun_mk (st := s48) l48 c48 k48, sc48, rfl, rfl, ln3 fun _ _ _ => rfl⟩ fun hx => ?_
    refine tb_step (P := FnRow K mg) (a := f49) hx ⟨_, s49, _, _, PySem.W.mg_of X G a49, fun_mk (st := s49) l49 c49 k49, sc49, rfl, rfl, ln3 fun _ _ _ => rfl⟩ fun hx => ?_
    refine tb_step (P := FnRow K mg) (a := f54) hx ⟨_, s54, _, _, PySem.W.mg_of X G a54, fun_mk (st := s54) l54 c54 k54, sc54, rfl, rfl, ln5 fun _ _ _ _ _ => rfl⟩ fun hx => ?_
    refine tb_step (P := FnRow K mg) (a := f61) hx ⟨_, s61, _, _, PySem.W.mg_of X G a61, fun_mk (st := s61) l61 c61 k61, sc61, rfl, rfl, ln3 fun _ _ _ => rfl⟩ fun hx => ?_
    refine tb_step (P := FnRow K mg) (a := f62) hx ⟨_, s62, _, _, PySem.W.mg_of X G a62, fun_mk (st := s62) l62 c62 k62, sc62, rfl, rfl, ln4 fun _ _ _ _ => rfl⟩ fun hx => ?_
    refine tb_step (P := FnRow K mg) (a := f64) hx ⟨_, s64, _, _, PySem.W.mg_of X G a64, fun_mk (st := s64) l64 c64 k64, sc64, rfl, rfl, ln2 fun _ _ => rfl⟩ fun hx => ?_
    refine tb_step (P := FnRow K mg) (a := f65) hx ⟨_, s65, _, _, PySem.W.mg_of X G a65, fun_mk (st := s65) l65 c65 k65, sc65, rfl, rfl, ln1 fun _ => rfl⟩ fun hx => ?_
    refine tb_step (P := FnRow K mg) (a := f66) hx ⟨_, s66, _, _, PySem.W.mg_of X G a66, fun_mk (st := s66) l66 c66 k66, sc66, rfl, rfl, ln1 fun _ => rfl⟩ fun hx => ?_
    refine tb_step (P := FnRow K mg) (a := f67) hx ⟨_, s67, _, _, PySem.W.mg_of X G a67, fun_mk (st := s67) l67 c67 k67, sc67, rfl, rfl, ln3 fun _ _ _ => rfl⟩ fun hx => ?_
    refine tb_step (P := FnRow K mg) (a := f68) hx ⟨_, s68, _, _, PySem.W.mg_of X G a68, fun_mk (st := s68) l68 c68 k68, sc68, rfl, rfl, ln3 fun _ _ _ => rfl⟩ fun hx => ?_
    refine tb_step (P := FnRow K mg) (a := f69) hx ⟨_, s69, _, _, PySem.W.mg_of X G a69, fun_mk (st := s69) l69 c69 k69, sc69, rfl, rfl, ln2 fun _ _ => rfl⟩ fun hx => ?_
    refine tb_step (P := FnRow K mg) (a := f71) hx ⟨_, s71, _, _, PySem.W.mg_of X G a71, fun_mk (st := s71) l71 c71 k71, sc71, rfl, rfl, ln1 fun _ => rfl⟩ fun hx => ?_
    refine tb_step (P := FnRow K mg) (a := f72) hx ⟨_, s72, _, _, PySem.W.mg_of X G a72, fun_mk (st := s72) l72 c72 k72, sc72, rfl, rfl, ln1 fun _ => rfl⟩ fun hx => ?_
    refine tb_step (P := FnRow K mg) (a := f73) hx ⟨_, s73, _, _, PySem.W.mg_of X G a73, fun_mk (st := s73) l73 c73 k73, sc73, rfl, rfl, ln2 fun _ _ => rfl⟩ fun hx => ?_
    refine tb_step (P := FnRow K mg) (a := f74) hx ⟨_, s74, _, _, PySem.W.mg_of X G a74, fun_mk (st := s74) l74 c74 k74, sc74, rfl, rfl, ln2 fun _ _ => rfl⟩ fun hx => ?_
    refine tb_step (P := FnRow K mg) (a := f75) hx ⟨_, s75, _, _, PySem.W.mg_of X G a75, fun_mk (st := s75) l75 c75 k75, sc75, rfl, rfl, ln2 fun _ _ => rfl⟩ fun hx => ?_
    refine tb_step (P := FnRow K mg) (a := f76) hx ⟨_, s76, _, _, PySem.W.mg_of X G a76, fun_mk (st := s76) l76 c76 k76, sc76, rfl, rfl, ln2 fun _ _ => rfl⟩ fun hx => ?_
    refine tb_step (P := FnRow K mg) (a := f77) hx ⟨_, s77, _, _, PySem.W.mg_of X G a77, fun_mk (st := s77) l77 c77 k77, sc77, rfl, rfl, ln2 fun _ _ => rfl⟩ fun hx => ?_
    refine tb_step (P := FnRow K mg) (a := f79) hx ⟨_, s79, _, _, PySem.W.mg_of X G a79, fun_mk (st := s79) l79 c79 k79, sc79, rfl, rfl, ln2 fun _ _ => rfl⟩ fun hx => ?_
    refine tb_step (P := FnRow K mg) (a := f80) hx ⟨_, s80, _, _, PySem.W.mg_of X G a80, fun_mk (st := s80) l80 c80 k80, sc80, rfl, rfl, ln3 fun _ _ _ => rfl⟩ fun hx => ?_
    refine tb_step (P := FnRow K mg) (a := f81) hx ⟨_, s81, _, _, PySem.W.mg_of X G a81, fun_mk (st := s81) l81 c81 k81, sc81, rfl, rfl, ln3 fun _ _ _ => rfl⟩ fun hx => ?_
    refine tb_step (P := FnRow K mg) (a := f82) hx ⟨_, s82, _, _, PySem.W.mg_of X G a82, fun_mk (st := s82) l82 c82 k82, sc82, rfl, rfl, ln3 fun _ _ _ => rfl⟩ fun hx => ?_
    refine tb_step (P := FnRow K mg) (a := f83) hx ⟨_, s83, _, _, PySem.W.mg_of X G a83, fun_mk (st := s83) l83 c83 k83, sc83, rfl, rfl, ln4 fun _ _ _ _ => rfl⟩ fun hx => ?_
    refine tb_step (P := FnRow K mg) (a := f84) hx ⟨_, s84, _, _, PySem.W.mg_of X G a84, fun_mk (st := s84) l84 c84 k84, sc84, rfl, rfl, ln4 fun _ _ _ _ => rfl⟩ fun hx => ?_
    refine tb_step (P := FnRow K mg) (a := f86) hx ⟨_, s86, _, _, PySem.W.mg_of X G a86, fun_mk (st := s86) l86 c86 k86, sc86, rfl, rfl, ln2 fun _ _ => rfl⟩ fun hx => ?_
    refine tb_step (P := FnRow K mg) (a := f87) hx ⟨_, s87, _, _, PySem.W.mg_of X G a87, fun_mk (st := s87) l87 c87 k87, sc87, rfl, rfl, ln2 fun _ _ => rfl⟩ fun hx => ?_
    refine tb_step (P := FnRow K mg) (a := f88) hx ⟨_, s88, _, _, PySem.W.mg_of X G a88, fun_mk (st := s88) l88 c88 k88, sc88, rfl, rfl, ln3 fun _ _ _ => rfl⟩ fun hx => ?_
    refine tb_step (P := FnRow K mg) (a := f89) hx ⟨_, s89, _, _, PySem.W.mg_of X G a89, fun_mk (st := s89) l89 c89 k89, sc89, rfl, rfl, ln1 fun _ => rfl⟩ fun hx => ?_
    refine tb_step (P := FnRow K mg) (a := f90) hx ⟨_, s90, _, _, PySem.W.mg_of X G a90, fun_mk (st := s90) l90 c90 k90, sc90, rfl, rfl, ln2 fun _ _ => rfl⟩ fun hx => ?_
    refine tb_step (P := FnRow K mg) (a := f91) hx ⟨_, s91, _, _, PySem.W.mg_of X G a91, fun_mk (st := s91) l91 c91 k91, sc91, rfl, rfl, ln2 fun _ _ => rfl⟩ fun hx => ?_
    refine tb_step (P := FnRow K mg) (a := f92) hx ⟨_, s92, _, _, PySem.W.mg_of X G a92, fun_mk (st := s92) l92 c92 k92, sc92, rfl, rfl, ln2 fun _ _ => rfl⟩ fun hx => ?_
    refine tb_step (P := FnRow K mg) (a := f93) hx ⟨_, s93, _, _, PySem.W.mg_of X G a93, fun_mk (st := s93) l93 c93 k93, sc93, rfl, rfl, ln2 fun _ _ => rfl⟩ fun hx => ?_
    refine tb_step (P := FnRow K mg) (a := f94) hx ⟨_, s94, _, _, PySem.W.mg_of X G a94, fun_mk (st := s94) l94 c94 k94, sc94, rfl, rfl, ln1 fun _ => rfl⟩ fun hx => ?_
    refine tb_step (P := FnRow K mg) (a := f95) hx ⟨_, s95, _, _, PySem.W.mg_of X G a95, fun_mk (st := s95) l95 c95 k95, sc95, rfl, rfl, ln3 fun _ _ _ => rfl⟩ fun hx => ?_
    refine tb_step (P := FnRow K mg) (a := f96) hx ⟨_, s96, _, _, PySem.W.mg_of X G a96, fun_mk (st := s96) l96 c96 k96, sc96, rfl, rfl, ln2 fun _ _ => rfl⟩ fun hx => ?_
    refine tb_step (P := FnRow K mg) (a := f97) hx ⟨_, s97, _, _, PySem.W.mg_of X G a97, fun_mk (st := s97) l97 c97 k97, sc97, rfl, rfl, ln2 fun _ _ => rfl⟩ fun hx => ?_
    refine tb_step (P := FnRow K mg) (a := f98) hx ⟨_, s98, _, _, PySem.W.mg_of X G a98, fun_mk (st := s98) l98 c98 k98, sc98, rfl, rfl, ln1 fun _ => rfl⟩ fun hx => ?_
    refine tb_step (P := FnRow K mg) (a := f99) hx ⟨_, s99, _, _, PySem.W.mg_of X G a99, fun_mk (st := s99) l99 c99 k99, sc99, rfl, rfl, ln2 fun _ _ => rfl⟩ fun hx => ?_
    refine tb_step (P := FnRow K mg) (a := f100) hx ⟨_, s100, _, _, PySem.W.mg_of X G a100, fun_mk (st := s100) l100 c100 k100, sc100, rfl, rfl, ln3 fun _ _ _ => rfl⟩ fun hx => ?_
    refine tb_step (P := FnRow K mg) (a := f101) hx ⟨_, s101, _, _, PySem.W.mg_of X G a101, fun_mk (st := s101) l101 c101 k101, sc101, rfl, rfl, ln1 fun _ => rfl⟩ fun hx => ?_
    cases hx
  · show ConRow K mg x d
    change con x = some d at hx
    unfold con at hx
    refine tb_step (P := ConRow K mg) hx (by obtain ⟨v, r1, r2⟩ := rdV_ok 60 tr0; exact ⟨_, v, PySem.W.mg_of X G t0, r1, r2⟩) fun hx => ?_
    refine tb_step (P := ConRow K mg) hx (by obtain ⟨v, r1, r2⟩ := rdV_ok 60 tr1; exact ⟨_, v, PySem.W.mg_of X G t1, r1, r2⟩) fun hx => ?_
    refine tb_step (P := ConRow K mg) hx ⟨_, .int (0), PySem.W.mg_of X G n0, ⟨_, rfl⟩, fun _ _ => .int _⟩ fun hx => ?_
    refine tb_step (P := ConRow K mg) hx ⟨_, .int (1), PySem.W.mg_of X G n1, ⟨_, rfl⟩, fun _ _ => .int _⟩ fun hx => ?_
    refine tb_step (P := ConRow K mg) hx ⟨_, .int (2), PySem.W.mg_of X G n2, ⟨_, rfl⟩, fun _ _ => .int _⟩ fun hx => ?_
    refine tb_step (P := ConRow K mg) hx ⟨_, .int (3), PySem.W.mg_of X G n3, ⟨_, rfl⟩, fun _ _ => .int _⟩ fun hx => ?_
    refine tb_step (P := ConRow K mg) hx ⟨_, .int (4), PySem.W.mg_of X G n4, ⟨_, rfl⟩, fun _ _ => .int _⟩ fun hx => ?_
    refine tb_step (P := ConRow K mg) hx ⟨_, .int (-1), PySem.W.mg_of X G n5, ⟨_, rfl⟩, fun _ _ => .int _⟩ fun hx => ?_
    refine tb_step (P := ConRow K mg) hx ⟨_, .int (-1), PySem.W.mg_of X G n6, ⟨_, rfl⟩, fun _ _ => .int _⟩ fun hx => ?_
    refine tb_step (P := ConRow K mg) hx ⟨_, .int (0), PySem.W.mg_of X G n7, ⟨_, rfl⟩, fun _ _ => .int _⟩ fun hx => ?_
    refine tb_step (P := ConRow K mg) hx ⟨_, .int (2), PySem.W.mg_of X G n8, ⟨_, rfl⟩, fun _ _ => .int _⟩ fun hx => ?_
    refine tb_step (P := ConRow K mg) hx ⟨_, .int (3), PySem.W.mg_of X G n9, ⟨_, rfl⟩, fun _ _ => .int _⟩ fun hx => ?_
    refine tb_step (P := ConRow K mg) hx ⟨_, .int (0), PySem.W.mg_of X G n10, ⟨_, rfl⟩, fun _ _ => .int _⟩ fun hx => ?_
    refine tb_step (P := ConRow K mg) hx ⟨_, .int (1), PySem.W.mg_of X G n11, ⟨_, rfl⟩, fun _ _ => .int _⟩ fun hx => ?_
    refine tb_step (P := ConRow K mg) hx ⟨_, .int (2), PySem.W.mg_of X G n12, ⟨_, rfl⟩, fun _ _ => .int _⟩ fun hx => ?_
    cases hx
  · simp only [bltNames, List.mem_cons, List.mem_nil_iff, or_false] at hb
    rcases hb with rfl | rfl | rfl | rfl | rfl | rfl | rfl | rfl | rfl | rfl | rfl | rfl | rfl | rfl | rfl | rfl | rfl
    · exact PySem.W.mg_none_of X G z0
    · exact PySem.W.mg_none_of X G z1
    · exact PySem.W.mg_none_of X G z2
    · exact PySem.W.mg_none_of X G z3
    · exact PySem.W.mg_none_of X G z4
    · exact PySem.W.mg_none_of X G z5
    · exact PySem.W.mg_none_of X G z6
    · exact PySem.W.mg_none_of X G z7
    · exact PySem.W.mg_none_of X G z8
    · exact PySem.W.mg_none_of X G z9
    · exact PySem.W.mg_none_of X G z10
    · exact PySem.W.mg_none_of X G z11
    · exact PySem.W.mg_none_of X G z12
    · exact PySem.W.mg_none_of X G z13
    · exact PySem.W.mg_none_of X G z14
    · exact PySem.W.mg_none_of X G z15
    · exact PySem.W.mg_none_of X G z16
  · cases hx
  · change fld c f = true at hx
    unfold fld at hx
    simp only [Bool.or_eq_true, Bool.and_eq_true, beq_iff_eq] at hx
    rcases hx with ⟨rfl, rfl⟩
    · exact ⟨_, C24a, ⟨C24b, C24c, C24d, C24e⟩, C24f⟩
  · change tbm c m = some I at hx
    unfold tbm at hx
    split at hx
    · rename_i e; rw [Bool.and_eq_true] at e; rw [eq_of_beq e.1, eq_of_beq e.2]; cases hx; exact ⟨_, s24_1, _, _, _, C24a, ⟨C24b, C24c, C24d, C24e⟩, ⟨a24_1, b24_1, k24_1⟩, fun_mk (st := s24_1) l24_1 c24_1 k24_1, sc24_1, rfl, rfl, ln1 fun _ => rfl⟩
    · cases hx
  · change mkr c = some f at hx
    unfold mkr at hx
    split at hx
    · rename_i e; rw [eq_of_beq e]; cases hx; exact ⟨_, _, _, ["self", "form"], C24a, ⟨C24m, a24_0, b24_0, C24k⟩, PySem.W.mg_of X G C24a, .all (ln2 fun _ _ => rfl), fun P w base => init_ok (fun_mk (st := inCls (top 24) 0) l24_0 c24_0 k24_0) ⟨rfl, rfl, rfl, by decide +kernel, by decide +kernel, by decide +kernel, by decide +kernel⟩ rfl (.inl (by decide +kernel)) (.inl (by decide +kernel)) ⟨C24b, C24c, C24d, C24e⟩ C24f (by decide) (by decide)⟩
    · cases hx
noncomputable def Gk (k : Nat) : Gb := GkN Tt k
noncomputable def metK (k : Nat) : Str → Str → Option (List Str × Fn) := fun c m => (match tbm c m with | some I => some (I.ps, runF (Gk k) fuel I) | none => none)
theorem lenN45 : f45.N.length = 5 := by decide +kernel
noncomputable def b45 (k : Nat) : SM :=
 (seqS (asgS (calM (runF (Gk k) fuel f43) (dCons (vr 0) (dCons (vr 1) (dCons (vr 2) (DM.ret []))))) (gSet 3))
 (seqS (ifS (boolD (dop (isD false) (vr 3) (DM.ret .non)))
 (seqS (retS (lstM (DM.ret [])))
  SM.nxt)
 SM.nxt)
 (seqS (asgS (objM (metK k) "told" (vr 3) (DM.ret [])) (gSet 4))
 (seqS (ifS (boolD (dop eqD (dop ixD (vr 4) (DM.ret (.int 0))) (DM.ret (.str "choose"))))
 (seqS (retS (listRngM (dop ixD (vr 4) (DM.ret (.int 2)))))
  SM.nxt)
 SM.nxt)
 (seqS (ifS (boolD (dop eqD (dop ixD (vr 4) (DM.ret (.int 0))) (DM.ret (.str "pick"))))
 (seqS (retS (compM (srcM DM.bad) [none, none] (gSet 1) (DM.ret true) (tupM (dCons (vr 1) (DM.ret [])))))
  SM.nxt)
 SM.nxt)
 (seqS (ifS (boolD (dop eqD (dop ixD (vr 4) (DM.ret (.int 0))) (DM.ret (.str "out"))))
 (seqS (retS DM.bad)
  SM.nxt)
 SM.nxt)
 (seqS (ifS (boolD (dop eqD (dop ixD (vr 4) (DM.ret (.int 0))) (DM.ret (.str "take"))))
 (seqS (retS (calM (runF (Gk k) fuel f48) (dCons (vr 1) (dCons (vr 2) (dCons (vr 4) (DM.ret []))))))
  SM.nxt)
 SM.nxt)
 (seqS (ifS (dAndT (boolD (dop eqD (dop ixD (vr 4) (DM.ret (.int 0))) (DM.ret (.str "send")))) (dNotT (truM (calM (runF (Gk k) fuel f47) (dCons (vr 0) (dCons (vr 1) (dCons (vr 2) (dCons (vr 4) (DM.ret [])))))))))
 (seqS (retS (lstM (DM.ret [])))
  SM.nxt)
 SM.nxt)
 (seqS (retS (lstM (dCons (DM.ret (.int 0)) (DM.ret []))))
 SM.nxt)))))))))
theorem b45_eq (k : Nat) : iSs (Gk (k + 1)) fuel { N := f45.N, scope := f45.scope, own := fun _ => true } f45.body = b45 k := by kernel_rfl
theorem lenN48 : f48.N.length = 7 := by decide +kernel
noncomputable def b48 (k : Nat) : SM :=
 (seqS (asgS (compM (srcM (dop ixD (vr 2) (DM.ret (.int 2)))) [none, none] (gSet 1) (DM.ret true) (dop ixD (vr 1) (DM.ret (.int 0)))) (gSet 3))
 (seqS (asgS (lstM (DM.ret [])) (gSet 4))
 (seqS (ifS (dAndT (boolD (dop (inD false) (DM.ret (.int 0)) (vr 3))) (truM (dop ixD (calM (runF (Gk k) fuel f37) (dCons (vr 0) (dCons (vr 1) (DM.ret [])))) (DM.ret (.int (4))))))
 (seqS (dropS (methM "list" appendD (vr 4) (dCons (DM.ret (.tup [(.int (-1)), (.int (0))])) (DM.ret []))))
  SM.nxt)
 SM.nxt)
 (seqS (forS (srcM (calM (runF (Gk k) fuel f49) (dCons (vr 0) (dCons (vr 1) (dCons (dop ixD (vr 2) (DM.ret (.int 1))) (DM.ret [])))))) (gSet 5)
 (seqS (asgS (calM (runF (Gk k) fuel f38) (dCons (vr 0) (dCons (vr 5) (dCons (vr 1) (DM.ret []))))) (gSet 6))
  (seqS (ifS (dAndT (boolD (dop gtD (calM lenD (dCons (vr 6) (DM.ret []))) (DM.ret (.int 0)))) (boolD (dop (inD false) (dop ixD (dop ixD (vr 6) (DM.ret (.int 0))) (DM.ret (.int 0))) (vr 3))))
  (seqS (dropS (methM "list" appendD (vr 4) (dCons (tupM (dCons (vr 5) (dCons (dop ixD (dop ixD (vr 6) (DM.ret (.int 0))) (DM.ret (.int 0))) (DM.ret [])))) (DM.ret []))))
   SM.nxt)
  SM.nxt)
  SM.nxt)))
 (seqS (retS (vr 4))
 SM.nxt)))))
theorem b48_eq (k : Nat) : iSs (Gk (k + 1)) fuel { N := f48.N, scope := f48.scope, own := fun _ => true } f48.body = b48 k := by kernel_rfl
theorem lenN54 : f54.N.length = 5 := by decide +kernel
noncomputable def b54 (k : Nat) : SM :=
 (seqS (ifS (boolD (dop eqD (dop ixD (vr 3) (DM.ret (.int 0))) (DM.ret (.str "send"))))
 (seqS (retS (calM (runF (Gk k) fuel f61) (dCons (vr 1) (dCons (vr 2) (dCons (vr 3) (DM.ret []))))))
  SM.nxt)
 SM.nxt)
 (seqS (ifS (boolD (dop eqD (dop ixD (vr 3) (DM.ret (.int 0))) (DM.ret (.str "take"))))
 (seqS (retS (calM (runF (Gk k) fuel f62) (dCons (vr 1) (dCons (vr 2) (dCons (vr 3) (dCons (vr 4) (DM.ret [])))))))
  SM.nxt)
 SM.nxt)
 (seqS (retS (calM (runF (Gk k) fuel f39) (dCons (vr 1) (dCons (vr 2) (dCons DM.bad (DM.ret []))))))
 SM.nxt)))
theorem b54_eq (k : Nat) : iSs (Gk (k + 1)) fuel { N := f54.N, scope := f54.scope, own := fun _ => true } f54.body = b54 k := by kernel_rfl
theorem lenN62 : f62.N.length = 8 := by decide +kernel
noncomputable def b62 (k : Nat) : SM :=
 (seqS (asgS (dop ixD (compM (srcM (dop ixD (vr 2) (DM.ret (.int 2)))) [none, none, some 3] (gSet 1) (boolD (dop eqD (dop ixD (vr 1) (DM.ret (.int 0))) (dop ixD (vr 2) (DM.ret (.int 1))))) (vr 1)) (DM.ret (.int 0))) (gSet 4))
 (seqS (asgS (calM (runF (Gk k) fuel f21) (dCons (calM (runF (Gk k) fuel f37) (dCons (vr 0) (dCons (vr 1) (DM.ret [])))) (dCons (dop ixD (vr 4) (DM.ret (.int 4))) (DM.ret [])))) (gSet 5))
 (seqS (ifS (boolD (dop eqD (vr 3) (DM.ret (.tup [(.int (-1)), (.int (0))]))))
 (seqS (retS (calM (runF (Gk k) fuel f39) (dCons (vr 0) (dCons (vr 1) (dCons (calM (runF (Gk k) fuel f20) (dCons (vr 5) (dCons (DM.ret (.bl false)) (DM.ret [])))) (DM.ret []))))))
  SM.nxt)
 SM.nxt)
 (seqS (asgS (dop ixD (vr 3) (DM.ret (.int 0))) (gSet 6))
 (seqS (asgS (calM (runF (Gk k) fuel f38) (dCons (vr 0) (dCons (vr 6) (dCons (vr 1) (DM.ret []))))) (gSet 7))
 (seqS (asgS (calM (runF (Gk k) fuel f17) (dCons (vr 5) (dCons (dop ixD (vr 4) (DM.ret (.int 1))) (dCons (dop ixD (dop ixD (vr 7) (DM.ret (.int 0))) (DM.ret (.int 1))) (DM.ret []))))) (gSet 5))
 (seqS (asgS (calM (runF (Gk k) fuel f18) (dCons (vr 5) (dCons (dop ixD (vr 4) (DM.ret (.int 2))) (dCons (dop ixD (dop ixD (vr 7) (DM.ret (.int 0))) (DM.ret (.int 2))) (DM.ret []))))) (gSet 5))
 (seqS (asgS (calM (runF (Gk k) fuel f18) (dCons (vr 5) (dCons (dop ixD (vr 4) (DM.ret (.int 3))) (dCons (vr 6) (DM.ret []))))) (gSet 5))
 (seqS (retS (calM (runF (Gk k) fuel f39) (dCons (calM (runF (Gk k) fuel f40) (dCons (vr 0) (dCons (vr 6) (dCons (vr 1) (dCons (dSl (vr 7) (some (DM.ret (.int 1))) none) (DM.ret [])))))) (dCons (vr 1) (dCons (vr 5) (DM.ret []))))))
 SM.nxt)))))))))
theorem b62_eq (k : Nat) : iSs (Gk (k + 1)) fuel { N := f62.N, scope := f62.scope, own := fun _ => true } f62.body = b62 k := by kernel_rfl
theorem lenN64 : f64.N.length = 5 := by decide +kernel
noncomputable def b64 (k : Nat) : SM :=
 (seqS (asgS (lstM (DM.ret [])) (gSet 2))
 (seqS (forS (srcM (calM (runF (Gk k) fuel f36) (dCons (vr 1) (DM.ret [])))) (gSet 3)
 (seqS (forS (srcM (calM (runF (Gk k) fuel f45) (dCons (vr 0) (dCons (vr 1) (dCons (vr 3) (DM.ret [])))))) (gSet 4)
  (seqS (dropS (methM "list" appendD (vr 2) (dCons (tupM (dCons (DM.ret (.str "do")) (dCons (vr 3) (dCons (vr 4) (DM.ret []))))) (DM.ret []))))
   SM.nxt))
  SM.nxt))
 (seqS (retS (dop addD (dop addD (vr 2) (calM (runF (Gk k) fuel f65) (dCons (vr 1) (DM.ret [])))) (calM (runF (Gk k) fuel f66) (dCons (vr 1) (DM.ret [])))))
 SM.nxt)))
theorem b64_eq (k : Nat) : iSs (Gk (k + 1)) fuel { N := f64.N, scope := f64.scope, own := fun _ => true } f64.body = b64 k := by kernel_rfl
theorem lenN65 : f65.N.length = 4 := by decide +kernel
noncomputable def b65 (k : Nat) : SM :=
 (seqS (asgS (lstM (DM.ret [])) (gSet 1))
 (seqS (ifS (boolD (dop eqD (dop ixD (dop ixD (vr 0) (DM.ret (.int (2)))) (DM.ret (.int 0))) (DM.ret (.int 0))))
 (seqS (retS (vr 1))
  SM.nxt)
 SM.nxt)
 (seqS (forS (srcM (calM (runF (Gk k) fuel f36) (dCons (vr 0) (DM.ret [])))) (gSet 2)
 (seqS (forS (srcM (calM (runF (Gk k) fuel f36) (dCons (vr 0) (DM.ret [])))) (gSet 3)
  (seqS (ifS (boolD (dop gtD (calM lenD (dCons (calM (runF (Gk k) fuel f38) (dCons (vr 0) (dCons (vr 2) (dCons (vr 3) (DM.ret []))))) (DM.ret []))) (DM.ret (.int 0))))
   (seqS (dropS (methM "list" appendD (vr 1) (dCons (tupM (dCons (DM.ret (.str "lose")) (dCons (vr 2) (dCons (vr 3) (DM.ret []))))) (DM.ret []))))
    SM.nxt)
   SM.nxt)
   SM.nxt))
  SM.nxt))
 (seqS (retS (vr 1))
 SM.nxt))))
theorem b65_eq (k : Nat) : iSs (Gk (k + 1)) fuel { N := f65.N, scope := f65.scope, own := fun _ => true } f65.body = b65 k := by kernel_rfl
theorem lenN66 : f66.N.length = 1 := by decide +kernel
noncomputable def b66 (k : Nat) : SM :=
 (seqS (ifS (boolD (dop eqD (dop ixD (dop ixD (vr 0) (DM.ret (.int (2)))) (DM.ret (.int 1))) (DM.ret (.int 0))))
 (seqS (retS (lstM (DM.ret [])))
  SM.nxt)
 SM.nxt)
 (seqS (retS (compM (srcM (calM (runF (Gk k) fuel f36) (dCons (vr 0) (DM.ret [])))) [none, none, some 0] (gSet 1) (dNotT (truM (calM (runF (Gk k) fuel f15) (dCons (calM (runF (Gk k) fuel f37) (dCons (vr 2) (dCons (vr 1) (DM.ret [])))) (DM.ret []))))) (tupM (dCons (DM.ret (.str "fall")) (dCons (vr 1) (DM.ret []))))))
 SM.nxt))
theorem b66_eq (k : Nat) : iSs (Gk (k + 1)) fuel { N := f66.N, scope := f66.scope, own := fun _ => true } f66.body = b66 k := by kernel_rfl
theorem lenN67 : f67.N.length = 4 := by decide +kernel
noncomputable def b67 (k : Nat) : SM :=
 (seqS (ifS (boolD (dop eqD (dop ixD (vr 2) (DM.ret (.int 0))) (DM.ret (.str "lose"))))
 (seqS (retS (calM (runF (Gk k) fuel f68) (dCons (vr 1) (dCons (dop ixD (vr 2) (DM.ret (.int 1))) (dCons (dop ixD (vr 2) (DM.ret (.int 2))) (DM.ret []))))))
  SM.nxt)
 SM.nxt)
 (seqS (ifS (boolD (dop eqD (dop ixD (vr 2) (DM.ret (.int 0))) (DM.ret (.str "fall"))))
 (seqS (retS (calM (runF (Gk k) fuel f69) (dCons (vr 1) (dCons (dop ixD (vr 2) (DM.ret (.int 1))) (DM.ret [])))))
  SM.nxt)
 SM.nxt)
 (seqS (asgS (objM (metK k) "told" (calM (runF (Gk k) fuel f43) (dCons (vr 0) (dCons (vr 1) (dCons (dop ixD (vr 2) (DM.ret (.int 1))) (DM.ret []))))) (DM.ret [])) (gSet 3))
 (seqS (retS (calM (runF (Gk k) fuel f54) (dCons (vr 0) (dCons (vr 1) (dCons (dop ixD (vr 2) (DM.ret (.int 1))) (dCons (vr 3) (dCons (dop ixD (vr 2) (DM.ret (.int 2))) (DM.ret []))))))))
 SM.nxt))))
theorem b67_eq (k : Nat) : iSs (Gk (k + 1)) fuel { N := f67.N, scope := f67.scope, own := fun _ => true } f67.body = b67 k := by kernel_rfl
theorem lenN79 : f79.N.length = 4 := by decide +kernel
noncomputable def b79 (k : Nat) : SM :=
 (seqS (asgS (lstM (DM.ret [])) (gSet 2))
 (seqS (forS (srcM (calM (runF (Gk k) fuel f64) (dCons (vr 0) (dCons (vr 1) (DM.ret []))))) (gSet 3)
 (seqS (dropS (methM "list" extendD (vr 2) (dCons (compM (srcM (calM (runF (Gk k) fuel f80) (dCons (vr 0) (dCons (vr 1) (dCons (vr 3) (DM.ret [])))))) [none, none, some 3] (gSet 1) (DM.ret true) (tupM (dCons (vr 2) (dCons (vr 1) (DM.ret []))))) (DM.ret []))))
  SM.nxt))
 (seqS (retS (vr 2))
 SM.nxt)))
theorem b79_eq (k : Nat) : iSs (Gk (k + 1)) fuel { N := f79.N, scope := f79.scope, own := fun _ => true } f79.body = b79 k := by kernel_rfl
theorem lenN80 : f80.N.length = 7 := by decide +kernel
noncomputable def b80 (k : Nat) : SM :=
 (seqS (ifS (boolD (dop eqD (dop ixD (vr 2) (DM.ret (.int 0))) (DM.ret (.str "do"))))
 (seqS (asgS (objM (metK k) "told" (calM (runF (Gk k) fuel f43) (dCons (vr 0) (dCons (vr 1) (dCons (dop ixD (vr 2) (DM.ret (.int 1))) (DM.ret []))))) (DM.ret [])) (gSet 3))
  (seqS (ifS (dOrT (boolD (dop (inD false) (dop ixD (vr 3) (DM.ret (.int 0))) (tupM (dCons (DM.ret (.str "less")) (dCons (DM.ret (.str "before")) (DM.ret [])))))) (boolD (dop (inD false) (dop ixD (vr 3) (DM.ret (.int 0))) (DM.ret (.tup [(.str "put"), (.str "copy"), (.str "raise"), (.str "sum"), (.str "choose")])))))
  (seqS (asgS (calM (runF (Gk k) fuel f81) (dCons (calM (runF (Gk k) fuel f37) (dCons (vr 1) (dCons (dop ixD (vr 2) (DM.ret (.int 1))) (DM.ret [])))) (dCons (vr 3) (dCons (dop ixD (vr 2) (DM.ret (.int 2))) (DM.ret []))))) (gSet 4))
   (seqS (retS (compM (srcM (vr 4)) [none, none, some 2, some 1] (gSet 1) (DM.ret true) (calM (runF (Gk k) fuel f39) (dCons (vr 3) (dCons (dop ixD (vr 2) (DM.ret (.int 1))) (dCons (vr 1) (DM.ret [])))))))
   SM.nxt))
  SM.nxt)
  SM.nxt))
 SM.nxt)
 (seqS (asgS (calM (runF (Gk k) fuel f67) (dCons (vr 0) (dCons (vr 1) (dCons (vr 2) (DM.ret []))))) (gSet 5))
 (seqS (ifS (boolD (dop eqD (dop ixD (vr 2) (DM.ret (.int 0))) (DM.ret (.str "fall"))))
 (seqS (asgS (calM (runF (Gk k) fuel f16) (dCons (calM (runF (Gk k) fuel f37) (dCons (vr 5) (dCons (dop ixD (vr 2) (DM.ret (.int 1))) (DM.ret [])))) (dCons (DM.ret (.int (1))) (dCons (tupM (dCons (calM (runF (Gk k) fuel f72) (dCons (DM.ret (.int 0)) (DM.ret []))) (dCons (calM (runF (Gk k) fuel f72) (dCons (DM.ret (.int 0)) (DM.ret []))) (dCons (calM (runF (Gk k) fuel f72) (dCons (DM.ret (.int 0)) (DM.ret []))) (DM.ret []))))) (DM.ret []))))) (gSet 6))
  (seqS (retS (lstM (dCons (calM (runF (Gk k) fuel f39) (dCons (vr 5) (dCons (dop ixD (vr 2) (DM.ret (.int 1))) (dCons (vr 6) (DM.ret []))))) (DM.ret []))))
  SM.nxt))
 SM.nxt)
 (seqS (retS (lstM (dCons (vr 5) (DM.ret []))))
 SM.nxt))))
theorem b80_eq (k : Nat) : iSs (Gk (k + 1)) fuel { N := f80.N, scope := f80.scope, own := fun _ => true } f80.body = b80 k := by kernel_rfl
theorem lenN81 : f81.N.length = 3 := by decide +kernel
noncomputable def b81 (k : Nat) : SM :=
 (seqS (ifS (boolD (dop eqD (dop ixD (vr 1) (DM.ret (.int 0))) (DM.ret (.str "less"))))
 (seqS (retS (calM (runF (Gk k) fuel f83) (dCons (vr 0) (dCons (dop ixD (vr 1) (DM.ret (.int 1))) (dCons (dop ixD (vr 1) (DM.ret (.int 2))) (dCons (dop ixD (vr 1) (DM.ret (.int 3))) (DM.ret [])))))))
  SM.nxt)
 SM.nxt)
 (seqS (ifS (boolD (dop eqD (dop ixD (vr 1) (DM.ret (.int 0))) (DM.ret (.str "before"))))
 (seqS (retS (calM (runF (Gk k) fuel f84) (dCons (vr 0) (dCons (dop ixD (vr 1) (DM.ret (.int 1))) (dCons (dop ixD (vr 1) (DM.ret (.int 2))) (dCons (dop ixD (vr 1) (DM.ret (.int 3))) (DM.ret [])))))))
  SM.nxt)
 SM.nxt)
 (seqS (retS (lstM (dCons (calM (runF (Gk k) fuel f22) (dCons (calM (runF (Gk k) fuel f17) (dCons (vr 0) (dCons (dop ixD (vr 1) (DM.ret (.int 1))) (dCons (calM (runF (Gk k) fuel f82) (dCons (dop ixD (vr 0) (DM.ret (.int (1)))) (dCons (vr 1) (dCons (vr 2) (DM.ret []))))) (DM.ret []))))) (DM.ret []))) (DM.ret []))))
 SM.nxt)))
theorem b81_eq (k : Nat) : iSs (Gk (k + 1)) fuel { N := f81.N, scope := f81.scope, own := fun _ => true } f81.body = b81 k := by kernel_rfl
theorem lenN82 : f82.N.length = 4 := by decide +kernel
noncomputable def b82 (k : Nat) : SM :=
 (seqS (asgS (dop ixD (vr 1) (DM.ret (.int 0))) (gSet 3))
 (seqS (ifS (boolD (dop eqD (vr 3) (DM.ret (.str "put"))))
 (seqS (retS (calM (runF (Gk k) fuel f72) (dCons (dop ixD (vr 1) (DM.ret (.int 2))) (DM.ret []))))
  SM.nxt)
 SM.nxt)
 (seqS (ifS (boolD (dop eqD (vr 3) (DM.ret (.str "copy"))))
 (seqS (retS (dop ixD (vr 0) (dop ixD (vr 1) (DM.ret (.int 2)))))
  SM.nxt)
 SM.nxt)
 (seqS (ifS (boolD (dop eqD (vr 3) (DM.ret (.str "raise"))))
 (seqS (retS (calM (runF (Gk k) fuel f77) (dCons (dop ixD (vr 0) (dop ixD (vr 1) (DM.ret (.int 1)))) (dCons (calM (runF (Gk k) fuel f72) (dCons (dop ixD (vr 1) (DM.ret (.int 2))) (DM.ret []))) (DM.ret [])))))
  SM.nxt)
 SM.nxt)
 (seqS (ifS (boolD (dop eqD (vr 3) (DM.ret (.str "sum"))))
 (seqS (retS (calM (runF (Gk k) fuel f77) (dCons (dop ixD (vr 0) (dop ixD (vr 1) (DM.ret (.int 1)))) (dCons (dop ixD (vr 0) (dop ixD (vr 1) (DM.ret (.int 2)))) (DM.ret [])))))
  SM.nxt)
 SM.nxt)
 (seqS (retS (calM (runF (Gk k) fuel f72) (dCons (vr 2) (DM.ret []))))
 SM.nxt))))))
theorem b82_eq (k : Nat) : iSs (Gk (k + 1)) fuel { N := f82.N, scope := f82.scope, own := fun _ => true } f82.body = b82 k := by kernel_rfl
theorem lenN83 : f83.N.length = 8 := by decide +kernel
noncomputable def b83 (k : Nat) : SM :=
 (seqS (asgS (dop ixD (dop ixD (vr 0) (DM.ret (.int (1)))) (vr 1)) (gSet 4))
 (seqS (asgS (lstM (DM.ret [])) (gSet 5))
 (seqS (asgS (calM (runF (Gk k) fuel f73) (dCons (vr 4) (dCons (tupM (dCons (DM.ret .non) (dCons (dop subD (vr 2) (DM.ret (.int 1))) (DM.ret [])))) (DM.ret [])))) (gSet 6))
 (seqS (ifS (dNotT (truM (calM (runF (Gk k) fuel f71) (dCons (vr 6) (DM.ret [])))))
 (seqS (dropS (methM "list" appendD (vr 5) (dCons (calM (runF (Gk k) fuel f21) (dCons (calM (runF (Gk k) fuel f17) (dCons (vr 0) (dCons (vr 1) (dCons (vr 6) (DM.ret []))))) (dCons (vr 3) (DM.ret [])))) (DM.ret []))))
  SM.nxt)
 SM.nxt)
 (seqS (asgS (calM (runF (Gk k) fuel f73) (dCons (vr 4) (dCons (tupM (dCons (vr 2) (dCons (DM.ret .non) (DM.ret [])))) (DM.ret [])))) (gSet 7))
 (seqS (ifS (dNotT (truM (calM (runF (Gk k) fuel f71) (dCons (vr 7) (DM.ret [])))))
 (seqS (dropS (methM "list" appendD (vr 5) (dCons (calM (runF (Gk k) fuel f22) (dCons (calM (runF (Gk k) fuel f17) (dCons (vr 0) (dCons (vr 1) (dCons (vr 7) (DM.ret []))))) (DM.ret []))) (DM.ret []))))
  SM.nxt)
 SM.nxt)
 (seqS (retS (vr 5))
 SM.nxt)))))))
theorem b83_eq (k : Nat) : iSs (Gk (k + 1)) fuel { N := f83.N, scope := f83.scope, own := fun _ => true } f83.body = b83 k := by kernel_rfl
theorem lenN84 : f84.N.length = 11 := by decide +kernel
noncomputable def b84 (k : Nat) : SM :=
 (seqS (ifS (boolD (dop eqD (vr 1) (vr 2)))
 (seqS (retS (lstM (dCons (calM (runF (Gk k) fuel f22) (dCons (vr 0) (DM.ret []))) (DM.ret []))))
  SM.nxt)
 SM.nxt)
 (seqS (asgS (dop ixD (dop ixD (vr 0) (DM.ret (.int (1)))) (vr 1)) (gSet 4))
 (seqS (asgS (dop ixD (dop ixD (vr 0) (DM.ret (.int (1)))) (vr 2)) (gSet 5))
 (seqS (asgS (lstM (DM.ret [])) (gSet 6))
 (seqS (asgS (calM (runF (Gk k) fuel f73) (dCons (vr 4) (dCons (tupM (dCons (DM.ret .non) (dCons (calM (runF (Gk k) fuel f76) (dCons (dop ixD (vr 5) (DM.ret (.int 1))) (dCons (negM (DM.ret (.int 1))) (DM.ret [])))) (DM.ret [])))) (DM.ret [])))) (gSet 7))
 (seqS (ifS (dNotT (truM (calM (runF (Gk k) fuel f71) (dCons (vr 7) (DM.ret [])))))
 (seqS (asgS (calM (runF (Gk k) fuel f73) (dCons (vr 5) (dCons (tupM (dCons (calM (runF (Gk k) fuel f76) (dCons (dop ixD (vr 4) (DM.ret (.int 0))) (dCons (DM.ret (.int 1)) (DM.ret [])))) (dCons (DM.ret .non) (DM.ret [])))) (DM.ret [])))) (gSet 8))
  (seqS (dropS (methM "list" appendD (vr 6) (dCons (calM (runF (Gk k) fuel f21) (dCons (calM (runF (Gk k) fuel f17) (dCons (calM (runF (Gk k) fuel f17) (dCons (vr 0) (dCons (vr 1) (dCons (vr 7) (DM.ret []))))) (dCons (vr 2) (dCons (vr 8) (DM.ret []))))) (dCons (vr 3) (DM.ret [])))) (DM.ret []))))
  SM.nxt))
 SM.nxt)
 (seqS (asgS (calM (runF (Gk k) fuel f73) (dCons (vr 4) (dCons (tupM (dCons (dop ixD (vr 5) (DM.ret (.int 0))) (dCons (DM.ret .non) (DM.ret [])))) (DM.ret [])))) (gSet 9))
 (seqS (ifS (dNotT (truM (calM (runF (Gk k) fuel f71) (dCons (vr 9) (DM.ret [])))))
 (seqS (asgS (calM (runF (Gk k) fuel f73) (dCons (vr 5) (dCons (tupM (dCons (DM.ret .non) (dCons (dop ixD (vr 4) (DM.ret (.int 1))) (DM.ret [])))) (DM.ret [])))) (gSet 10))
  (seqS (dropS (methM "list" appendD (vr 6) (dCons (calM (runF (Gk k) fuel f22) (dCons (calM (runF (Gk k) fuel f17) (dCons (calM (runF (Gk k) fuel f17) (dCons (vr 0) (dCons (vr 1) (dCons (vr 9) (DM.ret []))))) (dCons (vr 2) (dCons (vr 10) (DM.ret []))))) (DM.ret []))) (DM.ret []))))
  SM.nxt))
 SM.nxt)
 (seqS (retS (vr 6))
 SM.nxt)))))))))
theorem b84_eq (k : Nat) : iSs (Gk (k + 1)) fuel { N := f84.N, scope := f84.scope, own := fun _ => true } f84.body = b84 k := by kernel_rfl
theorem lenN86 : f86.N.length = 2 := by decide +kernel
noncomputable def b86 (k : Nat) : SM :=
 (seqS (ifS (boolD (dop ltD (vr 1) (calM lenD (dCons (vr 0) (DM.ret [])))))
 (seqS (retS (dop ixD (vr 0) (vr 1)))
  SM.nxt)
 SM.nxt)
 (seqS (retS (DM.ret (.int 0)))
 SM.nxt))
theorem b86_eq (k : Nat) : iSs (Gk (k + 1)) fuel { N := f86.N, scope := f86.scope, own := fun _ => true } f86.body = b86 k := by kernel_rfl
theorem lenN87 : f87.N.length = 3 := by decide +kernel
noncomputable def b87 (k : Nat) : SM :=
 (seqS (asgS (dop modD (dop mulD (dop addD (dop addD (dop modD (vr 0) (DM.ret (.int 2147483647))) (dop mulD (DM.ret (.int 7919)) (vr 1))) (DM.ret (.int 1))) (DM.ret (.int 48271))) (DM.ret (.int 2147483647))) (gSet 2))
 (seqS (retS (dop modD (dop mulD (vr 2) (dop addD (dop fdivD (vr 2) (DM.ret (.int 1009))) (DM.ret (.int 69621)))) (DM.ret (.int 2147483647))))
 SM.nxt))
theorem b87_eq (k : Nat) : iSs (Gk (k + 1)) fuel { N := f87.N, scope := f87.scope, own := fun _ => true } f87.body = b87 k := by kernel_rfl
theorem lenN88 : f88.N.length = 7 := by decide +kernel
noncomputable def b88 (k : Nat) : SM :=
 (seqS (asgS (lstM (DM.ret [])) (gSet 3))
 (seqS (asgS (dop fdivD (vr 0) (DM.ret (.int 2))) (gSet 4))
 (seqS (forS (rngM rng1 (dCons (vr 1) (DM.ret []))) (gSet 5)
 (seqS (ifS (dAndT (boolD (dop eqD (dop modD (vr 0) (DM.ret (.int 2))) (DM.ret (.int 0)))) (boolD (dop gtD (vr 4) (DM.ret (.int 0)))))
  (seqS (dropS (methM "list" appendD (vr 3) (dCons (dop modD (vr 4) (vr 2)) (DM.ret []))))
   (seqS (asgS (dop fdivD (vr 4) (vr 2)) (gSet 4))
   SM.nxt))
  (seqS (asgS (calM (runF (Gk k) fuel f87) (dCons (vr 0) (dCons (vr 5) (DM.ret [])))) (gSet 6))
   (seqS (dropS (methM "list" appendD (vr 3) (dCons (dop modD (dop mulD (vr 6) (dop addD (dop fdivD (vr 6) (DM.ret (.int 613))) (DM.ret (.int 40692)))) (DM.ret (.int 2147483399))) (DM.ret []))))
   SM.nxt)))
  SM.nxt))
 (seqS (retS (vr 3))
 SM.nxt))))
theorem b88_eq (k : Nat) : iSs (Gk (k + 1)) fuel { N := f88.N, scope := f88.scope, own := fun _ => true } f88.body = b88 k := by kernel_rfl
theorem lenN89 : f89.N.length = 1 := by decide +kernel
noncomputable def b89 (k : Nat) : SM :=
 (seqS (retS (dop ixD (lstM (dCons (dop subD (dop modD (vr 0) (DM.ret (.int 9))) (DM.ret (.int 4))) (dCons (dop subD (dop modD (vr 0) (DM.ret (.int 9))) (DM.ret (.int 4))) (dCons (dop subD (vr 0) (dop powD (DM.ret (.int 10)) (DM.ret (.int 39)))) (DM.ret []))))) (dop modD (dop fdivD (vr 0) (DM.ret (.int 9))) (DM.ret (.int 3)))))
 SM.nxt)
theorem b89_eq (k : Nat) : iSs (Gk (k + 1)) fuel { N := f89.N, scope := f89.scope, own := fun _ => true } f89.body = b89 k := by kernel_rfl
theorem lenN90 : f90.N.length = 4 := by decide +kernel
noncomputable def b90 (k : Nat) : SM :=
 (seqS (asgS (calM (runF (Gk k) fuel f89) (dCons (vr 0) (DM.ret []))) (gSet 2))
 (seqS (asgS (dop addD (vr 2) (dop ixD (lstM (dCons (DM.ret (.int 0)) (dCons (dop modD (vr 1) (DM.ret (.int 5))) (dCons (vr 1) (DM.ret []))))) (dop modD (dop fdivD (vr 1) (DM.ret (.int 5))) (DM.ret (.int 3))))) (gSet 3))
 (seqS (retS (dop ixD (lstM (dCons (tupM (dCons (vr 2) (dCons (vr 3) (DM.ret [])))) (dCons (tupM (dCons (vr 2) (dCons (vr 3) (DM.ret [])))) (dCons (tupM (dCons (DM.ret .non) (dCons (vr 3) (DM.ret [])))) (dCons (tupM (dCons (vr 2) (dCons (DM.ret .non) (DM.ret [])))) (dCons (tupM (dCons (DM.ret .non) (dCons (DM.ret .non) (DM.ret [])))) (DM.ret []))))))) (dop modD (dop fdivD (vr 1) (DM.ret (.int 15))) (DM.ret (.int 5)))))
 SM.nxt)))
theorem b90_eq (k : Nat) : iSs (Gk (k + 1)) fuel { N := f90.N, scope := f90.scope, own := fun _ => true } f90.body = b90 k := by kernel_rfl
theorem lenN92 : f92.N.length = 2 := by decide +kernel
noncomputable def b92 (k : Nat) : SM :=
 (seqS (retS (calM (bestN maxI) (dCons (compM (srcM (tupM (dCons (vr 0) (dCons (vr 1) (DM.ret []))))) [none, none] (gSet 1) (boolD (dop (isD true) (vr 1) (DM.ret .non))) (vr 1)) (DM.ret []))))
 SM.nxt)
theorem b92_eq (k : Nat) : iSs (Gk (k + 1)) fuel { N := f92.N, scope := f92.scope, own := fun _ => true } f92.body = b92 k := by kernel_rfl
theorem lenN93 : f93.N.length = 2 := by decide +kernel
noncomputable def b93 (k : Nat) : SM :=
 (seqS (retS (calM (bestN minI) (dCons (compM (srcM (tupM (dCons (vr 0) (dCons (vr 1) (DM.ret []))))) [none, none] (gSet 1) (boolD (dop (isD true) (vr 1) (DM.ret .non))) (vr 1)) (DM.ret []))))
 SM.nxt)
theorem b93_eq (k : Nat) : iSs (Gk (k + 1)) fuel { N := f93.N, scope := f93.scope, own := fun _ => true } f93.body = b93 k := by kernel_rfl
theorem lenN96 : f96.N.length = 12 := by decide +kernel
noncomputable def b96 (k : Nat) : SM :=
 (seqS (ifS (boolD (dop eqD (dop ixD (vr 1) (DM.ret (.int 0))) (DM.ret (.str "less"))))
 (seqS (asgS (dop ixD (vr 0) (dop ixD (vr 1) (DM.ret (.int 1)))) (gTupD [2, 3]))
  (seqS (asgS (tupM (dCons (vr 2) (dCons (calM (runF (Gk k) fuel f93) (dCons (vr 3) (dCons (dop subD (dop ixD (vr 1) (DM.ret (.int 2))) (DM.ret (.int 1))) (DM.ret [])))) (DM.ret [])))) (gSet 4))
  (seqS (asgS (tupM (dCons (calM (runF (Gk k) fuel f92) (dCons (vr 2) (dCons (dop ixD (vr 1) (DM.ret (.int 2))) (DM.ret [])))) (dCons (vr 3) (DM.ret [])))) (gSet 5))
  (seqS (asgS (lstM (dCons (tupM (dCons (calM (runF (Gk k) fuel f95) (dCons (vr 0) (dCons (dop ixD (vr 1) (DM.ret (.int 1))) (dCons (vr 4) (DM.ret []))))) (dCons (dop ixD (vr 1) (DM.ret (.int 3))) (dCons (lstM (dCons (vr 4) (DM.ret []))) (DM.ret []))))) (dCons (tupM (dCons (calM (runF (Gk k) fuel f95) (dCons (vr 0) (dCons (dop ixD (vr 1) (DM.ret (.int 1))) (dCons (vr 5) (DM.ret []))))) (dCons (DM.ret (.int 1)) (dCons (lstM (dCons (vr 5) (DM.ret []))) (DM.ret []))))) (DM.ret [])))) (gSet 6))
  (seqS (retS (compM (srcM (vr 6)) [none, none, none, none] (gTupD [1, 2, 3]) (truM (calM (runF (Gk k) fuel f94) (dCons (dop ixD (vr 3) (DM.ret (.int 0))) (DM.ret [])))) (tupM (dCons (vr 1) (dCons (vr 2) (DM.ret []))))))
  SM.nxt)))))
 SM.nxt)
 (seqS (ifS (boolD (dop eqD (dop ixD (vr 1) (DM.ret (.int 1))) (dop ixD (vr 1) (DM.ret (.int 2)))))
 (seqS (retS (lstM (dCons (tupM (dCons (vr 0) (dCons (DM.ret (.int 1)) (DM.ret [])))) (DM.ret []))))
  SM.nxt)
 SM.nxt)
 (seqS (asgS (dop ixD (vr 0) (dop ixD (vr 1) (DM.ret (.int 1)))) (gSet 9))
 (seqS (asgS (dop ixD (vr 0) (dop ixD (vr 1) (DM.ret (.int 2)))) (gSet 10))
 (seqS (asgS (lstM (DM.ret [])) (gSet 11))
 (seqS (asgS (lstM (dCons (tupM (dCons (dop ixD (vr 9) (DM.ret (.int 0))) (dCons (calM (runF (Gk k) fuel f93) (dCons (dop ixD (vr 9) (DM.ret (.int 1))) (dCons (calM (runF (Gk k) fuel f91) (dCons (dop ixD (vr 10) (DM.ret (.int 1))) (dCons (negM (DM.ret (.int 1))) (DM.ret [])))) (DM.ret [])))) (DM.ret [])))) (dCons (tupM (dCons (calM (runF (Gk k) fuel f92) (dCons (dop ixD (vr 10) (DM.ret (.int 0))) (dCons (calM (runF (Gk k) fuel f91) (dCons (dop ixD (vr 9) (DM.ret (.int 0))) (dCons (DM.ret (.int 1)) (DM.ret [])))) (DM.ret [])))) (dCons (dop ixD (vr 10) (DM.ret (.int 1))) (DM.ret [])))) (DM.ret [])))) (gSet 4))
 (seqS (asgS (lstM (dCons (tupM (dCons (calM (runF (Gk k) fuel f92) (dCons (dop ixD (vr 9) (DM.ret (.int 0))) (dCons (dop ixD (vr 10) (DM.ret (.int 0))) (DM.ret [])))) (dCons (dop ixD (vr 9) (DM.ret (.int 1))) (DM.ret [])))) (dCons (tupM (dCons (dop ixD (vr 10) (DM.ret (.int 0))) (dCons (calM (runF (Gk k) fuel f93) (dCons (dop ixD (vr 10) (DM.ret (.int 1))) (dCons (dop ixD (vr 9) (DM.ret (.int 1))) (DM.ret [])))) (DM.ret [])))) (DM.ret [])))) (gSet 5))
 (seqS (forS (srcM (lstM (dCons (tupM (dCons (vr 4) (dCons (dop ixD (vr 1) (DM.ret (.int 3))) (DM.ret [])))) (dCons (tupM (dCons (vr 5) (dCons (DM.ret (.int 1)) (DM.ret [])))) (DM.ret []))))) (gTupD [8, 7])
 (seqS (ifS (dAndT (truM (calM (runF (Gk k) fuel f94) (dCons (dop ixD (vr 8) (DM.ret (.int 0))) (DM.ret [])))) (truM (calM (runF (Gk k) fuel f94) (dCons (dop ixD (vr 8) (DM.ret (.int 1))) (DM.ret [])))))
  (seqS (dropS (methM "list" appendD (vr 11) (dCons (tupM (dCons (calM (runF (Gk k) fuel f95) (dCons (calM (runF (Gk k) fuel f95) (dCons (vr 0) (dCons (dop ixD (vr 1) (DM.ret (.int 1))) (dCons (dop ixD (vr 8) (DM.ret (.int 0))) (DM.ret []))))) (dCons (dop ixD (vr 1) (DM.ret (.int 2))) (dCons (dop ixD (vr 8) (DM.ret (.int 1))) (DM.ret []))))) (dCons (vr 7) (DM.ret [])))) (DM.ret []))))
   SM.nxt)
  SM.nxt)
  SM.nxt))
 (seqS (retS (vr 11))
 SM.nxt)))))))))
theorem b96_eq (k : Nat) : iSs (Gk (k + 1)) fuel { N := f96.N, scope := f96.scope, own := fun _ => true } f96.body = b96 k := by kernel_rfl
theorem lenN97 : f97.N.length = 6 := by decide +kernel
noncomputable def b97 (k : Nat) : SM :=
 (seqS (asgS (dSl (vr 1) none (some (DM.ret (.int 2)))) (gTupD [2, 3]))
 (seqS (ifS (boolD (dop (inD false) (vr 2) (tupM (dCons (DM.ret (.str "less")) (dCons (DM.ret (.str "before")) (DM.ret []))))))
 (seqS (retS (compM (srcM (calM (runF (Gk k) fuel f96) (dCons (vr 0) (dCons (vr 1) (DM.ret []))))) [none, none, none] (gTupD [1, 2]) (DM.ret true) (tupM (dCons (DM.ret (.int 0)) (dCons (vr 1) (dCons (vr 2) (DM.ret [])))))))
  SM.nxt)
 SM.nxt)
 (seqS (ifS (boolD (dop eqD (vr 2) (DM.ret (.str "put"))))
 (seqS (retS (lstM (dCons (tupM (dCons (DM.ret (.int 0)) (dCons (calM (runF (Gk k) fuel f95) (dCons (vr 0) (dCons (vr 3) (dCons (tupM (dCons (dop ixD (vr 1) (DM.ret (.int 2))) (dCons (dop ixD (vr 1) (DM.ret (.int 2))) (DM.ret [])))) (DM.ret []))))) (dCons (DM.ret (.int 1)) (DM.ret []))))) (DM.ret []))))
  SM.nxt)
 SM.nxt)
 (seqS (ifS (boolD (dop eqD (vr 2) (DM.ret (.str "copy"))))
 (seqS (retS (lstM (dCons (tupM (dCons (DM.ret (.int 0)) (dCons (calM (runF (Gk k) fuel f95) (dCons (vr 0) (dCons (vr 3) (dCons (dop ixD (vr 0) (dop ixD (vr 1) (DM.ret (.int 2)))) (DM.ret []))))) (dCons (DM.ret (.int 1)) (DM.ret []))))) (DM.ret []))))
  SM.nxt)
 SM.nxt)
 (seqS (ifS (boolD (dop eqD (vr 2) (DM.ret (.str "choose"))))
 (seqS (retS (compM (rngM rng1 (dCons (dop ixD (vr 1) (DM.ret (.int 2))) (DM.ret []))) [none, none, some 3, some 0] (gSet 1) (DM.ret true) (tupM (dCons (vr 1) (dCons (calM (runF (Gk k) fuel f95) (dCons (vr 3) (dCons (vr 2) (dCons (tupM (dCons (vr 1) (dCons (vr 1) (DM.ret [])))) (DM.ret []))))) (dCons (DM.ret (.int 1)) (DM.ret [])))))))
  SM.nxt)
 SM.nxt)
 (seqS (asgS (tupM (dCons (dop ixD (vr 1) (DM.ret (.int 2))) (dCons (dop ixD (vr 1) (DM.ret (.int 2))) (DM.ret [])))) (gSet 4))
 (seqS (ifS (boolD (dop eqD (vr 2) (DM.ret (.str "sum"))))
 (seqS (asgS (dop ixD (vr 0) (dop ixD (vr 1) (DM.ret (.int 2)))) (gSet 4))
  SM.nxt)
 SM.nxt)
 (seqS (asgS (tupM (dCons (calM (runF (Gk k) fuel f91) (dCons (dop ixD (dop ixD (vr 0) (vr 3)) (DM.ret (.int 0))) (dCons (dop ixD (vr 4) (DM.ret (.int 0))) (DM.ret [])))) (dCons (calM (runF (Gk k) fuel f91) (dCons (dop ixD (dop ixD (vr 0) (vr 3)) (DM.ret (.int 1))) (dCons (dop ixD (vr 4) (DM.ret (.int 1))) (DM.ret [])))) (DM.ret [])))) (gSet 5))
 (seqS (retS (lstM (dCons (tupM (dCons (DM.ret (.int 0)) (dCons (calM (runF (Gk k) fuel f95) (dCons (vr 0) (dCons (vr 3) (dCons (vr 5) (DM.ret []))))) (dCons (DM.ret (.int 1)) (DM.ret []))))) (DM.ret []))))
 SM.nxt)))))))))
theorem b97_eq (k : Nat) : iSs (Gk (k + 1)) fuel { N := f97.N, scope := f97.scope, own := fun _ => true } f97.body = b97 k := by kernel_rfl
theorem lenN98 : f98.N.length = 5 := by decide +kernel
noncomputable def b98 (k : Nat) : SM :=
 (seqS (asgS (dop modD (dop ixD (vr 0) (DM.ret (.int 0))) (DM.ret (.int 3))) (gSet 1))
 (seqS (asgS (dop modD (dop ixD (vr 0) (DM.ret (.int 1))) (DM.ret (.int 3))) (gSet 2))
 (seqS (asgS (calM (runF (Gk k) fuel f89) (dCons (dop ixD (vr 0) (DM.ret (.int 2))) (DM.ret []))) (gSet 3))
 (seqS (asgS (lstM (dCons (tupM (dCons (DM.ret (.str "put")) (dCons (vr 1) (dCons (vr 3) (DM.ret []))))) (dCons (tupM (dCons (DM.ret (.str "copy")) (dCons (vr 1) (dCons (vr 2) (DM.ret []))))) (dCons (tupM (dCons (DM.ret (.str "raise")) (dCons (vr 1) (dCons (vr 3) (DM.ret []))))) (dCons (tupM (dCons (DM.ret (.str "sum")) (dCons (vr 1) (dCons (vr 2) (DM.ret []))))) (dCons (tupM (dCons (DM.ret (.str "choose")) (dCons (vr 1) (dCons (dop addD (DM.ret (.int 1)) (dop modD (dop ixD (vr 0) (DM.ret (.int 1))) (DM.ret (.int 20)))) (DM.ret []))))) (DM.ret []))))))) (gSet 4))
 (seqS (asgS (dop addD (vr 4) (lstM (dCons (tupM (dCons (DM.ret (.str "less")) (dCons (vr 1) (dCons (vr 3) (dCons (dop modD (dop ixD (vr 0) (DM.ret (.int 1))) (DM.ret (.int 3))) (DM.ret [])))))) (dCons (tupM (dCons (DM.ret (.str "before")) (dCons (vr 1) (dCons (vr 2) (dCons (dop modD (dop ixD (vr 0) (DM.ret (.int 2))) (DM.ret (.int 3))) (DM.ret [])))))) (dCons (tupM (dCons (DM.ret (.str "before")) (dCons (vr 1) (dCons (dop modD (dop addD (vr 1) (DM.ret (.int 1))) (DM.ret (.int 3))) (dCons (DM.ret (.int 2)) (DM.ret [])))))) (DM.ret [])))))) (gSet 4))
 (seqS (retS (dop ixD (vr 4) (dop modD (dop ixD (vr 0) (DM.ret (.int 3))) (DM.ret (.int 8)))))
 SM.nxt))))))
theorem b98_eq (k : Nat) : iSs (Gk (k + 1)) fuel { N := f98.N, scope := f98.scope, own := fun _ => true } f98.body = b98 k := by kernel_rfl
theorem lenN99 : f99.N.length = 8 := by decide +kernel
noncomputable def b99 (k : Nat) : SM :=
 (seqS (asgS (tupM (dCons (DM.ret (.int 1)) (dCons (tupM (dCons (DM.ret (.int 0)) (dCons (DM.ret (.int 0)) (DM.ret [])))) (dCons (tupM (dCons (tupM (dCons (vr 1) (dCons (tupM (dCons (DM.ret (.str "bell")) (DM.ret []))) (DM.ret [])))) (DM.ret []))) (dCons (tupM (dCons (DM.ret (.int 0)) (DM.ret []))) (DM.ret [])))))) (gSet 2))
 (seqS (asgS (tupM (dCons (tupM (dCons (negM (DM.ret (.int 1))) (dCons (DM.ret (.int 0)) (dCons (negM (DM.ret (.int 1))) (DM.ret []))))) (dCons (tupM (dCons (DM.ret (.int 1)) (dCons (DM.ret (.int 0)) (DM.ret [])))) (dCons (DM.ret (.bl true)) (DM.ret []))))) (gSet 3))
 (seqS (asgS (lstM (DM.ret [])) (gSet 4))
 (seqS (forS (srcM (calM (runF (Gk k) fuel f97) (dCons (vr 0) (dCons (vr 1) (DM.ret []))))) (gTupD [5, 6, 7])
 (seqS (dropS (methM "list" appendD (vr 4) (dCons (tupM (dCons (tupM (dCons (DM.ret (.str "do")) (dCons (DM.ret (.int 0)) (dCons (vr 5) (DM.ret []))))) (dCons (tupM (dCons (tupM (dCons (dop addD (tupM (dCons (vr 7) (dCons (vr 6) (DM.ret [])))) (vr 3)) (DM.ret []))) (dCons (tupM (dCons (tupM (dCons (tupM (DM.ret [])) (DM.ret []))) (DM.ret []))) (dCons (tupM (dCons (DM.ret (.int 0)) (dCons (DM.ret (.int 0)) (DM.ret [])))) (DM.ret []))))) (DM.ret [])))) (DM.ret []))))
  SM.nxt))
 (seqS (retS (dop eqD (calM (runF (Gk k) fuel f79) (dCons (vr 2) (dCons (tupM (dCons (tupM (dCons (dop addD (tupM (dCons (DM.ret (.int 0)) (dCons (vr 0) (DM.ret [])))) (vr 3)) (DM.ret []))) (dCons (tupM (dCons (tupM (dCons (tupM (DM.ret [])) (DM.ret []))) (DM.ret []))) (dCons (tupM (dCons (DM.ret (.int 0)) (dCons (DM.ret (.int 0)) (DM.ret [])))) (DM.ret []))))) (DM.ret [])))) (vr 4)))
 SM.nxt)))))
theorem b99_eq (k : Nat) : iSs (Gk (k + 1)) fuel { N := f99.N, scope := f99.scope, own := fun _ => true } f99.body = b99 k := by kernel_rfl
theorem lenN100 : f100.N.length = 15 := by decide +kernel
noncomputable def b100 (k : Nat) : SM :=
 (seqS (asgS (tupM (dCons (tupM (dCons (DM.ret (.str "send")) (dCons (DM.ret (.int 0)) (dCons (DM.ret (.int 5)) (dCons (vr 1) (dCons (DM.ret (.int 1)) (DM.ret []))))))) (dCons (tupM (dCons (DM.ret (.str "take")) (dCons (negM (DM.ret (.int 1))) (dCons (tupM (dCons (tupM (dCons (DM.ret (.int 5)) (dCons (vr 2) (dCons (DM.ret (.int 0)) (dCons (DM.ret (.int 1)) (dCons (DM.ret (.int 2)) (DM.ret []))))))) (DM.ret []))) (DM.ret []))))) (DM.ret [])))) (gSet 3))
 (seqS (asgS (tupM (dCons (DM.ret (.int 2)) (dCons (tupM (dCons (DM.ret (.int 1)) (dCons (DM.ret (.int 1)) (DM.ret [])))) (dCons (tupM (dCons (vr 3) (DM.ret []))) (dCons (tupM (dCons (DM.ret (.int 0)) (dCons (DM.ret (.int 0)) (DM.ret [])))) (DM.ret [])))))) (gSet 4))
 (seqS (asgS (tupM (dCons (DM.ret (.int 0)) (dCons (vr 0) (dCons (tupM (dCons (DM.ret (.int 1)) (dCons (DM.ret (.int 0)) (dCons (negM (DM.ret (.int 1))) (DM.ret []))))) (dCons (tupM (dCons (DM.ret (.int 0)) (dCons (DM.ret (.int 0)) (DM.ret [])))) (dCons (DM.ret (.bl false)) (DM.ret []))))))) (gSet 5))
 (seqS (asgS (tupM (dCons (DM.ret (.int 1)) (dCons (vr 0) (dCons (tupM (dCons (negM (DM.ret (.int 1))) (dCons (negM (DM.ret (.int 1))) (dCons (negM (DM.ret (.int 1))) (DM.ret []))))) (dCons (tupM (dCons (DM.ret (.int 3)) (dCons (DM.ret (.int 0)) (DM.ret [])))) (dCons (DM.ret (.bl false)) (DM.ret []))))))) (gSet 6))
 (seqS (asgS (tupM (dCons (DM.ret (.int 5)) (dCons (dop ixD (vr 0) (vr 1)) (dCons (DM.ret (.int 0)) (DM.ret []))))) (gSet 7))
 (seqS (asgS (tupM (dCons (tupM (dCons (vr 5) (dCons (vr 6) (DM.ret [])))) (dCons (tupM (dCons (tupM (dCons (tupM (DM.ret [])) (dCons (tupM (DM.ret [])) (DM.ret [])))) (dCons (tupM (dCons (tupM (dCons (vr 7) (DM.ret []))) (dCons (tupM (DM.ret [])) (DM.ret [])))) (DM.ret [])))) (dCons (tupM (dCons (DM.ret (.int 1)) (dCons (DM.ret (.int 1)) (DM.ret [])))) (DM.ret []))))) (gSet 8))
 (seqS (asgS (tupM (dCons (tupM (dCons (DM.ret (.int 1)) (dCons (vr 0) (dCons (tupM (dCons (DM.ret (.int 1)) (dCons (DM.ret (.int 0)) (dCons (negM (DM.ret (.int 1))) (DM.ret []))))) (dCons (tupM (dCons (DM.ret (.int 0)) (dCons (DM.ret (.int 0)) (DM.ret [])))) (dCons (DM.ret (.bl false)) (DM.ret []))))))) (dCons (vr 6) (DM.ret [])))) (gSet 9))
 (seqS (asgS (tupM (dCons (DM.ret (.int 2)) (dCons (calM (runF (Gk k) fuel f95) (dCons (vr 0) (dCons (vr 2) (dCons (dop ixD (vr 0) (vr 1)) (DM.ret []))))) (dCons (tupM (dCons (DM.ret (.int 0)) (dCons (DM.ret (.int 0)) (dCons (negM (DM.ret (.int 1))) (DM.ret []))))) (dCons (tupM (dCons (DM.ret (.int 3)) (dCons (DM.ret (.int 0)) (DM.ret [])))) (dCons (DM.ret (.bl false)) (DM.ret []))))))) (gSet 10))
 (seqS (asgS (tupM (dCons (tupM (dCons (tupM (DM.ret [])) (dCons (tupM (DM.ret [])) (DM.ret [])))) (dCons (tupM (dCons (tupM (DM.ret [])) (dCons (tupM (DM.ret [])) (DM.ret [])))) (DM.ret [])))) (gSet 11))
 (seqS (asgS (tupM (dCons (tupM (dCons (DM.ret (.int 0)) (dCons (DM.ret (.int 0)) (DM.ret [])))) (dCons (tupM (dCons (DM.ret (.int 0)) (dCons (DM.ret (.int 0)) (DM.ret [])))) (dCons (tupM (dCons (DM.ret (.int 0)) (dCons (DM.ret (.int 0)) (DM.ret [])))) (DM.ret []))))) (gSet 12))
 (seqS (asgS (tupM (dCons (negM (DM.ret (.int 1))) (dCons (vr 12) (dCons (tupM (dCons (negM (DM.ret (.int 1))) (dCons (negM (DM.ret (.int 1))) (dCons (negM (DM.ret (.int 1))) (DM.ret []))))) (dCons (tupM (dCons (DM.ret (.int 0)) (dCons (DM.ret (.int 0)) (DM.ret [])))) (dCons (DM.ret (.bl false)) (DM.ret []))))))) (gSet 13))
 (seqS (asgS (lstM (dCons (tupM (dCons (tupM (dCons (DM.ret (.str "do")) (dCons (DM.ret (.int 0)) (dCons (DM.ret (.int 0)) (DM.ret []))))) (dCons (tupM (dCons (vr 9) (dCons (tupM (dCons (tupM (dCons (tupM (DM.ret [])) (dCons (tupM (DM.ret [])) (DM.ret [])))) (dCons (tupM (dCons (tupM (dCons (vr 7) (dCons (vr 7) (DM.ret [])))) (dCons (tupM (DM.ret [])) (DM.ret [])))) (DM.ret [])))) (dCons (tupM (dCons (DM.ret (.int 1)) (dCons (DM.ret (.int 1)) (DM.ret [])))) (DM.ret []))))) (DM.ret [])))) (DM.ret []))) (gSet 14))
 (seqS (dropS (methM "list" appendD (vr 14) (dCons (tupM (dCons (tupM (dCons (DM.ret (.str "do")) (dCons (DM.ret (.int 1)) (dCons (tupM (dCons (DM.ret (.int 0)) (dCons (DM.ret (.int 5)) (DM.ret [])))) (DM.ret []))))) (dCons (tupM (dCons (tupM (dCons (vr 5) (dCons (vr 10) (DM.ret [])))) (dCons (vr 11) (dCons (tupM (dCons (DM.ret (.int 1)) (dCons (DM.ret (.int 1)) (DM.ret [])))) (DM.ret []))))) (DM.ret [])))) (DM.ret []))))
 (seqS (dropS (methM "list" appendD (vr 14) (dCons (tupM (dCons (tupM (dCons (DM.ret (.str "lose")) (dCons (DM.ret (.int 0)) (dCons (DM.ret (.int 1)) (DM.ret []))))) (dCons (tupM (dCons (tupM (dCons (vr 5) (dCons (vr 6) (DM.ret [])))) (dCons (vr 11) (dCons (tupM (dCons (DM.ret (.int 0)) (dCons (DM.ret (.int 1)) (DM.ret [])))) (DM.ret []))))) (DM.ret [])))) (DM.ret []))))
 (seqS (dropS (methM "list" appendD (vr 14) (dCons (tupM (dCons (tupM (dCons (DM.ret (.str "fall")) (dCons (DM.ret (.int 0)) (DM.ret [])))) (dCons (tupM (dCons (tupM (dCons (vr 13) (dCons (vr 6) (DM.ret [])))) (dCons (dop ixD (vr 8) (DM.ret (.int 1))) (dCons (tupM (dCons (DM.ret (.int 1)) (dCons (DM.ret (.int 0)) (DM.ret [])))) (DM.ret []))))) (DM.ret [])))) (DM.ret []))))
 (seqS (dropS (methM "list" appendD (vr 14) (dCons (tupM (dCons (tupM (dCons (DM.ret (.str "fall")) (dCons (DM.ret (.int 1)) (DM.ret [])))) (dCons (tupM (dCons (tupM (dCons (vr 5) (dCons (vr 13) (DM.ret [])))) (dCons (vr 11) (dCons (tupM (dCons (DM.ret (.int 1)) (dCons (DM.ret (.int 0)) (DM.ret [])))) (DM.ret []))))) (DM.ret [])))) (DM.ret []))))
 (seqS (retS (dop eqD (calM (runF (Gk k) fuel f79) (dCons (vr 4) (dCons (vr 8) (DM.ret [])))) (vr 14)))
 SM.nxt)))))))))))))))))
theorem b100_eq (k : Nat) : iSs (Gk (k + 1)) fuel { N := f100.N, scope := f100.scope, own := fun _ => true } f100.body = b100 k := by kernel_rfl
theorem lenN101 : f101.N.length = 5 := by decide +kernel
noncomputable def b101 (k : Nat) : SM :=
 (seqS (forS (rngM rng3 (dCons (DM.ret (.int 0)) (dCons (calM maxD2 (dCons (DM.ret (.int 2)) (dCons (calM minD2 (dCons (DM.ret (.int 62)) (dCons (calM lenD (dCons (vr 0) (DM.ret []))) (DM.ret [])))) (DM.ret [])))) (dCons (DM.ret (.int 2)) (DM.ret []))))) (gSet 1)
 (seqS (asgS (calM (runF (Gk k) fuel f88) (dCons (calM (runF (Gk k) fuel f86) (dCons (vr 0) (dCons (vr 1) (DM.ret [])))) (dCons (DM.ret (.int 6)) (dCons (dop mulD (DM.ret (.int 2)) (dop powD (DM.ret (.int 10)) (DM.ret (.int 39)))) (DM.ret []))))) (gSet 2))
  (seqS (asgS (calM tupleD (dCons (compM (rngM rng1 (dCons (DM.ret (.int 3)) (DM.ret []))) [none, none, some 2] (gSet 1) (DM.ret true) (calM (runF (Gk k) fuel f90) (dCons (dop ixD (vr 2) (vr 1)) (dCons (dop ixD (vr 2) (dop addD (vr 1) (DM.ret (.int 3)))) (DM.ret []))))) (DM.ret []))) (gSet 3))
  (seqS (asgS (calM (runF (Gk k) fuel f98) (dCons (calM (runF (Gk k) fuel f88) (dCons (calM (runF (Gk k) fuel f86) (dCons (vr 0) (dCons (dop addD (vr 1) (DM.ret (.int 1))) (DM.ret [])))) (dCons (DM.ret (.int 4)) (dCons (dop mulD (DM.ret (.int 2)) (dop powD (DM.ret (.int 10)) (DM.ret (.int 39)))) (DM.ret []))))) (DM.ret []))) (gSet 4))
  (seqS (ifS (dOrT (dNotT (truM (calM (runF (Gk k) fuel f99) (dCons (vr 3) (dCons (vr 4) (DM.ret [])))))) (dNotT (truM (calM (runF (Gk k) fuel f100) (dCons (vr 3) (dCons (dop modD (dop ixD (vr 4) (DM.ret (.int 1))) (DM.ret (.int 3))) (dCons (dop modD (dop ixD (vr 2) (DM.ret (.int 0))) (DM.ret (.int 3))) (DM.ret []))))))))
  (seqS (retS (DM.ret (.bl false)))
   SM.nxt)
  SM.nxt)
  SM.nxt)))))
 (seqS (retS (DM.ret (.bl true)))
 SM.nxt))
theorem b101_eq (k : Nat) : iSs (Gk (k + 1)) fuel { N := f101.N, scope := f101.scope, own := fun _ => true } f101.body = b101 k := by kernel_rfl
theorem lenN24_1 : f24_1.N.length = 1 := by decide +kernel
noncomputable def b24_1 (k : Nat) : SM :=
 (seqS (retS (attrM fld "form" (vr 0)))
 SM.nxt)
theorem b24_1_eq (k : Nat) : iSs (Gk (k + 1)) fuel { N := f24_1.N, scope := f24_1.scope, own := fun _ => true } f24_1.body = b24_1 k := by kernel_rfl
local macro_rules | `(tactic| walk_at "s") => `(tactic| first
  | (with_reducible refine wS_seq ?_) | (with_reducible refine wS_asg ?_) | (with_reducible refine wS_ret ?_) | (with_reducible refine wS_drop ?_) | (with_reducible refine wS_if ?_) | (with_reducible refine wS_nxt ?_) | (with_reducible refine seqK_nx ?_) | (with_reducible refine seqK_rt ?_)
  | (with_reducible refine wD_vr (by with_unfolding_all rfl) ?_) | (with_reducible refine wD_ret ?_) | (with_reducible refine wD_op ?_) | (with_reducible refine wD_cons ?_) | (with_reducible refine wD_cal ?_) | (with_reducible refine wD_tup ?_) | (with_reducible refine wD_lst ?_) | (with_reducible refine wD_neg ?_)
  | (with_reducible refine wD_isi ?_) | (with_reducible refine wD_listRng ?_) | (with_reducible refine wD_tupRng ?_) | (with_reducible refine wD_lenSet ?_) | (with_reducible refine wD_sortSet ?_) | (with_reducible refine wD_mk ?_) | (with_reducible refine wD_attr ?_) | (with_reducible refine wD_obj ?_) | (with_reducible refine wD_dicIn ?_) | (with_reducible refine wD_dicIx ?_) | (with_reducible refine wD_zip ?_) | (with_reducible refine wS_par ?_) | (with_reducible refine wD_bool ?_) | (with_reducible refine wD_tru ?_) | (with_reducible refine wD_notV ?_) | (with_reducible refine wD_notT ?_)
  | (with_reducible refine wD_andT ?_) | (with_reducible refine wD_orT ?_) | (with_reducible refine wD_andV ?_) | (with_reducible refine wD_orV ?_) | (with_reducible refine wD_if ?_) | (with_reducible refine wD_chain ?_) | (with_reducible refine wD_meth ?_) | (with_reducible refine wD_sl ?_) | (with_reducible refine wD_partN ?_) | (with_reducible refine wD_partS ?_)
  | (with_reducible refine wD_src ?_) | (with_reducible refine wD_enum ?_) | (with_reducible refine wD_rng ?_) | (with_reducible refine wG_set ?_) | (with_reducible refine wG_sub ?_) | (with_reducible refine ex_bl ?_) | (with_reducible refine ex_int ?_) | (with_reducible refine when_t ?_) | (with_reducible refine when_f ?_) | (with_reducible refine when_tt (by with_unfolding_all rfl) ?_) | (with_reducible refine when_ff (by with_unfolding_all rfl) ?_) | (with_reducible refine tru_bl ?_)
  | (with_reducible refine wV_add ?_) | (with_reducible refine wV_sub ?_) | (with_reducible refine wV_icmp ?_) | (with_reducible refine wV_eqI ?_) | (with_reducible refine wV_neI ?_) | (with_reducible refine wV_isi (by with_unfolding_all rfl) (by with_unfolding_all rfl) ?_))
noncomputable def ob : Option Int → D
  | none => .non
  | some i => .int i
noncomputable abbrev Pr := Option Int × Option Int
noncomputable def prD (p : Pr) : D := .tup [ob p.1, ob p.2]
noncomputable def hi2 : Option Int → Option Int → Option Int
  | none, y => y
  | some a, none => some a
  | some a, some b => some (maxI a [b])
noncomputable def lo2 : Option Int → Option Int → Option Int
  | none, y => y
  | some a, none => some a
  | some a, some b => some (minI a [b])
noncomputable def cutP (p q : Pr) : Pr := (hi2 p.1 q.1, lo2 p.2 q.2)
noncomputable def pl2 : Option Int → Option Int → Option Int
  | some a, some b => some (a + b)
  | _, _ => none
noncomputable def addP (p q : Pr) : Pr := (pl2 p.1 q.1, pl2 p.2 q.2)
noncomputable def vd : Pr → Bool
  | (some a, some b) => decide (b < a)
  | _ => false
theorem e_cut (k : Nat) (p q : Pr) (mh : MH) : runF (Gk (k + 2)) fuel f73 [prD p, prD q] mh = some (prD (cutP p q), mh) := by
  obtain ⟨a, b⟩ := p
  obtain ⟨c, d⟩ := q
  cases a <;> cases b <;> cases c <;> cases d <;> kernel_rfl
theorem e_void (k : Nat) (p : Pr) (mh : MH) : runF (Gk (k + 1)) fuel f71 [prD p] mh = some (.bl (vd p), mh) := by
  obtain ⟨a, b⟩ := p
  cases a <;> cases b <;> kernel_rfl
theorem e_more (k : Nat) (x : Option Int) (i : Int) (mh : MH) : runF (Gk (k + 1)) fuel f76 [ob x, .int i] mh = some (ob (pl2 x (some i)), mh) := by
  cases x <;> kernel_rfl
theorem e_added (k : Nat) (p q : Pr) (mh : MH) : runF (Gk (k + 2)) fuel f77 [prD p, prD q] mh = some (prD (addP p q), mh) := by
  obtain ⟨a, b⟩ := p
  obtain ⟨c, d⟩ := q
  cases a <;> cases b <;> cases c <;> cases d <;> kernel_rfl
theorem e_pair (k : Nat) (i : Int) (mh : MH) : runF (Gk (k + 1)) fuel f72 [.int i] mh = some (prD (some i, some i), mh) := by kernel_rfl
noncomputable abbrev Tri := Pr × Pr × Pr
noncomputable def sel : Nat → Tri → Pr
  | 0, t => t.1
  | 1, t => t.2.1
  | _, t => t.2.2
noncomputable def upt : Nat → Pr → Tri → Tri
  | 0, p, t => (p, t.2.1, t.2.2)
  | 1, p, t => (t.1, p, t.2.2)
  | _, p, t => (t.1, t.2.1, p)
noncomputable def triL (t : Tri) : List D := [prD t.1, prD t.2.1, prD t.2.2]
noncomputable def triD (t : Tri) : D := .tup (triL t)
noncomputable def mineD (pl : Int) (t : Tri) : D := .tup [.int pl, triD t, .tup [.int (-1), .int 0, .int (-1)], .tup [.int 1, .int 0], .bl true]
theorem lt3 {a : Nat} (h : a < 3) : a = 0 ∨ a = 1 ∨ a = 2 := by omega
theorem tri_at {a : Nat} (h : a < 3) (t : Tri) : (triL t)[a]? = some (prD (sel a t)) := by
  rcases lt3 h with rfl | rfl | rfl <;> rfl
theorem e_withn (k : Nat) {a : Nat} (h : a < 3) (pl : Int) (t : Tri) (p : Pr) (mh : MH) : runF (Gk (k + 2)) fuel f17 [mineD pl t, .int a, prD p] mh = some (mineD pl (upt a p t), mh) := by
  rcases lt3 h with rfl | rfl | rfl <;> kernel_rfl
theorem e_moved (k : Nat) (pl : Int) (t : Tri) (mh : MH) : runF (Gk (k + 3)) fuel f22 [mineD pl t] mh = some (mineD (pl + 1) t, mh) := by kernel_rfl
theorem e_at (k : Nat) (pl q : Int) (t : Tri) (mh : MH) : runF (Gk (k + 2)) fuel f21 [mineD pl t, .int q] mh = some (mineD q t, mh) := by kernel_rfl
theorem set_new {h : MH} {o o' : MO} : (h ++ [o]).set h.length o' = h ++ [o'] := by
  rw [List.set_append_right _ _ (Nat.le_refl _), Nat.sub_self]; rfl
noncomputable def lessR (a : Nat) (n q : Int) (pl : Int) (t : Tri) : List (Int × Tri) :=
  (if vd (cutP (sel a t) (none, some (n - 1))) then [] else [(q, upt a (cutP (sel a t) (none, some (n - 1))) t)]) ++ (if vd (cutP (sel a t) (some n, none)) then [] else [(pl + 1, upt a (cutP (sel a t) (some n, none)) t)])
noncomputable def parts (l : List (Int × Tri)) : List D := l.map fun z => mineD z.1 z.2
theorem run_less (k : Nat) {a : Nat} (h3 : a < 3) (n q pl : Int) (t : Tri) (mh : MH) {P : D → MH → Prop} (h : P (.ref mh.length) (mh ++ [.lst (parts (lessR a n q pl t))])) : wV (runF (Gk (k + 4)) fuel f83 [mineD pl t, .int a, .int n, .int q] mh) P := by
  refine wV_run (b83_eq (k + 3)) lenP83 lenN83 rfl ?_
  show wS (b83 (k + 3)) [some (mineD pl t), some (.int a), some (.int n), some (.int q), none, none, none, none] mh _
  unfold b83
  repeat walk_at "s"
  refine wV_ixT (j := 1) (d := triD t) rfl ?_
  repeat walk_at "s"
  refine wV_ixT (j := a) (tri_at h3 t) ?_
  repeat walk_at "s"
  refine ⟨by simp, ?_⟩
  repeat walk_at "s"
  unfold lessR at h
  cases h1 : vd (cutP (sel a t) (none, some (n - 1))) <;> cases h2 : vd (cutP (sel a t) (some n, none))
  · rw [h1, h2] at h
    refine ⟨by simp, ?_⟩
    repeat walk_at "s"
    refine wV_of (e_cut (k + 1) (sel a t) (none, some (n - 1)) _) ?_
    repeat walk_at "s"
    refine wV_of (d := .bl false) (h := _) (by rw [e_void (k + 2), h1]) ?_
    repeat walk_at "s"
    refine ⟨ty_list at_new, ?_⟩
    repeat walk_at "s"
    refine wV_of (e_withn (k + 1) h3 _ _ _ _) ?_
    repeat walk_at "s"
    refine wV_of (e_at (k + 1) _ _ _ _) ?_
    repeat walk_at "s"
    refine wV_append at_new (by simp) ?_
    rw [set_new]
    repeat walk_at "s"
    refine ⟨by simp, ?_⟩
    repeat walk_at "s"
    refine wV_of (e_cut (k + 1) (sel a t) (some n, none) _) ?_
    repeat walk_at "s"
    refine wV_of (d := .bl false) (h := _) (by rw [e_void (k + 2), h2]) ?_
    repeat walk_at "s"
    refine ⟨ty_list at_new, ?_⟩
    repeat walk_at "s"
    refine wV_of (e_withn (k + 1) h3 _ _ _ _) ?_
    repeat walk_at "s"
    refine wV_of (e_moved k _ _ _) ?_
    repeat walk_at "s"
    refine wV_append at_new (by simp) ?_
    rw [set_new]
    repeat walk_at "s"
    exact h
  · rw [h1, h2] at h
    refine ⟨by simp, ?_⟩
    repeat walk_at "s"
    refine wV_of (e_cut (k + 1) (sel a t) (none, some (n - 1)) _) ?_
    repeat walk_at "s"
    refine wV_of (d := .bl false) (h := _) (by rw [e_void (k + 2), h1]) ?_
    repeat walk_at "s"
    refine ⟨ty_list at_new, ?_⟩
    repeat walk_at "s"
    refine wV_of (e_withn (k + 1) h3 _ _ _ _) ?_
    repeat walk_at "s"
    refine wV_of (e_at (k + 1) _ _ _ _) ?_
    repeat walk_at "s"
    refine wV_append at_new (by simp) ?_
    rw [set_new]
    repeat walk_at "s"
    refine ⟨by simp, ?_⟩
    repeat walk_at "s"
    refine wV_of (e_cut (k + 1) (sel a t) (some n, none) _) ?_
    repeat walk_at "s"
    refine wV_of (d := .bl true) (h := _) (by rw [e_void (k + 2), h2]) ?_
    repeat walk_at "s"
    exact h
  · rw [h1, h2] at h
    refine ⟨by simp, ?_⟩
    repeat walk_at "s"
    refine wV_of (e_cut (k + 1) (sel a t) (none, some (n - 1)) _) ?_
    repeat walk_at "s"
    refine wV_of (d := .bl true) (h := _) (by rw [e_void (k + 2), h1]) ?_
    repeat walk_at "s"
    refine ⟨by simp, ?_⟩
    repeat walk_at "s"
    refine wV_of (e_cut (k + 1) (sel a t) (some n, none) _) ?_
    repeat walk_at "s"
    refine wV_of (d := .bl false) (h := _) (by rw [e_void (k + 2), h2]) ?_
    repeat walk_at "s"
    refine ⟨ty_list at_new, ?_⟩
    repeat walk_at "s"
    refine wV_of (e_withn (k + 1) h3 _ _ _ _) ?_
    repeat walk_at "s"
    refine wV_of (e_moved k _ _ _) ?_
    repeat walk_at "s"
    refine wV_append at_new (by simp) ?_
    rw [set_new]
    repeat walk_at "s"
    exact h
  · rw [h1, h2] at h
    refine ⟨by simp, ?_⟩
    repeat walk_at "s"
    refine wV_of (e_cut (k + 1) (sel a t) (none, some (n - 1)) _) ?_
    repeat walk_at "s"
    refine wV_of (d := .bl true) (h := _) (by rw [e_void (k + 2), h1]) ?_
    repeat walk_at "s"
    refine ⟨by simp, ?_⟩
    repeat walk_at "s"
    refine wV_of (e_cut (k + 1) (sel a t) (some n, none) _) ?_
    repeat walk_at "s"
    refine wV_of (d := .bl true) (h := _) (by rw [e_void (k + 2), h2]) ?_
    repeat walk_at "s"
    exact h
noncomputable def befB (a b : Nat) (t : Tri) : Pr := cutP (sel a t) (none, pl2 (sel b t).2 (some (-1)))
noncomputable def befA (a b : Nat) (t : Tri) : Pr := cutP (sel b t) (pl2 (sel a t).1 (some 1), none)
noncomputable def befR (a b : Nat) (t : Tri) : Pr := cutP (sel a t) ((sel b t).1, none)
noncomputable def befC (a b : Nat) (t : Tri) : Pr := cutP (sel b t) (none, (sel a t).2)
noncomputable def befL (a b : Nat) (q pl : Int) (t : Tri) : List (Int × Tri) := if a = b then [(pl + 1, t)] else
  (if vd (befB a b t) then [] else [(q, upt b (befA a b t) (upt a (befB a b t) t))]) ++ (if vd (befR a b t) then [] else [(pl + 1, upt b (befC a b t) (upt a (befR a b t) t))])
theorem run_before (k : Nat) {a b : Nat} (ha : a < 3) (hb : b < 3) (q pl : Int) (t : Tri) (mh : MH) {P : D → MH → Prop} (h : P (.ref mh.length) (mh ++ [.lst (parts (befL a b q pl t))])) : wV (runF (Gk (k + 4)) fuel f84 [mineD pl t, .int a, .int b, .int q] mh) P := by
  refine wV_run (b84_eq (k + 3)) lenP84 lenN84 rfl ?_
  show wS (b84 (k + 3)) [some (mineD pl t), some (.int a), some (.int b), some (.int q), none, none, none, none, none, none, none] mh _
  unfold b84
  repeat walk_at "s"
  unfold befL at h
  by_cases e : a = b
  · refine when_tt (by rw [beq_iff_eq]; omega) ?_
    repeat walk_at "s"
    refine wV_of (e_moved k _ _ _) ?_
    repeat walk_at "s"
    refine ⟨by simp, ?_⟩
    rw [if_pos e] at h
    exact h
  · refine when_ff (by rw [beq_eq_false_iff_ne]; omega) ?_
    repeat walk_at "s"
    rw [if_neg e] at h
    refine wV_ixT (j := 1) (d := triD t) rfl ?_
    repeat walk_at "s"
    refine wV_ixT (j := a) (tri_at ha t) ?_
    repeat walk_at "s"
    refine wV_ixT (j := 1) (d := triD t) rfl ?_
    repeat walk_at "s"
    refine wV_ixT (j := b) (tri_at hb t) ?_
    repeat walk_at "s"
    refine ⟨by simp, ?_⟩
    repeat walk_at "s"
    refine wV_ixT (j := 1) (d := ob (sel b t).2) rfl ?_
    repeat walk_at "s"
    refine wV_of (e_more (k + 2) _ _ _) ?_
    repeat walk_at "s"
    refine ⟨by simp, ?_⟩
    repeat walk_at "s"
    refine wV_of (e_cut (k + 1) (sel a t) (none, pl2 (sel b t).2 (some (-1))) _) ?_
    repeat walk_at "s"
    cases h1 : vd (befB a b t) <;> cases h2 : vd (befR a b t)
    · rw [h1, h2] at h
      refine wV_of (d := .bl false) (h := _) (by rw [e_void (k + 2)]; unfold befB at h1; rw [h1]) ?_
      repeat walk_at "s"
      refine wV_ixT (j := 0) (d := ob (sel a t).1) rfl ?_
      repeat walk_at "s"
      refine wV_of (e_more (k + 2) _ _ _) ?_
      repeat walk_at "s"
      refine ⟨by simp, ?_⟩
      repeat walk_at "s"
      refine wV_of (e_cut (k + 1) (sel b t) (pl2 (sel a t).1 (some 1), none) _) ?_
      repeat walk_at "s"
      refine ⟨ty_list at_new, ?_⟩
      repeat walk_at "s"
      refine wV_of (e_withn (k + 1) ha _ _ _ _) ?_
      repeat walk_at "s"
      refine wV_of (e_withn (k + 1) hb _ _ _ _) ?_
      repeat walk_at "s"
      refine wV_of (e_at (k + 1) _ _ _ _) ?_
      repeat walk_at "s"
      refine wV_append at_new (by simp) ?_
      rw [set_new]
      repeat walk_at "s"
      refine wV_ixT (j := 0) (d := ob (sel b t).1) rfl ?_
      repeat walk_at "s"
      refine ⟨by simp, ?_⟩
      repeat walk_at "s"
      refine wV_of (e_cut (k + 1) (sel a t) ((sel b t).1, none) _) ?_
      repeat walk_at "s"
      refine wV_of (d := .bl false) (h := _) (by rw [e_void (k + 2)]; unfold befR at h2; rw [h2]) ?_
      repeat walk_at "s"
      refine wV_ixT (j := 1) (d := ob (sel a t).2) rfl ?_
      repeat walk_at "s"
      refine ⟨by simp, ?_⟩
      repeat walk_at "s"
      refine wV_of (e_cut (k + 1) (sel b t) (none, (sel a t).2) _) ?_
      repeat walk_at "s"
      refine ⟨ty_list at_new, ?_⟩
      repeat walk_at "s"
      refine wV_of (e_withn (k + 1) ha _ _ _ _) ?_
      repeat walk_at "s"
      refine wV_of (e_withn (k + 1) hb _ _ _ _) ?_
      repeat walk_at "s"
      refine wV_of (e_moved k _ _ _) ?_
      repeat walk_at "s"
      refine wV_append at_new (by simp) ?_
      rw [set_new]
      repeat walk_at "s"
      exact h
    · rw [h1, h2] at h
      refine wV_of (d := .bl false) (h := _) (by rw [e_void (k + 2)]; unfold befB at h1; rw [h1]) ?_
      repeat walk_at "s"
      refine wV_ixT (j := 0) (d := ob (sel a t).1) rfl ?_
      repeat walk_at "s"
      refine wV_of (e_more (k + 2) _ _ _) ?_
      repeat walk_at "s"
      refine ⟨by simp, ?_⟩
      repeat walk_at "s"
      refine wV_of (e_cut (k + 1) (sel b t) (pl2 (sel a t).1 (some 1), none) _) ?_
      repeat walk_at "s"
      refine ⟨ty_list at_new, ?_⟩
      repeat walk_at "s"
      refine wV_of (e_withn (k + 1) ha _ _ _ _) ?_
      repeat walk_at "s"
      refine wV_of (e_withn (k + 1) hb _ _ _ _) ?_
      repeat walk_at "s"
      refine wV_of (e_at (k + 1) _ _ _ _) ?_
      repeat walk_at "s"
      refine wV_append at_new (by simp) ?_
      rw [set_new]
      repeat walk_at "s"
      refine wV_ixT (j := 0) (d := ob (sel b t).1) rfl ?_
      repeat walk_at "s"
      refine ⟨by simp, ?_⟩
      repeat walk_at "s"
      refine wV_of (e_cut (k + 1) (sel a t) ((sel b t).1, none) _) ?_
      repeat walk_at "s"
      refine wV_of (d := .bl true) (h := _) (by rw [e_void (k + 2)]; unfold befR at h2; rw [h2]) ?_
      repeat walk_at "s"
      exact h
    · rw [h1, h2] at h
      refine wV_of (d := .bl true) (h := _) (by rw [e_void (k + 2)]; unfold befB at h1; rw [h1]) ?_
      repeat walk_at "s"
      refine wV_ixT (j := 0) (d := ob (sel b t).1) rfl ?_
      repeat walk_at "s"
      refine ⟨by simp, ?_⟩
      repeat walk_at "s"
      refine wV_of (e_cut (k + 1) (sel a t) ((sel b t).1, none) _) ?_
      repeat walk_at "s"
      refine wV_of (d := .bl false) (h := _) (by rw [e_void (k + 2)]; unfold befR at h2; rw [h2]) ?_
      repeat walk_at "s"
      refine wV_ixT (j := 1) (d := ob (sel a t).2) rfl ?_
      repeat walk_at "s"
      refine ⟨by simp, ?_⟩
      repeat walk_at "s"
      refine wV_of (e_cut (k + 1) (sel b t) (none, (sel a t).2) _) ?_
      repeat walk_at "s"
      refine ⟨ty_list at_new, ?_⟩
      repeat walk_at "s"
      refine wV_of (e_withn (k + 1) ha _ _ _ _) ?_
      repeat walk_at "s"
      refine wV_of (e_withn (k + 1) hb _ _ _ _) ?_
      repeat walk_at "s"
      refine wV_of (e_moved k _ _ _) ?_
      repeat walk_at "s"
      refine wV_append at_new (by simp) ?_
      rw [set_new]
      repeat walk_at "s"
      exact h
    · rw [h1, h2] at h
      refine wV_of (d := .bl true) (h := _) (by rw [e_void (k + 2)]; unfold befB at h1; rw [h1]) ?_
      repeat walk_at "s"
      refine wV_ixT (j := 0) (d := ob (sel b t).1) rfl ?_
      repeat walk_at "s"
      refine ⟨by simp, ?_⟩
      repeat walk_at "s"
      refine wV_of (e_cut (k + 1) (sel a t) ((sel b t).1, none) _) ?_
      repeat walk_at "s"
      refine wV_of (d := .bl true) (h := _) (by rw [e_void (k + 2)]; unfold befR at h2; rw [h2]) ?_
      repeat walk_at "s"
      exact h
theorem wD_compL {mi : DM Src} {cs : List (Option Nat)} {g : GM} {tc : DM Bool} {me : DM D} {loc : DL.Loc} {mh : MH} {Q : D → MH → Prop} (h : wD mi loc mh fun src h0 => ∃ n ds, ∃ (p : D → Bool) (f : D → D), src = .lref n ∧ h0[n]? = some (.lst ds) ∧ ds.length ≤ 1000000 ∧
    (∀ d ∈ ds, ∃ l1, g d (capD cs loc) h0 = some (l1, h0) ∧ tc l1 h0 = some (p d, h0) ∧ (p d = true → me l1 h0 = some (f d, h0))) ∧ Q (.ref h0.length) (h0 ++ [.lst ((ds.filter p).map f)])) : wD (compM mi cs g tc me) loc mh Q := by
  obtain ⟨src, h0, e, n, ds, p, f, rfl, hn, hz, step, q⟩ := h
  exact ⟨_, _, compM_ref e hn (le_size hz) step, q⟩
theorem filter_all {l : List D} : l.filter (fun _ => true) = l := List.filter_eq_self.mpr fun _ _ => rfl
noncomputable def Gives (r : MH → Option (D × MH)) (l : List D) : Prop := ∀ h, ∃ j h', r h = some (.ref j, h') ∧ Ext [] h h' ∧ h'[j]? = some (.lst l) ∧ h.length ≤ j
theorem Gives.w {r : MH → Option (D × MH)} {l : List D} (g : Gives r l) {h : MH} {P : D → MH → Prop} (c : ∀ j h', Ext [] h h' → h'[j]? = some (.lst l) → h.length ≤ j → P (.ref j) h') : wV (r h) P := by
  obtain ⟨j, h', e, x, y, z⟩ := g h
  exact ⟨_, _, e, c j h' x y z⟩
theorem Gives.of {r : MH → Option (D × MH)} {l : List D} (g : ∀ h, wV (r h) fun d h' => ∃ j, d = .ref j ∧ Ext [] h h' ∧ h'[j]? = some (.lst l) ∧ h.length ≤ j) : Gives r l := fun h => by
  obtain ⟨d, h', e, j, rfl, x, y, z⟩ := g h
  exact ⟨j, h', e, x, y, z⟩
theorem Gives.new {r : MH → Option (D × MH)} {l : List D} (g : ∀ h, r h = some (.ref h.length, h ++ [.lst l])) : Gives r l := fun h => ⟨_, _, g h, Ext.more, at_new, Nat.le_refl _⟩
theorem lt_len {h : MH} {j : Nat} {o : MO} (e : h[j]? = some o) : j < h.length := (List.getElem?_eq_some_iff.mp e).1
theorem take_flat {F : D → List D} {ms : List D} {i : Nat} {m : D} (e : ms[i]? = some m) : (ms.take (i + 1)).flatMap F = (ms.take i).flatMap F ++ F m := by
  rw [List.take_add_one, e]
  simp
theorem take_len {F : D → List D} (ms : List D) (i : Nat) : ((ms.take i).flatMap F).length ≤ (ms.flatMap F).length := by
  conv => rhs; rw [← List.take_append_drop i ms]
  rw [List.flatMap_append, List.length_append]
  omega
theorem run_spread (k : Nat) {pr w : D} {ms : List D} {F : D → List D} (hm : Gives (fun h => runF (Gk k) fuel f64 [pr, w] h) ms) (ho : ∀ m ∈ ms, Gives (fun h => runF (Gk k) fuel f80 [pr, w, m] h) (F m)) (hz : (ms.flatMap fun m => (F m).map fun o => D.tup [m, o]).length ≤ 1000) :
    Gives (fun h => runF (Gk (k + 1)) fuel f79 [pr, w] h) (ms.flatMap fun m => (F m).map fun o => D.tup [m, o]) := by
  refine Gives.of fun mh => ?_
  refine wV_run (b79_eq k) lenP79 lenN79 rfl ?_
  show wS (b79 k) [some pr, some w, none, none] mh _
  unfold b79
  repeat walk_at "s"
  refine ⟨by simp, ?_⟩
  repeat walk_at "s"
  refine wS_for ?_
  repeat walk_at "s"
  refine hm.w fun jm h1 x1 g1 lj => ?_
  have o1 := x1.old _ _ (by simp) (at_new (a := mh) (o := .lst []))
  have ne : jm ≠ mh.length := by rw [List.length_append, List.length_singleton] at lj; omega
  refine ⟨_, src_list g1, ms, fun i loc h => ∃ x, loc = [some pr, some w, some (.ref mh.length), x] ∧ h[jm]? = some (.lst ms) ∧ h[mh.length]? = some (.lst ((ms.take i).flatMap fun m => (F m).map fun o => D.tup [m, o])) ∧ Ext [] mh h, ⟨none, rfl, g1, o1, Ext.more.trans x1⟩, ?_, ?_, ?_⟩
  · rintro i l h ⟨x, rfl, g, _, _⟩
    exact lref_keep g
  · rintro i m l h ed ⟨x, rfl, g2, g3, x3⟩
    have hmm := List.mem_of_getElem? ed
    have len := take_len (F := fun m => (F m).map fun o => D.tup [m, o]) ms (i + 1)
    rw [take_flat ed, List.length_append, List.length_map] at len
    repeat walk_at "s"
    refine ⟨ty_list g3, ?_⟩
    repeat walk_at "s"
    refine wD_compL ?_
    repeat walk_at "s"
    refine (ho m hmm).w fun jo h4 x4 g4 l4 => ?_
    refine ⟨_, src_list g4, jo, F m, fun _ => true, fun o => .tup [m, o], rfl, g4, by omega, fun d _ => ⟨_, rfl, rfl, fun _ => by kernel_rfl⟩, ?_⟩
    rw [filter_all]
    repeat walk_at "s"
    have g5 := (x4.trans (Ext.more (g := [MO.lst ((F m).map fun o => D.tup [m, o])]))).old _ _ (by simp) g3
    have g6 := (x4.trans (Ext.more (g := [MO.lst ((F m).map fun o => D.tup [m, o])]))).old _ _ (by simp) g2
    refine wV_extend g5 at_new (by rw [List.length_map]; omega) ?_
    repeat walk_at "s"
    refine ⟨_, rfl, ?_, ?_, ?_⟩
    · rw [List.getElem?_set_ne (fun z => ne z.symm)]; exact g6
    · rw [take_flat ed]; exact at_set g5
    · exact (x3.trans (x4.trans Ext.more)).setNew (Nat.le_refl _)
  · rintro l h ⟨x, rfl, g2, g3, x3⟩
    rw [List.take_length] at g3
    repeat walk_at "s"
    exact ⟨_, rfl, x3, g3, Nat.le_refl _⟩
theorem map_take {F : D → D} {ms : List D} {i : Nat} {m : D} (e : ms[i]? = some m) : (ms.take (i + 1)).map F = (ms.take i).map F ++ [F m] := by
  rw [List.take_add_one, e]
  simp
noncomputable def doD (d c : D) : D := .tup [.str "do", d, c]
theorem run_moves (k : Nat) {pr w : D} {hs ls fs : List D} {cs : D → List D} (ha : Gives (fun h => runF (Gk k) fuel f36 [w] h) hs) (hc : ∀ d ∈ hs, Gives (fun h => runF (Gk k) fuel f45 [pr, w, d] h) (cs d)) (hl : Gives (fun h => runF (Gk k) fuel f65 [w] h) ls) (hf : Gives (fun h => runF (Gk k) fuel f66 [w] h) fs)
    (hz : (hs.flatMap fun d => (cs d).map (doD d)).length + ls.length + fs.length ≤ 1000) : Gives (fun h => runF (Gk (k + 1)) fuel f64 [pr, w] h) ((hs.flatMap fun d => (cs d).map (doD d)) ++ ls ++ fs) := by
  refine Gives.of fun mh => ?_
  refine wV_run (b64_eq k) lenP64 lenN64 rfl ?_
  show wS (b64 k) [some pr, some w, none, none, none] mh _
  unfold b64
  repeat walk_at "s"
  refine ⟨by simp, ?_⟩
  repeat walk_at "s"
  refine wS_for ?_
  repeat walk_at "s"
  refine ha.w fun ja h1 x1 g1 lj => ?_
  have o1 := x1.old _ _ (by simp) (at_new (a := mh) (o := .lst []))
  have ne : ja ≠ mh.length := by rw [List.length_append, List.length_singleton] at lj; omega
  refine ⟨_, src_list g1, hs, fun i loc h => ∃ x y, loc = [some pr, some w, some (.ref mh.length), x, y] ∧ h[ja]? = some (.lst hs) ∧ h[mh.length]? = some (.lst ((hs.take i).flatMap fun d => (cs d).map (doD d))) ∧ Ext [] mh h, ⟨none, none, rfl, g1, o1, Ext.more.trans x1⟩, ?_, ?_, ?_⟩
  · rintro i l h ⟨x, y, rfl, g, _, _⟩
    exact lref_keep g
  · rintro i d l h ed ⟨x, y, rfl, g2, g3, x3⟩
    have hmm := List.mem_of_getElem? ed
    have len := take_len (F := fun d => (cs d).map (doD d)) hs (i + 1)
    rw [take_flat ed, List.length_append, List.length_map] at len
    repeat walk_at "s"
    refine wS_for ?_
    repeat walk_at "s"
    refine (hc d hmm).w fun jc h4 x4 g4 l4 => ?_
    have ne2 : jc ≠ mh.length := by have := lt_len g3; omega
    refine ⟨_, src_list g4, cs d, fun i' loc h => ∃ y, loc = [some pr, some w, some (.ref mh.length), some d, y] ∧ h[jc]? = some (.lst (cs d)) ∧ h[ja]? = some (.lst hs) ∧ h[mh.length]? = some (.lst (((hs.take i).flatMap fun d => (cs d).map (doD d)) ++ ((cs d).take i').map (doD d))) ∧ Ext [] mh h, ⟨y, rfl, g4, x4.old _ _ (by simp) g2, by rw [List.take_zero, List.map_nil, List.append_nil]; exact x4.old _ _ (by simp) g3, x3.trans x4⟩, ?_, ?_, ?_⟩
    · rintro i' l h ⟨y, rfl, g, _⟩
      exact lref_keep g
    · rintro i' c l h ec ⟨y, rfl, g5, g6, g7, x7⟩
      have li := (List.getElem?_eq_some_iff.mp ec).1
      repeat walk_at "s"
      refine ⟨ty_list g7, ?_⟩
      repeat walk_at "s"
      refine ⟨by simp, ?_⟩
      repeat walk_at "s"
      refine wV_append g7 (by rw [List.length_append, List.length_map, List.length_take]; omega) ?_
      repeat walk_at "s"
      refine ⟨_, rfl, ?_, ?_, ?_, ?_⟩
      · rw [List.getElem?_set_ne (fun z => ne2 z.symm)]; exact g5
      · rw [List.getElem?_set_ne (fun z => ne z.symm)]; exact g6
      · rw [map_take ec, ← List.append_assoc]; exact at_set g7
      · exact x7.setNew (Nat.le_refl _)
    · rintro l h ⟨y, rfl, g5, g6, g7, x7⟩
      repeat walk_at "s"
      refine ⟨_, _, rfl, g6, ?_, x7⟩
      rw [take_flat ed]
      rw [List.take_length] at g7
      exact g7
  · rintro l h ⟨x, y, rfl, g2, g3, x3⟩
    rw [List.take_length] at g3
    repeat walk_at "s"
    refine hl.w fun jl h4 x4 g4 l4 => ?_
    refine wV_addL (x4.old _ _ (by simp) g3) g4 (by omega) ?_
    repeat walk_at "s"
    refine hf.w fun jf h5 x5 g5 l5 => ?_
    refine wV_addL (x5.old _ _ (by simp) at_new) g5 (by rw [List.length_append]; omega) ?_
    have x6 := ((x3.trans x4).trans Ext.more).trans x5
    exact ⟨_, rfl, x6.trans Ext.more, at_new, x6.len⟩
inductive Kd where
  | put (a : Nat) (n : Int) | copy (a b : Nat) | rai (a : Nat) (n : Int) | sum (a b : Nat) | cho (a n : Nat) | less (a : Nat) (n : Int) (q : Nat) | bef (a b q : Nat)
noncomputable def kdD : Kd → D
  | .put a n => .tup [.str "put", .int a, .int n]
  | .copy a b => .tup [.str "copy", .int a, .int b]
  | .rai a n => .tup [.str "raise", .int a, .int n]
  | .sum a b => .tup [.str "sum", .int a, .int b]
  | .cho a n => .tup [.str "choose", .int a, .int n]
  | .less a n q => .tup [.str "less", .int a, .int n, .int q]
  | .bef a b q => .tup [.str "before", .int a, .int b, .int q]
noncomputable def Kd.box : Kd → Nat
  | .put a _ => a
  | .copy a _ => a
  | .rai a _ => a
  | .sum a _ => a
  | .cho a _ => a
  | .less a _ _ => a
  | .bef a _ _ => a
noncomputable def Kd.ok : Kd → Prop
  | .put a _ => a < 3
  | .copy a b => a < 3 ∧ b < 3
  | .rai a _ => a < 3
  | .sum a b => a < 3 ∧ b < 3
  | .cho a n => a < 3 ∧ n ≤ 20
  | .less a _ _ => a < 3
  | .bef a b _ => a < 3 ∧ b < 3
noncomputable def recP (c : Int) (t : Tri) : Kd → Pr
  | .put _ n => (some n, some n)
  | .copy _ b => sel b t
  | .rai a n => addP (sel a t) (some n, some n)
  | .sum a b => addP (sel a t) (sel b t)
  | _ => (some c, some c)
noncomputable def resL (c : Int) (t : Tri) : Kd → List (Int × Tri)
  | .less a n q => lessR a n q 0 t
  | .bef a b q => befL a b q 0 t
  | s => [(0 + 1, upt s.box (recP c t s) t)]
theorem eq_no {x y : D} {mh : MH} {P : D → MH → Prop} (e : ∀ mh, eqD x y mh = some (.bl false, mh)) (h : P (.bl false) mh) : wV (eqD x y mh) P := ⟨_, _, e mh, h⟩
theorem eq_yes {x y : D} {mh : MH} {P : D → MH → Prop} (e : ∀ mh, eqD x y mh = some (.bl true, mh)) (h : P (.bl true) mh) : wV (eqD x y mh) P := ⟨_, _, e mh, h⟩
theorem e_rpair (k c : Nat) (t : Tri) (s : Kd) (ok : s.ok) (hs : (∀ a n q, s ≠ .less a n q) ∧ ∀ a b q, s ≠ .bef a b q) (mh : MH) : runF (Gk (k + 3)) fuel f82 [triD t, kdD s, .int c] mh = some (prD (recP c t s), mh) := by
  cases s with
  | put a n => kernel_rfl
  | copy a b => rcases lt3 ok.2 with rfl | rfl | rfl <;> kernel_rfl
  | cho a n => kernel_rfl
  | less a n q => exact absurd rfl (hs.1 a n q)
  | bef a b q => exact absurd rfl (hs.2 a b q)
  | rai a n =>
    have w : wV (runF (Gk (k + 3)) fuel f82 [triD t, kdD (.rai a n), .int c] mh) fun d h => d = prD (recP c t (.rai a n)) ∧ h = mh := by
      refine wV_run (b82_eq (k + 2)) lenP82 lenN82 rfl ?_
      show wS (b82 (k + 2)) [some (triD t), some (.tup [.str "raise", .int a, .int n]), some (.int c), none] mh _
      unfold b82
      repeat walk_at "s"
      refine wV_ixT (j := 0) (d := .str "raise") rfl ?_
      repeat walk_at "s"
      refine eq_no (fun _ => by kernel_rfl) ?_
      repeat walk_at "s"
      refine eq_no (fun _ => by kernel_rfl) ?_
      repeat walk_at "s"
      refine eq_yes (fun _ => by kernel_rfl) ?_
      repeat walk_at "s"
      refine wV_ixT (j := 1) (d := .int a) rfl ?_
      refine wV_ixT (j := a) (tri_at ok t) ?_
      repeat walk_at "s"
      refine wV_ixT (j := 2) (d := .int n) rfl ?_
      repeat walk_at "s"
      refine wV_of (e_pair (k + 1) _ _) ?_
      repeat walk_at "s"
      exact wV_of (e_added k _ _ _) ⟨rfl, rfl⟩
    obtain ⟨d, h, e, rfl, rfl⟩ := w
    exact e
  | sum a b =>
    have w : wV (runF (Gk (k + 3)) fuel f82 [triD t, kdD (.sum a b), .int c] mh) fun d h => d = prD (recP c t (.sum a b)) ∧ h = mh := by
      refine wV_run (b82_eq (k + 2)) lenP82 lenN82 rfl ?_
      show wS (b82 (k + 2)) [some (triD t), some (.tup [.str "sum", .int a, .int b]), some (.int c), none] mh _
      unfold b82
      repeat walk_at "s"
      refine wV_ixT (j := 0) (d := .str "sum") rfl ?_
      repeat walk_at "s"
      refine eq_no (fun _ => by kernel_rfl) ?_
      repeat walk_at "s"
      refine eq_no (fun _ => by kernel_rfl) ?_
      repeat walk_at "s"
      refine eq_no (fun _ => by kernel_rfl) ?_
      repeat walk_at "s"
      refine eq_yes (fun _ => by kernel_rfl) ?_
      repeat walk_at "s"
      refine wV_ixT (j := 1) (d := .int a) rfl ?_
      refine wV_ixT (j := a) (tri_at ok.1 t) ?_
      repeat walk_at "s"
      refine wV_ixT (j := 2) (d := .int b) rfl ?_
      refine wV_ixT (j := b) (tri_at ok.2 t) ?_
      repeat walk_at "s"
      exact wV_of (e_added k _ _ _) ⟨rfl, rfl⟩
    obtain ⟨d, h, e, rfl, rfl⟩ := w
    exact e
theorem kd_a3 {s : Kd} (ok : s.ok) : s.box < 3 := by
  cases s with
  | put a n => exact ok
  | copy a b => exact ok.1
  | rai a n => exact ok
  | sum a b => exact ok.1
  | cho a n => exact ok.1
  | less a n q => exact ok
  | bef a b q => exact ok.1
theorem run_parts (k c : Nat) (t : Tri) (s : Kd) (ok : s.ok) (mh : MH) {P : D → MH → Prop} (h : P (.ref mh.length) (mh ++ [.lst (parts (resL c t s))])) : wV (runF (Gk (k + 5)) fuel f81 [mineD 0 t, kdD s, .int c] mh) P := by
  refine wV_run (b81_eq (k + 4)) lenP81 lenN81 rfl ?_
  cases s with
  | put a n =>
    show wS (b81 (k + 4)) [some (mineD 0 t), some (.tup [.str "put", .int a, .int n]), some (.int c)] mh _
    unfold b81
    repeat walk_at "s"
    refine wV_ixT (j := 0) (d := .str "put") rfl ?_
    repeat walk_at "s"
    refine eq_no (fun _ => by kernel_rfl) ?_
    repeat walk_at "s"
    refine wV_ixT (j := 0) (d := .str "put") rfl ?_
    repeat walk_at "s"
    refine eq_no (fun _ => by kernel_rfl) ?_
    repeat walk_at "s"
    refine wV_ixT (j := 1) (d := .int a) rfl ?_
    repeat walk_at "s"
    refine wV_ixT (j := 1) (d := triD t) rfl ?_
    repeat walk_at "s"
    refine wV_of (e_rpair (k + 1) c t (.put a n) ok ⟨fun _ _ _ z => (by cases z), fun _ _ _ z => (by cases z)⟩ _) ?_
    repeat walk_at "s"
    refine wV_of (e_withn (k + 2) (kd_a3 (s := .put a n) ok) _ _ _ _) ?_
    repeat walk_at "s"
    refine wV_of (e_moved (k + 1) _ _ _) ?_
    repeat walk_at "s"
    exact ⟨by simp, h⟩
  | copy a n =>
    show wS (b81 (k + 4)) [some (mineD 0 t), some (.tup [.str "copy", .int a, .int n]), some (.int c)] mh _
    unfold b81
    repeat walk_at "s"
    refine wV_ixT (j := 0) (d := .str "copy") rfl ?_
    repeat walk_at "s"
    refine eq_no (fun _ => by kernel_rfl) ?_
    repeat walk_at "s"
    refine wV_ixT (j := 0) (d := .str "copy") rfl ?_
    repeat walk_at "s"
    refine eq_no (fun _ => by kernel_rfl) ?_
    repeat walk_at "s"
    refine wV_ixT (j := 1) (d := .int a) rfl ?_
    repeat walk_at "s"
    refine wV_ixT (j := 1) (d := triD t) rfl ?_
    repeat walk_at "s"
    refine wV_of (e_rpair (k + 1) c t (.copy a n) ok ⟨fun _ _ _ z => (by cases z), fun _ _ _ z => (by cases z)⟩ _) ?_
    repeat walk_at "s"
    refine wV_of (e_withn (k + 2) (kd_a3 (s := .copy a n) ok) _ _ _ _) ?_
    repeat walk_at "s"
    refine wV_of (e_moved (k + 1) _ _ _) ?_
    repeat walk_at "s"
    exact ⟨by simp, h⟩
  | rai a n =>
    show wS (b81 (k + 4)) [some (mineD 0 t), some (.tup [.str "raise", .int a, .int n]), some (.int c)] mh _
    unfold b81
    repeat walk_at "s"
    refine wV_ixT (j := 0) (d := .str "raise") rfl ?_
    repeat walk_at "s"
    refine eq_no (fun _ => by kernel_rfl) ?_
    repeat walk_at "s"
    refine wV_ixT (j := 0) (d := .str "raise") rfl ?_
    repeat walk_at "s"
    refine eq_no (fun _ => by kernel_rfl) ?_
    repeat walk_at "s"
    refine wV_ixT (j := 1) (d := .int a) rfl ?_
    repeat walk_at "s"
    refine wV_ixT (j := 1) (d := triD t) rfl ?_
    repeat walk_at "s"
    refine wV_of (e_rpair (k + 1) c t (.rai a n) ok ⟨fun _ _ _ z => (by cases z), fun _ _ _ z => (by cases z)⟩ _) ?_
    repeat walk_at "s"
    refine wV_of (e_withn (k + 2) (kd_a3 (s := .rai a n) ok) _ _ _ _) ?_
    repeat walk_at "s"
    refine wV_of (e_moved (k + 1) _ _ _) ?_
    repeat walk_at "s"
    exact ⟨by simp, h⟩
  | sum a n =>
    show wS (b81 (k + 4)) [some (mineD 0 t), some (.tup [.str "sum", .int a, .int n]), some (.int c)] mh _
    unfold b81
    repeat walk_at "s"
    refine wV_ixT (j := 0) (d := .str "sum") rfl ?_
    repeat walk_at "s"
    refine eq_no (fun _ => by kernel_rfl) ?_
    repeat walk_at "s"
    refine wV_ixT (j := 0) (d := .str "sum") rfl ?_
    repeat walk_at "s"
    refine eq_no (fun _ => by kernel_rfl) ?_
    repeat walk_at "s"
    refine wV_ixT (j := 1) (d := .int a) rfl ?_
    repeat walk_at "s"
    refine wV_ixT (j := 1) (d := triD t) rfl ?_
    repeat walk_at "s"
    refine wV_of (e_rpair (k + 1) c t (.sum a n) ok ⟨fun _ _ _ z => (by cases z), fun _ _ _ z => (by cases z)⟩ _) ?_
    repeat walk_at "s"
    refine wV_of (e_withn (k + 2) (kd_a3 (s := .sum a n) ok) _ _ _ _) ?_
    repeat walk_at "s"
    refine wV_of (e_moved (k + 1) _ _ _) ?_
    repeat walk_at "s"
    exact ⟨by simp, h⟩
  | cho a n =>
    show wS (b81 (k + 4)) [some (mineD 0 t), some (.tup [.str "choose", .int a, .int n]), some (.int c)] mh _
    unfold b81
    repeat walk_at "s"
    refine wV_ixT (j := 0) (d := .str "choose") rfl ?_
    repeat walk_at "s"
    refine eq_no (fun _ => by kernel_rfl) ?_
    repeat walk_at "s"
    refine wV_ixT (j := 0) (d := .str "choose") rfl ?_
    repeat walk_at "s"
    refine eq_no (fun _ => by kernel_rfl) ?_
    repeat walk_at "s"
    refine wV_ixT (j := 1) (d := .int a) rfl ?_
    repeat walk_at "s"
    refine wV_ixT (j := 1) (d := triD t) rfl ?_
    repeat walk_at "s"
    refine wV_of (e_rpair (k + 1) c t (.cho a n) ok ⟨fun _ _ _ z => (by cases z), fun _ _ _ z => (by cases z)⟩ _) ?_
    repeat walk_at "s"
    refine wV_of (e_withn (k + 2) (kd_a3 (s := .cho a n) ok) _ _ _ _) ?_
    repeat walk_at "s"
    refine wV_of (e_moved (k + 1) _ _ _) ?_
    repeat walk_at "s"
    exact ⟨by simp, h⟩
  | less a n q =>
    show wS (b81 (k + 4)) [some (mineD 0 t), some (.tup [.str "less", .int a, .int n, .int q]), some (.int c)] mh _
    unfold b81
    repeat walk_at "s"
    refine wV_ixT (j := 0) (d := .str "less") rfl ?_
    repeat walk_at "s"
    refine eq_yes (fun _ => by kernel_rfl) ?_
    repeat walk_at "s"
    refine wV_ixT (j := 1) (d := .int a) rfl ?_
    repeat walk_at "s"
    refine wV_ixT (j := 2) (d := .int n) rfl ?_
    repeat walk_at "s"
    refine wV_ixT (j := 3) (d := .int q) rfl ?_
    repeat walk_at "s"
    exact run_less k ok _ _ _ _ _ h
  | bef a n q =>
    show wS (b81 (k + 4)) [some (mineD 0 t), some (.tup [.str "before", .int a, .int n, .int q]), some (.int c)] mh _
    unfold b81
    repeat walk_at "s"
    refine wV_ixT (j := 0) (d := .str "before") rfl ?_
    repeat walk_at "s"
    refine eq_no (fun _ => by kernel_rfl) ?_
    repeat walk_at "s"
    refine wV_ixT (j := 0) (d := .str "before") rfl ?_
    repeat walk_at "s"
    refine eq_yes (fun _ => by kernel_rfl) ?_
    repeat walk_at "s"
    refine wV_ixT (j := 1) (d := .int a) rfl ?_
    repeat walk_at "s"
    refine wV_ixT (j := 2) (d := .int n) rfl ?_
    repeat walk_at "s"
    refine wV_ixT (j := 3) (d := .int q) rfl ?_
    repeat walk_at "s"
    exact run_before k ok.1 ok.2 _ _ _ _ h
noncomputable def progD (s : D) : D := .tup [.int 1, .tup [.int 0, .int 0], .tup [.tup [s, .tup [.str "bell"]]], .tup [.int 0]]
noncomputable def oneD (m : D) : D := .tup [.tup [m], .tup [.tup [.tup []]], .tup [.int 0, .int 0]]
noncomputable def wldD (t : Tri) : D := oneD (mineD 0 t)
theorem e_now (k : Nat) (s : D) (t : Tri) (mh : MH) : runF (Gk (k + 4)) fuel f43 [progD s, wldD t, .int 0] mh = some (.obj "Step" ["form"] [s], mh) := by kernel_rfl
theorem e_part1 (k : Nat) (t : Tri) (mh : MH) : runF (Gk (k + 1)) fuel f37 [wldD t, .int 0] mh = some (mineD 0 t, mh) := by kernel_rfl
theorem g_hands1 (k : Nat) (t : Tri) : Gives (fun h => runF (Gk (k + 1)) fuel f36 [wldD t] h) [.int 0] := Gives.new fun h => by kernel_rfl
theorem g_loss1 (k : Nat) (t : Tri) : Gives (fun h => runF (Gk (k + 1)) fuel f65 [wldD t] h) [] := Gives.new fun h => by kernel_rfl
theorem g_fall1 (k : Nat) (t : Tri) : Gives (fun h => runF (Gk (k + 1)) fuel f66 [wldD t] h) [] := Gives.new fun h => by kernel_rfl
theorem rangeL_nat (n : Nat) : rangeL 0 n = (List.range n).map natD := List.map_congr_left fun x _ => by show D.int (0 + (x : Int)) = D.int (x : Int); rw [Int.zero_add]
noncomputable def chs : Kd → List Nat
  | .cho _ n => List.range n
  | _ => [0]
theorem run_told (k : Nat) (s : D) (mh : MH) {P : D → MH → Prop} (h : P s mh) : wV (runF (Gk (k + 1)) fuel f24_1 [.obj "Step" ["form"] [s]] mh) P := by
  refine wV_run (b24_1_eq k) lenP24_1 lenN24_1 rfl ?_
  show wS (b24_1 k) [some (.obj "Step" ["form"] [s])] mh _
  unfold b24_1
  repeat walk_at "s"
  exact ex_form (by decide +kernel) h
theorem g_choices (k : Nat) (t : Tri) (s : Kd) (ok : s.ok) : Gives (fun h => runF (Gk (k + 6)) fuel f45 [progD (kdD s), wldD t, .int 0] h) ((chs s).map natD) := by
  cases s with
  | put a n => exact Gives.new fun h => by kernel_rfl
  | copy a n => exact Gives.new fun h => by kernel_rfl
  | rai a n => exact Gives.new fun h => by kernel_rfl
  | sum a n => exact Gives.new fun h => by kernel_rfl
  | less a n q => exact Gives.new fun h => by kernel_rfl
  | bef a n q => exact Gives.new fun h => by kernel_rfl
  | cho a n =>
    refine Gives.of fun mh => ?_
    refine wV_run (b45_eq (k + 5)) lenP45 lenN45 rfl ?_
    show wS (b45 (k + 5)) [some (progD (kdD (.cho a n))), some (wldD t), some (.int 0), none, none] mh _
    unfold b45
    repeat walk_at "s"
    refine wV_of (e_now (k + 1) _ _ _) ?_
    repeat walk_at "s"
    refine wV_of (d := .bl false) (h := mh) rfl ?_
    repeat walk_at "s"
    refine ⟨_, _, _, _, _, rfl, rfl, by decide +kernel, ?_⟩
    repeat walk_at "s"
    refine run_told (k + 4) _ mh ?_
    repeat walk_at "s"
    refine wV_ixT (j := 0) (d := .str "choose") rfl ?_
    repeat walk_at "s"
    refine eq_yes (fun _ => by kernel_rfl) ?_
    repeat walk_at "s"
    refine wV_ixT (j := 2) (d := .int n) rfl ?_
    have hn : n ≤ 20 := ok.2
    have e1 : -(2 ^ 62) ≤ (n : Int) ∧ (n : Int) ≤ 1000000 := by omega
    refine wV_of (d := .ref mh.length) (h := mh ++ [.lst (rangeL 0 n)]) (by show (if -(2 ^ 62) ≤ (n : Int) ∧ (n : Int) ≤ 1000000 then some (D.ref mh.length, mh ++ [MO.lst (rangeL 0 (n : Int).toNat)]) else none) = _; rw [if_pos e1, Int.toNat_natCast]) ?_
    repeat walk_at "s"
    refine ⟨_, rfl, Ext.more, ?_, Nat.le_refl _⟩
    rw [at_new, rangeL_nat]
    rfl
theorem in_no {neg : Bool} {x y : D} {b : Bool} {mh : MH} {P : D → MH → Prop} (e : ∀ mh, inD neg x y mh = some (.bl b, mh)) (h : P (.bl b) mh) : wV (inD neg x y mh) P := ⟨_, _, e mh, h⟩
theorem less_len (a : Nat) (n q pl : Int) (t : Tri) : (lessR a n q pl t).length ≤ 2 := by
  unfold lessR
  split <;> split <;> simp
theorem bef_len (a b : Nat) (q pl : Int) (t : Tri) : (befL a b q pl t).length ≤ 2 := by
  unfold befL
  split
  · simp
  · split <;> split <;> simp
theorem res_len (c : Int) (t : Tri) (s : Kd) : (resL c t s).length ≤ 2 := by
  cases s with
  | less a n q => exact less_len _ _ _ _ _
  | bef a b q => exact bef_len _ _ _ _ _
  | _ => simp [resL]
theorem g_out (k c : Nat) (t : Tri) (s : Kd) (ok : s.ok) : Gives (fun h => runF (Gk (k + 6)) fuel f80 [progD (kdD s), wldD t, doD (.int 0) (.int c)] h) ((resL c t s).map fun z => oneD (mineD z.1 z.2)) := by
  have len : ∀ s : Kd, s.ok → (parts (resL c t s)).length ≤ 1000000 := fun s _ => by
    unfold parts
    rw [List.length_map]
    have := res_len c t s
    omega
  refine Gives.of fun mh => ?_
  refine wV_run (b80_eq (k + 5)) lenP80 lenN80 rfl ?_
  cases s with
  | put a n =>
    show wS (b80 (k + 5)) [some (progD (kdD (.put a n))), some (wldD t), some (doD (.int 0) (.int c)), none, none, none, none] mh _
    unfold b80
    repeat walk_at "s"
    refine wV_ixT (j := 0) (d := .str "do") rfl ?_
    repeat walk_at "s"
    refine eq_yes (fun _ => by kernel_rfl) ?_
    repeat walk_at "s"
    refine wV_ixT (j := 1) (d := .int 0) rfl ?_
    repeat walk_at "s"
    refine wV_of (e_now (k + 1) _ _ _) ?_
    refine ⟨_, _, _, _, _, rfl, rfl, by decide +kernel, ?_⟩
    repeat walk_at "s"
    refine run_told (k + 4) _ mh ?_
    repeat walk_at "s"
    refine wV_ixT (j := 0) (d := .str "put") rfl ?_
    repeat walk_at "s"
    refine ⟨by simp, ?_⟩
    refine in_no (b := false) (fun _ => by kernel_rfl) ?_
    repeat walk_at "s"
    refine wV_ixT (j := 0) (d := .str "put") rfl ?_
    repeat walk_at "s"
    refine in_no (b := true) (fun _ => by kernel_rfl) ?_
    repeat walk_at "s"
    refine wV_ixT (j := 1) (d := .int 0) rfl ?_
    repeat walk_at "s"
    refine wV_of (e_part1 (k + 4) _ _) ?_
    repeat walk_at "s"
    refine wV_ixT (j := 2) (d := .int c) rfl ?_
    repeat walk_at "s"
    refine run_parts k c t (.put a n) ok mh ?_
    repeat walk_at "s"
    refine wD_compL ?_
    repeat walk_at "s"
    refine ⟨_, src_list at_new, mh.length, _, fun _ => true, oneD, rfl, at_new, len _ ok, fun d _ => ⟨_, rfl, rfl, fun _ => by kernel_rfl⟩, ?_⟩
    rw [filter_all]
    repeat walk_at "s"
    refine ⟨_, rfl, Ext.more.trans Ext.more, ?_, by rw [List.length_append]; exact Nat.le_add_right _ _⟩
    rw [at_new]
    unfold parts
    rw [List.map_map]
    rfl
  | copy a n =>
    show wS (b80 (k + 5)) [some (progD (kdD (.copy a n))), some (wldD t), some (doD (.int 0) (.int c)), none, none, none, none] mh _
    unfold b80
    repeat walk_at "s"
    refine wV_ixT (j := 0) (d := .str "do") rfl ?_
    repeat walk_at "s"
    refine eq_yes (fun _ => by kernel_rfl) ?_
    repeat walk_at "s"
    refine wV_ixT (j := 1) (d := .int 0) rfl ?_
    repeat walk_at "s"
    refine wV_of (e_now (k + 1) _ _ _) ?_
    refine ⟨_, _, _, _, _, rfl, rfl, by decide +kernel, ?_⟩
    repeat walk_at "s"
    refine run_told (k + 4) _ mh ?_
    repeat walk_at "s"
    refine wV_ixT (j := 0) (d := .str "copy") rfl ?_
    repeat walk_at "s"
    refine ⟨by simp, ?_⟩
    refine in_no (b := false) (fun _ => by kernel_rfl) ?_
    repeat walk_at "s"
    refine wV_ixT (j := 0) (d := .str "copy") rfl ?_
    repeat walk_at "s"
    refine in_no (b := true) (fun _ => by kernel_rfl) ?_
    repeat walk_at "s"
    refine wV_ixT (j := 1) (d := .int 0) rfl ?_
    repeat walk_at "s"
    refine wV_of (e_part1 (k + 4) _ _) ?_
    repeat walk_at "s"
    refine wV_ixT (j := 2) (d := .int c) rfl ?_
    repeat walk_at "s"
    refine run_parts k c t (.copy a n) ok mh ?_
    repeat walk_at "s"
    refine wD_compL ?_
    repeat walk_at "s"
    refine ⟨_, src_list at_new, mh.length, _, fun _ => true, oneD, rfl, at_new, len _ ok, fun d _ => ⟨_, rfl, rfl, fun _ => by kernel_rfl⟩, ?_⟩
    rw [filter_all]
    repeat walk_at "s"
    refine ⟨_, rfl, Ext.more.trans Ext.more, ?_, by rw [List.length_append]; exact Nat.le_add_right _ _⟩
    rw [at_new]
    unfold parts
    rw [List.map_map]
    rfl
  | rai a n =>
    show wS (b80 (k + 5)) [some (progD (kdD (.rai a n))), some (wldD t), some (doD (.int 0) (.int c)), none, none, none, none] mh _
    unfold b80
    repeat walk_at "s"
    refine wV_ixT (j := 0) (d := .str "do") rfl ?_
    repeat walk_at "s"
    refine eq_yes (fun _ => by kernel_rfl) ?_
    repeat walk_at "s"
    refine wV_ixT (j := 1) (d := .int 0) rfl ?_
    repeat walk_at "s"
    refine wV_of (e_now (k + 1) _ _ _) ?_
    refine ⟨_, _, _, _, _, rfl, rfl, by decide +kernel, ?_⟩
    repeat walk_at "s"
    refine run_told (k + 4) _ mh ?_
    repeat walk_at "s"
    refine wV_ixT (j := 0) (d := .str "raise") rfl ?_
    repeat walk_at "s"
    refine ⟨by simp, ?_⟩
    refine in_no (b := false) (fun _ => by kernel_rfl) ?_
    repeat walk_at "s"
    refine wV_ixT (j := 0) (d := .str "raise") rfl ?_
    repeat walk_at "s"
    refine in_no (b := true) (fun _ => by kernel_rfl) ?_
    repeat walk_at "s"
    refine wV_ixT (j := 1) (d := .int 0) rfl ?_
    repeat walk_at "s"
    refine wV_of (e_part1 (k + 4) _ _) ?_
    repeat walk_at "s"
    refine wV_ixT (j := 2) (d := .int c) rfl ?_
    repeat walk_at "s"
    refine run_parts k c t (.rai a n) ok mh ?_
    repeat walk_at "s"
    refine wD_compL ?_
    repeat walk_at "s"
    refine ⟨_, src_list at_new, mh.length, _, fun _ => true, oneD, rfl, at_new, len _ ok, fun d _ => ⟨_, rfl, rfl, fun _ => by kernel_rfl⟩, ?_⟩
    rw [filter_all]
    repeat walk_at "s"
    refine ⟨_, rfl, Ext.more.trans Ext.more, ?_, by rw [List.length_append]; exact Nat.le_add_right _ _⟩
    rw [at_new]
    unfold parts
    rw [List.map_map]
    rfl
  | sum a n =>
    show wS (b80 (k + 5)) [some (progD (kdD (.sum a n))), some (wldD t), some (doD (.int 0) (.int c)), none, none, none, none] mh _
    unfold b80
    repeat walk_at "s"
    refine wV_ixT (j := 0) (d := .str "do") rfl ?_
    repeat walk_at "s"
    refine eq_yes (fun _ => by kernel_rfl) ?_
    repeat walk_at "s"
    refine wV_ixT (j := 1) (d := .int 0) rfl ?_
    repeat walk_at "s"
    refine wV_of (e_now (k + 1) _ _ _) ?_
    refine ⟨_, _, _, _, _, rfl, rfl, by decide +kernel, ?_⟩
    repeat walk_at "s"
    refine run_told (k + 4) _ mh ?_
    repeat walk_at "s"
    refine wV_ixT (j := 0) (d := .str "sum") rfl ?_
    repeat walk_at "s"
    refine ⟨by simp, ?_⟩
    refine in_no (b := false) (fun _ => by kernel_rfl) ?_
    repeat walk_at "s"
    refine wV_ixT (j := 0) (d := .str "sum") rfl ?_
    repeat walk_at "s"
    refine in_no (b := true) (fun _ => by kernel_rfl) ?_
    repeat walk_at "s"
    refine wV_ixT (j := 1) (d := .int 0) rfl ?_
    repeat walk_at "s"
    refine wV_of (e_part1 (k + 4) _ _) ?_
    repeat walk_at "s"
    refine wV_ixT (j := 2) (d := .int c) rfl ?_
    repeat walk_at "s"
    refine run_parts k c t (.sum a n) ok mh ?_
    repeat walk_at "s"
    refine wD_compL ?_
    repeat walk_at "s"
    refine ⟨_, src_list at_new, mh.length, _, fun _ => true, oneD, rfl, at_new, len _ ok, fun d _ => ⟨_, rfl, rfl, fun _ => by kernel_rfl⟩, ?_⟩
    rw [filter_all]
    repeat walk_at "s"
    refine ⟨_, rfl, Ext.more.trans Ext.more, ?_, by rw [List.length_append]; exact Nat.le_add_right _ _⟩
    rw [at_new]
    unfold parts
    rw [List.map_map]
    rfl
  | cho a n =>
    show wS (b80 (k + 5)) [some (progD (kdD (.cho a n))), some (wldD t), some (doD (.int 0) (.int c)), none, none, none, none] mh _
    unfold b80
    repeat walk_at "s"
    refine wV_ixT (j := 0) (d := .str "do") rfl ?_
    repeat walk_at "s"
    refine eq_yes (fun _ => by kernel_rfl) ?_
    repeat walk_at "s"
    refine wV_ixT (j := 1) (d := .int 0) rfl ?_
    repeat walk_at "s"
    refine wV_of (e_now (k + 1) _ _ _) ?_
    refine ⟨_, _, _, _, _, rfl, rfl, by decide +kernel, ?_⟩
    repeat walk_at "s"
    refine run_told (k + 4) _ mh ?_
    repeat walk_at "s"
    refine wV_ixT (j := 0) (d := .str "choose") rfl ?_
    repeat walk_at "s"
    refine ⟨by simp, ?_⟩
    refine in_no (b := false) (fun _ => by kernel_rfl) ?_
    repeat walk_at "s"
    refine wV_ixT (j := 0) (d := .str "choose") rfl ?_
    repeat walk_at "s"
    refine in_no (b := true) (fun _ => by kernel_rfl) ?_
    repeat walk_at "s"
    refine wV_ixT (j := 1) (d := .int 0) rfl ?_
    repeat walk_at "s"
    refine wV_of (e_part1 (k + 4) _ _) ?_
    repeat walk_at "s"
    refine wV_ixT (j := 2) (d := .int c) rfl ?_
    repeat walk_at "s"
    refine run_parts k c t (.cho a n) ok mh ?_
    repeat walk_at "s"
    refine wD_compL ?_
    repeat walk_at "s"
    refine ⟨_, src_list at_new, mh.length, _, fun _ => true, oneD, rfl, at_new, len _ ok, fun d _ => ⟨_, rfl, rfl, fun _ => by kernel_rfl⟩, ?_⟩
    rw [filter_all]
    repeat walk_at "s"
    refine ⟨_, rfl, Ext.more.trans Ext.more, ?_, by rw [List.length_append]; exact Nat.le_add_right _ _⟩
    rw [at_new]
    unfold parts
    rw [List.map_map]
    rfl
  | less a n q =>
    show wS (b80 (k + 5)) [some (progD (kdD (.less a n q))), some (wldD t), some (doD (.int 0) (.int c)), none, none, none, none] mh _
    unfold b80
    repeat walk_at "s"
    refine wV_ixT (j := 0) (d := .str "do") rfl ?_
    repeat walk_at "s"
    refine eq_yes (fun _ => by kernel_rfl) ?_
    repeat walk_at "s"
    refine wV_ixT (j := 1) (d := .int 0) rfl ?_
    repeat walk_at "s"
    refine wV_of (e_now (k + 1) _ _ _) ?_
    refine ⟨_, _, _, _, _, rfl, rfl, by decide +kernel, ?_⟩
    repeat walk_at "s"
    refine run_told (k + 4) _ mh ?_
    repeat walk_at "s"
    refine wV_ixT (j := 0) (d := .str "less") rfl ?_
    repeat walk_at "s"
    refine ⟨by simp, ?_⟩
    refine in_no (b := true) (fun _ => by kernel_rfl) ?_
    repeat walk_at "s"
    refine wV_ixT (j := 1) (d := .int 0) rfl ?_
    repeat walk_at "s"
    refine wV_of (e_part1 (k + 4) _ _) ?_
    repeat walk_at "s"
    refine wV_ixT (j := 2) (d := .int c) rfl ?_
    repeat walk_at "s"
    refine run_parts k c t (.less a n q) ok mh ?_
    repeat walk_at "s"
    refine wD_compL ?_
    repeat walk_at "s"
    refine ⟨_, src_list at_new, mh.length, _, fun _ => true, oneD, rfl, at_new, len _ ok, fun d _ => ⟨_, rfl, rfl, fun _ => by kernel_rfl⟩, ?_⟩
    rw [filter_all]
    repeat walk_at "s"
    refine ⟨_, rfl, Ext.more.trans Ext.more, ?_, by rw [List.length_append]; exact Nat.le_add_right _ _⟩
    rw [at_new]
    unfold parts
    rw [List.map_map]
    rfl
  | bef a n q =>
    show wS (b80 (k + 5)) [some (progD (kdD (.bef a n q))), some (wldD t), some (doD (.int 0) (.int c)), none, none, none, none] mh _
    unfold b80
    repeat walk_at "s"
    refine wV_ixT (j := 0) (d := .str "do") rfl ?_
    repeat walk_at "s"
    refine eq_yes (fun _ => by kernel_rfl) ?_
    repeat walk_at "s"
    refine wV_ixT (j := 1) (d := .int 0) rfl ?_
    repeat walk_at "s"
    refine wV_of (e_now (k + 1) _ _ _) ?_
    refine ⟨_, _, _, _, _, rfl, rfl, by decide +kernel, ?_⟩
    repeat walk_at "s"
    refine run_told (k + 4) _ mh ?_
    repeat walk_at "s"
    refine wV_ixT (j := 0) (d := .str "before") rfl ?_
    repeat walk_at "s"
    refine ⟨by simp, ?_⟩
    refine in_no (b := true) (fun _ => by kernel_rfl) ?_
    repeat walk_at "s"
    refine wV_ixT (j := 1) (d := .int 0) rfl ?_
    repeat walk_at "s"
    refine wV_of (e_part1 (k + 4) _ _) ?_
    repeat walk_at "s"
    refine wV_ixT (j := 2) (d := .int c) rfl ?_
    repeat walk_at "s"
    refine run_parts k c t (.bef a n q) ok mh ?_
    repeat walk_at "s"
    refine wD_compL ?_
    repeat walk_at "s"
    refine ⟨_, src_list at_new, mh.length, _, fun _ => true, oneD, rfl, at_new, len _ ok, fun d _ => ⟨_, rfl, rfl, fun _ => by kernel_rfl⟩, ?_⟩
    rw [filter_all]
    repeat walk_at "s"
    refine ⟨_, rfl, Ext.more.trans Ext.more, ?_, by rw [List.length_append]; exact Nat.le_add_right _ _⟩
    rw [at_new]
    unfold parts
    rw [List.map_map]
    rfl
theorem hi2_none (x : Option Int) : hi2 x none = x := by cases x <;> rfl
theorem lo2_none (x : Option Int) : lo2 x none = x := by cases x <;> rfl
noncomputable def nvB : Pr → Bool
  | (some a, some b) => decide (a ≤ b)
  | _ => true
theorem nvB_vd (p : Pr) : nvB p = !vd p := by
  obtain ⟨a, b⟩ := p
  cases a <;> cases b <;> try rfl
  rename_i a b
  show decide (a ≤ b) = !decide (b < a)
  by_cases h : b < a
  · rw [decide_eq_true h, decide_eq_false (by omega)]; rfl
  · rw [decide_eq_false h, decide_eq_true (by omega)]; rfl
theorem e_some (k : Nat) (p : Pr) (mh : MH) : runF (Gk (k + 1)) fuel f94 [prD p] mh = some (.bl (nvB p), mh) := by
  obtain ⟨a, b⟩ := p
  cases a <;> cases b <;> kernel_rfl
theorem e_plus (k : Nat) (x y : Option Int) (mh : MH) : runF (Gk (k + 1)) fuel f91 [ob x, ob y] mh = some (ob (pl2 x y), mh) := by
  cases x <;> cases y <;> kernel_rfl
theorem e_put (k : Nat) {a : Nat} (h : a < 3) (t : Tri) (p : Pr) (mh : MH) : runF (Gk (k + 1)) fuel f95 [triD t, .int a, prD p] mh = some (triD (upt a p t), mh) := by
  rcases lt3 h with rfl | rfl | rfl <;> kernel_rfl
noncomputable def two (x y : Option Int) : List Int := (match x with | some a => [a] | none => []) ++ (match y with | some b => [b] | none => [])
theorem seq_new (h : MH) (ds : List D) : seqD (.ref h.length) (h ++ [.lst ds]) = some ds := by
  show (match (h ++ [MO.lst ds])[h.length]? with | some o => some o.items | none => none) = _
  rw [at_new]; rfl
theorem run_top (k : Nat) (x y : Option Int) (mh : MH) {P : D → MH → Prop} (h : ∀ mh', Ext [] mh mh' → P (ob (hi2 x y)) mh') : wV (runF (Gk (k + 1)) fuel f92 [ob x, ob y] mh) P := by
  refine wV_run (b92_eq k) lenP92 lenN92 rfl ?_
  show wS (b92 k) [some (ob x), some (ob y)] mh _
  unfold b92
  repeat walk_at "s"
  have e : ∀ l, l = [some (ob x), some (ob y)] → compM (srcM (tupM (dCons (vr 0) (dCons (vr 1) (DM.ret []))))) [none, none] (gSet 1) (boolD (dop (isD true) (vr 1) (DM.ret .non))) (vr 1) l mh = some (.ref mh.length, mh ++ [.lst ((two x y).map D.int)]) := by
    rintro l rfl
    cases x <;> cases y <;> kernel_rfl
  refine ⟨_, _, e _ rfl, ?_⟩
  repeat walk_at "s"
  refine wV_of (bestN_ok (seq_new _ _)) ?_
  have e2 : bestV maxI (two x y) = ob (hi2 x y) := by cases x <;> cases y <;> rfl
  rw [e2]
  exact h _ Ext.more
theorem run_low (k : Nat) (x y : Option Int) (mh : MH) {P : D → MH → Prop} (h : ∀ mh', Ext [] mh mh' → P (ob (lo2 x y)) mh') : wV (runF (Gk (k + 1)) fuel f93 [ob x, ob y] mh) P := by
  refine wV_run (b93_eq k) lenP93 lenN93 rfl ?_
  show wS (b93 k) [some (ob x), some (ob y)] mh _
  unfold b93
  repeat walk_at "s"
  have e : ∀ l, l = [some (ob x), some (ob y)] → compM (srcM (tupM (dCons (vr 0) (dCons (vr 1) (DM.ret []))))) [none, none] (gSet 1) (boolD (dop (isD true) (vr 1) (DM.ret .non))) (vr 1) l mh = some (.ref mh.length, mh ++ [.lst ((two x y).map D.int)]) := by
    rintro l rfl
    cases x <;> cases y <;> kernel_rfl
  refine ⟨_, _, e _ rfl, ?_⟩
  repeat walk_at "s"
  refine wV_of (bestN_ok (seq_new _ _)) ?_
  have e2 : bestV minI (two x y) = ob (lo2 x y) := by cases x <;> cases y <;> rfl
  rw [e2]
  exact h _ Ext.more
theorem wD_comp2 {mi : DM Src} {cs : List (Option Nat)} {g : GM} {tc : DM Bool} {me : DM D} {loc : DL.Loc} {mh : MH} {Q : D → MH → Prop} (h : wD mi loc mh fun src h0 => ∃ n x y, ∃ bx bY : Bool, ∃ fx fy, src = .lref n ∧ h0[n]? = some (.lst [x, y]) ∧
    (wG (g x (capD cs loc) h0) fun l1 h1 => wD tc l1 h1 fun c h2 => (c = bx ∧ h2 = h0) ∧ (c = true → wD me l1 h2 fun z h3 => z = fx ∧ h3 = h0)) ∧
    (wG (g y (capD cs loc) h0) fun l1 h1 => wD tc l1 h1 fun c h2 => (c = bY ∧ h2 = h0) ∧ (c = true → wD me l1 h2 fun z h3 => z = fy ∧ h3 = h0)) ∧
    Q (.ref h0.length) (h0 ++ [.lst ((if bx then [fx] else []) ++ (if bY then [fy] else []))])) : wD (compM mi cs g tc me) loc mh Q := by
  refine wD_comp (wD_mono h fun src h0 => ?_)
  rintro ⟨n, x, y, bx, bY, fx, fy, rfl, hn, sx, sy, q⟩
  refine ⟨[x, y], fun i acc h => h = h0 ∧ (i = 0 ∧ acc = [] ∨ i = 1 ∧ acc = (if bx then [fx] else []) ∨ i = 2 ∧ acc = (if bx then [fx] else []) ++ (if bY then [fy] else [])), by simp, ⟨rfl, .inl ⟨rfl, rfl⟩⟩, ?_, ?_, ?_, ?_⟩
  · rintro i acc h ⟨rfl, _⟩
    exact lref_keep hn
  · rintro i acc h ⟨rfl, ⟨rfl, rfl⟩ | ⟨rfl, rfl⟩ | ⟨rfl, rfl⟩⟩
    · exact Nat.le_refl _
    · split <;> simp
    · split <;> split <;> simp
  · rintro i d acc h ed ⟨rfl, ⟨rfl, rfl⟩ | ⟨rfl, rfl⟩ | ⟨rfl, rfl⟩⟩
    · cases ed
      obtain ⟨l1, h1, e1, c, h2, e2, ⟨rfl, rfl⟩, s⟩ := sx
      refine ⟨l1, h1, e1, c, h2, e2, fun ec => wD_mono (s ec) ?_, fun ec => ⟨rfl, .inr (.inl ⟨rfl, by rw [if_neg (by rw [ec]; exact Bool.false_ne_true)]⟩)⟩⟩
      rintro z h3 ⟨rfl, rfl⟩
      exact ⟨rfl, .inr (.inl ⟨rfl, by rw [if_pos ec]; rfl⟩)⟩
    · cases ed
      obtain ⟨l1, h1, e1, c, h2, e2, ⟨rfl, rfl⟩, s⟩ := sy
      refine ⟨l1, h1, e1, c, h2, e2, fun ec => wD_mono (s ec) ?_, fun ec => ⟨rfl, .inr (.inr ⟨rfl, by rw [if_neg (c := c = true) (by rw [ec]; exact Bool.false_ne_true), List.append_nil]⟩)⟩⟩
      rintro z h3 ⟨rfl, rfl⟩
      exact ⟨rfl, .inr (.inr ⟨rfl, by rw [if_pos (c := c = true) ec]⟩)⟩
    · cases ed
  · rintro acc h ⟨rfl, ⟨z, _⟩ | ⟨z, _⟩ | ⟨_, rfl⟩⟩
    · cases z
    · cases z
    · exact q
noncomputable def tpD (z : Int × Tri) : D := .tup [triD z.2, .int z.1]
noncomputable def kp {α : Type} (b : Bool) (z : α) : List α := if b then [] else [z]
theorem g_pless (k : Nat) {a : Nat} (h3 : a < 3) (n : Int) (q : Nat) (t : Tri) : Gives (fun h => runF (Gk (k + 2)) fuel f96 [triD t, kdD (.less a n q)] h) ((lessR a n q 0 t).map tpD) := by
  refine Gives.of fun mh => ?_
  refine wV_run (b96_eq (k + 1)) lenP96 lenN96 rfl ?_
  show wS (b96 (k + 1)) [some (triD t), some (.tup [.str "less", .int a, .int n, .int q]), none, none, none, none, none, none, none, none, none, none] mh _
  unfold b96
  repeat walk_at "s"
  refine wV_ixT (j := 0) (d := .str "less") rfl ?_
  repeat walk_at "s"
  refine eq_yes (fun _ => by kernel_rfl) ?_
  repeat walk_at "s"
  refine wV_ixT (j := 1) (d := .int a) rfl ?_
  refine wV_ixT (j := a) (tri_at h3 t) ?_
  refine wG_tup rfl ?_
  show wS _ [some (triD t), some (.tup [.str "less", .int a, .int n, .int q]), some (ob (sel a t).1), some (ob (sel a t).2), none, none, none, none, none, none, none, none] _ _
  repeat walk_at "s"
  refine wV_ixT (j := 2) (d := .int n) rfl ?_
  repeat walk_at "s"
  refine run_low k (sel a t).2 (some (n - 1)) mh fun h1 x1 => ?_
  repeat walk_at "s"
  refine ⟨by simp, ?_⟩
  repeat walk_at "s"
  refine wV_ixT (j := 2) (d := .int n) rfl ?_
  repeat walk_at "s"
  refine run_top k (sel a t).1 (some n) h1 fun h2 x2 => ?_
  repeat walk_at "s"
  refine ⟨by simp, ?_⟩
  repeat walk_at "s"
  refine wV_ixT (j := 1) (d := .int a) rfl ?_
  repeat walk_at "s"
  refine wV_of (e_put k h3 t ((sel a t).1, lo2 (sel a t).2 (some (n - 1))) _) ?_
  repeat walk_at "s"
  refine wV_ixT (j := 3) (d := .int q) rfl ?_
  repeat walk_at "s"
  refine ⟨by simp, ?_⟩
  repeat walk_at "s"
  refine ⟨by simp, ?_⟩
  repeat walk_at "s"
  refine wV_ixT (j := 1) (d := .int a) rfl ?_
  repeat walk_at "s"
  refine wV_of (e_put k h3 t (hi2 (sel a t).1 (some n), (sel a t).2) _) ?_
  repeat walk_at "s"
  refine ⟨by simp, ?_⟩
  repeat walk_at "s"
  refine ⟨by simp, ?_⟩
  repeat walk_at "s"
  refine ⟨by simp, ?_⟩
  repeat walk_at "s"
  refine wD_comp2 ?_
  repeat walk_at "s"
  have gA : ∀ {g : MH}, (h2 ++ [MO.lst [prD ((sel a t).1, lo2 (sel a t).2 (some (n - 1)))]] ++ [MO.lst [prD (hi2 (sel a t).1 (some n), (sel a t).2)]] ++ g)[h2.length]? = some (.lst [prD ((sel a t).1, lo2 (sel a t).2 (some (n - 1)))]) := fun {g} => ((Ext.more (W := [])).trans Ext.more).old _ _ (by simp) at_new
  have gB : ∀ {g : MH}, (h2 ++ [MO.lst [prD ((sel a t).1, lo2 (sel a t).2 (some (n - 1)))]] ++ [MO.lst [prD (hi2 (sel a t).1 (some n), (sel a t).2)]] ++ g)[(h2 ++ [MO.lst [prD ((sel a t).1, lo2 (sel a t).2 (some (n - 1)))]]).length]? = some (.lst [prD (hi2 (sel a t).1 (some n), (sel a t).2)]) := fun {g} => (Ext.more (W := [])).old _ _ (by simp) at_new
  refine ⟨_, src_list at_new, _, _, _, nvB ((sel a t).1, lo2 (sel a t).2 (some (n - 1))), nvB (hi2 (sel a t).1 (some n), (sel a t).2), tpD (q, upt a ((sel a t).1, lo2 (sel a t).2 (some (n - 1))) t), tpD (1, upt a (hi2 (sel a t).1 (some n), (sel a t).2) t), rfl, at_new, ?_, ?_, ?_⟩
  · refine wG_tup rfl ?_
    repeat walk_at "s"
    refine wV_ixL (j := 0) gA rfl ?_
    repeat walk_at "s"
    refine wV_of (e_some k _ _) ?_
    repeat walk_at "s"
    refine ⟨⟨rfl, rfl⟩, fun _ => ?_⟩
    repeat walk_at "s"
    exact ⟨by simp, rfl, rfl⟩
  · refine wG_tup rfl ?_
    repeat walk_at "s"
    refine wV_ixL (j := 0) gB rfl ?_
    repeat walk_at "s"
    refine wV_of (e_some k _ _) ?_
    repeat walk_at "s"
    refine ⟨⟨rfl, rfl⟩, fun _ => ?_⟩
    repeat walk_at "s"
    exact ⟨by simp, rfl, rfl⟩
  · have x3 : Ext [] mh (h2 ++ [MO.lst [prD ((sel a t).1, lo2 (sel a t).2 (some (n - 1)))]] ++ [MO.lst [prD (hi2 (sel a t).1 (some n), (sel a t).2)]]) := ((x1.trans x2).trans Ext.more).trans Ext.more
    refine ⟨_, rfl, (x3.trans Ext.more).trans Ext.more, ?_, (x3.trans Ext.more).len⟩
    rw [at_new]
    unfold lessR cutP
    rw [hi2_none, lo2_none, nvB_vd, nvB_vd]
    cases vd ((sel a t).1, lo2 (sel a t).2 (some (n - 1))) <;> cases vd (hi2 (sel a t).1 (some n), (sel a t).2) <;> rfl
noncomputable def bdP (k : Nat) : SM := (seqS (ifS (dAndT (truM (calM (runF (Gk k) fuel f94) (dCons (dop ixD (vr 8) (DM.ret (.int 0))) (DM.ret [])))) (truM (calM (runF (Gk k) fuel f94) (dCons (dop ixD (vr 8) (DM.ret (.int 1))) (DM.ret [])))))
  (seqS (dropS (methM "list" appendD (vr 11) (dCons (tupM (dCons (calM (runF (Gk k) fuel f95) (dCons (calM (runF (Gk k) fuel f95) (dCons (vr 0) (dCons (dop ixD (vr 1) (DM.ret (.int 1))) (dCons (dop ixD (vr 8) (DM.ret (.int 0))) (DM.ret []))))) (dCons (dop ixD (vr 1) (DM.ret (.int 2))) (dCons (dop ixD (vr 8) (DM.ret (.int 1))) (DM.ret []))))) (dCons (vr 7) (DM.ret [])))) (DM.ret []))))
   SM.nxt)
  SM.nxt)
  SM.nxt)
theorem run_bdP (k : Nat) {a b js jf : Nat} (ha : a < 3) (hb : b < 3) (q pl : Int) (t : Tri) (u v : Pr) (acc : List D) (h : MH) (x2 x3 x4 x5 x6 x9 x10 : Option D) (hs : h[js]? = some (.lst [prD u, prD v])) (hf : h[jf]? = some (.lst acc)) (hl : acc.length ≤ 10) :
    wS (bdP (k + 1)) [some (triD t), some (.tup [.str "before", .int a, .int b, .int q]), x2, x3, x4, x5, x6, some (.int pl), some (.ref js), x9, x10, some (.ref jf)] h fun f l h' => f = .nx ∧ l = [some (triD t), some (.tup [.str "before", .int a, .int b, .int q]), x2, x3, x4, x5, x6, some (.int pl), some (.ref js), x9, x10, some (.ref jf)] ∧ Ext [jf] h h' ∧ h'[jf]? = some (.lst (acc ++ if nvB u && nvB v then [tpD (pl, upt b v (upt a u t))] else [])) := by
  unfold bdP
  repeat walk_at "s"
  refine wV_ixL (j := 0) hs rfl ?_
  repeat walk_at "s"
  refine wV_of (e_some k _ _) ?_
  repeat walk_at "s"
  refine when_of (fun e1 => ?_) fun e1 => ?_
  · repeat walk_at "s"
    refine wV_ixL (j := 1) hs rfl ?_
    repeat walk_at "s"
    refine wV_of (e_some k _ _) ?_
    repeat walk_at "s"
    refine when_of (fun e2 => ?_) fun e2 => ?_
    · rw [e1, e2]
      repeat walk_at "s"
      refine ⟨ty_list hf, ?_⟩
      repeat walk_at "s"
      refine wV_ixT (j := 1) (d := .int a) rfl ?_
      repeat walk_at "s"
      refine wV_ixL (j := 0) hs rfl ?_
      repeat walk_at "s"
      refine wV_of (e_put k ha t u _) ?_
      repeat walk_at "s"
      refine wV_ixT (j := 2) (d := .int b) rfl ?_
      repeat walk_at "s"
      refine wV_ixL (j := 1) hs rfl ?_
      repeat walk_at "s"
      refine wV_of (e_put k hb _ v _) ?_
      repeat walk_at "s"
      refine ⟨by simp, ?_⟩
      repeat walk_at "s"
      refine wV_append hf (by omega) ?_
      repeat walk_at "s"
      exact ⟨rfl, rfl, Ext.set, at_set hf⟩
    · rw [e1, e2]
      repeat walk_at "s"
      exact ⟨rfl, rfl, Ext.refl, by rw [Bool.and_false, if_neg Bool.false_ne_true, List.append_nil]; exact hf⟩
  · rw [e1]
    repeat walk_at "s"
    exact ⟨rfl, rfl, Ext.refl, by rw [Bool.false_and, if_neg Bool.false_ne_true, List.append_nil]; exact hf⟩
noncomputable def good (p : Pr) : Prop := vd p = false
theorem maxI2 (a b : Int) : maxI a [b] = if a < b then b else a := rfl
theorem minI2 (a b : Int) : minI a [b] = if b < a then b else a := rfl
theorem vd_f {a b : Int} : vd (some a, some b) = false ↔ a ≤ b := by
  show decide (b < a) = false ↔ _
  rw [decide_eq_false_iff_not]; omega
theorem bef_up {p r : Pr} (gr : good r) (h : vd (cutP p (none, pl2 r.2 (some (-1)))) = false) : vd (cutP r (pl2 p.1 (some 1), none)) = false := by
  obtain ⟨p0, p1⟩ := p
  obtain ⟨r0, r1⟩ := r
  unfold good at gr
  cases p0 <;> cases p1 <;> cases r0 <;> cases r1 <;> first | rfl | (simp only [cutP, hi2, lo2, pl2, vd_f, minI2, maxI2] at *; split at h <;> split <;> omega) | (simp only [cutP, hi2, lo2, pl2, vd_f, minI2, maxI2] at *; split at h <;> omega) | (simp only [cutP, hi2, lo2, pl2, vd_f, minI2, maxI2] at *; split <;> omega) | (simp only [cutP, hi2, lo2, pl2, vd_f, minI2, maxI2] at *; omega)
theorem bef_on {p r : Pr} (gr : good r) (h : vd (cutP p (r.1, none)) = false) : vd (cutP r (none, p.2)) = false := by
  obtain ⟨p0, p1⟩ := p
  obtain ⟨r0, r1⟩ := r
  unfold good at gr
  cases p0 <;> cases p1 <;> cases r0 <;> cases r1 <;> first | rfl | (simp only [cutP, hi2, lo2, pl2, vd_f, minI2, maxI2] at *; split at h <;> split <;> omega) | (simp only [cutP, hi2, lo2, pl2, vd_f, minI2, maxI2] at *; split at h <;> omega) | (simp only [cutP, hi2, lo2, pl2, vd_f, minI2, maxI2] at *; split <;> omega) | (simp only [cutP, hi2, lo2, pl2, vd_f, minI2, maxI2] at *; omega)
noncomputable def accA (a b : Nat) (q : Int) (t : Tri) : List D := if nvB ((sel a t).1, lo2 (sel a t).2 (pl2 (sel b t).2 (some (-1)))) && nvB (hi2 (sel b t).1 (pl2 (sel a t).1 (some 1)), (sel b t).2) then [tpD (q, upt b (hi2 (sel b t).1 (pl2 (sel a t).1 (some 1)), (sel b t).2) (upt a ((sel a t).1, lo2 (sel a t).2 (pl2 (sel b t).2 (some (-1)))) t))] else []
noncomputable def accC (a b : Nat) (t : Tri) : List D := if nvB (hi2 (sel a t).1 (sel b t).1, (sel a t).2) && nvB ((sel b t).1, lo2 (sel b t).2 (sel a t).2) then [tpD (1, upt b ((sel b t).1, lo2 (sel b t).2 (sel a t).2) (upt a (hi2 (sel a t).1 (sel b t).1, (sel a t).2) t))] else []
noncomputable def accB (a b : Nat) (q : Int) (t : Tri) : Nat → List D
  | 0 => []
  | 1 => [] ++ accA a b q t
  | _ => ([] ++ accA a b q t) ++ accC a b t
theorem accB_len (a b : Nat) (q : Int) (t : Tri) (i : Nat) : (accB a b q t i).length ≤ 10 := by
  have e1 : (accA a b q t).length ≤ 1 := by unfold accA; split <;> simp
  have e2 : (accC a b t).length ≤ 1 := by unfold accC; split <;> simp
  match i with
  | 0 => simp [accB]
  | 1 => show ([] ++ accA a b q t).length ≤ 10; rw [List.nil_append]; omega
  | n + 2 => show (([] ++ accA a b q t) ++ accC a b t).length ≤ 10; rw [List.nil_append, List.length_append]; omega
theorem accB_end (a b : Nat) (q : Int) (t : Tri) (gt : good (sel b t)) : accB a b q t 2 = List.map tpD ((if vd (befB a b t) = true then [] else [(q, upt b (befA a b t) (upt a (befB a b t) t))]) ++ if vd (befR a b t) = true then [] else [(0 + 1, upt b (befC a b t) (upt a (befR a b t) t))]) := by
  have u := bef_up (p := sel a t) gt
  have o := bef_on (p := sel a t) gt
  show ([] ++ accA a b q t) ++ accC a b t = _
  unfold accA accC befA befB befC befR
  unfold cutP at *
  simp only [hi2_none, lo2_none] at u o ⊢
  have e1 : hi2 (sel a t).1 none = (sel a t).1 := hi2_none _
  rw [nvB_vd, nvB_vd, nvB_vd, nvB_vd, List.nil_append]
  cases h1 : vd ((sel a t).1, lo2 (sel a t).2 (pl2 (sel b t).2 (some (-1)))) <;> cases h2 : vd (hi2 (sel a t).1 (sel b t).1, (sel a t).2)
  · rw [u h1, o h2]; rfl
  · rw [u h1]; rfl
  · rw [o h2]; rfl
  · rfl
theorem g_pbef (k : Nat) {a b : Nat} (ha : a < 3) (hb : b < 3) (q : Nat) (t : Tri) (gt : good (sel b t)) : Gives (fun h => runF (Gk (k + 2)) fuel f96 [triD t, kdD (.bef a b q)] h) ((befL a b q 0 t).map tpD) := by
  refine Gives.of fun mh => ?_
  refine wV_run (b96_eq (k + 1)) lenP96 lenN96 rfl ?_
  show wS (b96 (k + 1)) [some (triD t), some (.tup [.str "before", .int a, .int b, .int q]), none, none, none, none, none, none, none, none, none, none] mh _
  unfold b96
  repeat walk_at "s"
  refine wV_ixT (j := 0) (d := .str "before") rfl ?_
  repeat walk_at "s"
  refine eq_no (fun _ => by kernel_rfl) ?_
  repeat walk_at "s"
  refine wV_ixT (j := 1) (d := .int a) rfl ?_
  repeat walk_at "s"
  refine wV_ixT (j := 2) (d := .int b) rfl ?_
  repeat walk_at "s"
  unfold befL
  by_cases e : a = b
  · refine when_tt (by rw [beq_iff_eq]; omega) ?_
    repeat walk_at "s"
    refine ⟨by simp, ?_⟩
    repeat walk_at "s"
    refine ⟨by simp, ?_⟩
    rw [if_pos e]
    exact ⟨_, rfl, Ext.more, at_new, Nat.le_refl _⟩
  · refine when_ff (by rw [beq_eq_false_iff_ne]; omega) ?_
    repeat walk_at "s"
    rw [if_neg e]
    refine wV_ixT (j := 1) (d := .int a) rfl ?_
    refine wV_ixT (j := a) (tri_at ha t) ?_
    repeat walk_at "s"
    refine wV_ixT (j := 2) (d := .int b) rfl ?_
    refine wV_ixT (j := b) (tri_at hb t) ?_
    repeat walk_at "s"
    refine ⟨by simp, ?_⟩
    repeat walk_at "s"
    refine wV_ixT (j := 0) (d := ob (sel a t).1) rfl ?_
    repeat walk_at "s"
    refine wV_ixT (j := 1) (d := ob (sel a t).2) rfl ?_
    repeat walk_at "s"
    refine wV_ixT (j := 1) (d := ob (sel b t).2) rfl ?_
    repeat walk_at "s"
    refine wV_of (e_plus k (sel b t).2 (some (-1)) _) ?_
    repeat walk_at "s"
    refine run_low k _ _ _ fun h1 x1 => ?_
    repeat walk_at "s"
    refine ⟨by simp, ?_⟩
    repeat walk_at "s"
    refine wV_ixT (j := 0) (d := ob (sel b t).1) rfl ?_
    repeat walk_at "s"
    refine wV_ixT (j := 0) (d := ob (sel a t).1) rfl ?_
    repeat walk_at "s"
    refine wV_of (e_plus k (sel a t).1 (some 1) _) ?_
    repeat walk_at "s"
    refine run_top k _ _ _ fun h2 x2 => ?_
    repeat walk_at "s"
    refine wV_ixT (j := 1) (d := ob (sel b t).2) rfl ?_
    repeat walk_at "s"
    refine ⟨by simp, ?_⟩
    repeat walk_at "s"
    refine ⟨by simp, ?_⟩
    repeat walk_at "s"
    refine wV_ixT (j := 0) (d := ob (sel a t).1) rfl ?_
    repeat walk_at "s"
    refine wV_ixT (j := 0) (d := ob (sel b t).1) rfl ?_
    repeat walk_at "s"
    refine run_top k _ _ _ fun h3 x3 => ?_
    repeat walk_at "s"
    refine wV_ixT (j := 1) (d := ob (sel a t).2) rfl ?_
    repeat walk_at "s"
    refine ⟨by simp, ?_⟩
    repeat walk_at "s"
    refine wV_ixT (j := 0) (d := ob (sel b t).1) rfl ?_
    repeat walk_at "s"
    refine wV_ixT (j := 1) (d := ob (sel b t).2) rfl ?_
    repeat walk_at "s"
    refine wV_ixT (j := 1) (d := ob (sel a t).2) rfl ?_
    repeat walk_at "s"
    refine run_low k _ _ _ fun h4 x4 => ?_
    repeat walk_at "s"
    refine ⟨by simp, ?_⟩
    repeat walk_at "s"
    refine ⟨by simp, ?_⟩
    repeat walk_at "s"
    refine wS_for ?_
    repeat walk_at "s"
    refine wV_ixT (j := 3) (d := .int q) rfl ?_
    repeat walk_at "s"
    refine ⟨by simp, ?_⟩
    repeat walk_at "s"
    refine ⟨by simp, ?_⟩
    repeat walk_at "s"
    refine ⟨by simp, ?_⟩
    have c1 : Ext [] (mh ++ [MO.lst []]) h2 := x1.trans x2
    have c2 : Ext [] (h2 ++ [MO.lst [prD ((sel a t).1, lo2 (sel a t).2 (pl2 (sel b t).2 (some (-1)))), prD (hi2 (sel b t).1 (pl2 (sel a t).1 (some 1)), (sel b t).2)]]) h4 := x3.trans x4
    have c3 : ∀ {g : MH}, Ext [] h4 (h4 ++ [MO.lst [prD (hi2 (sel a t).1 (sel b t).1, (sel a t).2), prD ((sel b t).1, lo2 (sel b t).2 (sel a t).2)]] ++ g) := fun {g} => Ext.more.trans Ext.more
    have l1 : mh.length < h2.length := by have := c1.len; rw [List.length_append, List.length_singleton] at this; omega
    have l2 : h2.length < h4.length := by have := c2.len; rw [List.length_append, List.length_singleton] at this; omega
    have gF := fun (g : MH) => (c3 (g := g)).old _ _ (by simp) (c2.old _ _ (by simp) ((Ext.more (W := [])).old _ _ (by simp) (c1.old _ _ (by simp) (at_new (a := mh) (o := .lst [])))))
    have gT := fun (g : MH) => (c3 (g := g)).old _ _ (by simp) (c2.old _ _ (by simp) at_new)
    have xm : Ext [] mh h4 := ((Ext.more.trans c1).trans Ext.more).trans c2
    refine ⟨_, src_list at_new, [.tup [.ref h2.length, .int q], .tup [.ref h4.length, .int 1]], fun i l h => ∃ x7 x8, l = [some (triD t), some (.tup [.str "before", .int a, .int b, .int q]), none, none, some (.ref h2.length), some (.ref h4.length), none, x7, x8, some (prD (sel a t)), some (prD (sel b t)), some (.ref mh.length)] ∧
      h[h2.length]? = some (.lst [prD ((sel a t).1, lo2 (sel a t).2 (pl2 (sel b t).2 (some (-1)))), prD (hi2 (sel b t).1 (pl2 (sel a t).1 (some 1)), (sel b t).2)]) ∧ h[h4.length]? = some (.lst [prD (hi2 (sel a t).1 (sel b t).1, (sel a t).2), prD ((sel b t).1, lo2 (sel b t).2 (sel a t).2)]) ∧
      h[h4.length + 1]? = some (.lst [.tup [.ref h2.length, .int q], .tup [.ref h4.length, .int 1]]) ∧ h[mh.length]? = some (.lst (accB a b q t i)) ∧ Ext [] mh h, ⟨none, none, rfl, gT _, (Ext.more (W := [])).old _ _ (by simp) at_new, ?_, gF _, xm.trans c3⟩, ?_, ?_, ?_⟩
    · have := at_new (a := h4 ++ [MO.lst [prD (hi2 (sel a t).1 (sel b t).1, (sel a t).2), prD ((sel b t).1, lo2 (sel b t).2 (sel a t).2)]]) (o := .lst [.tup [.ref h2.length, .int q], .tup [.ref h4.length, .int 1]])
      rw [List.length_append, List.length_singleton] at this
      exact this
    · rintro i l h ⟨x7, x8, rfl, _, _, g, _⟩
      have := lref_keep g
      rw [List.length_append, List.length_singleton]
      exact this
    · rintro i d l h ed ⟨x7, x8, rfl, g1, g2, g3, g4, x⟩
      have n1 : h2.length ∉ [mh.length] := by simp; omega
      have n2 : h4.length ∉ [mh.length] := by simp; omega
      have n3 : h4.length + 1 ∉ [mh.length] := by simp; omega
      have fin : ∀ {h'}, Ext [mh.length] h h' → Ext [] mh h' := fun {h'} y => ⟨Nat.le_trans x.len y.len, fun i o _ e => y.old i o (by have := lt_len e; simp; omega) (x.old i o (by simp) e)⟩
      match i, ed with
      | 0, ed =>
        cases ed
        refine wG_tup rfl ?_
        refine wS_mono (run_bdP k (js := h2.length) (jf := mh.length) ha hb q q t _ _ _ h none none (some (.ref h2.length)) (some (.ref h4.length)) none (some (prD (sel a t))) (some (prD (sel b t))) g1 g4 (accB_len a b q t 0)) ?_
        rintro f l h' ⟨rfl, rfl, y, g⟩
        exact ⟨_, _, rfl, y.old _ _ n1 g1, y.old _ _ n2 g2, y.old _ _ n3 g3, g, fin y⟩
      | 1, ed =>
        cases ed
        refine wG_tup rfl ?_
        refine wS_mono (run_bdP k (js := h4.length) (jf := mh.length) ha hb q 1 t _ _ _ h none none (some (.ref h2.length)) (some (.ref h4.length)) none (some (prD (sel a t))) (some (prD (sel b t))) g2 g4 (accB_len a b q t 1)) ?_
        rintro f l h' ⟨rfl, rfl, y, g⟩
        exact ⟨_, _, rfl, y.old _ _ n1 g1, y.old _ _ n2 g2, y.old _ _ n3 g3, g, fin y⟩
      | n + 2, ed => cases ed
    · rintro l h ⟨x7, x8, rfl, g1, g2, g3, g4, x⟩
      repeat walk_at "s"
      refine ⟨_, rfl, x, ?_, Nat.le_refl _⟩
      rw [g4]
      exact congrArg (fun z => some (MO.lst z)) (accB_end a b q t gt)
theorem wD_compS {mi : DM Src} {cs : List (Option Nat)} {g : GM} {tc : DM Bool} {me : DM D} {loc : DL.Loc} {mh : MH} {Q : D → MH → Prop} (h : wD mi loc mh fun src h0 => ∃ ds, ∃ (p : D → Bool) (f : D → D), src = .seq ds ∧ ds.length ≤ 1000000 ∧
    (∀ d ∈ ds, ∃ l1, g d (capD cs loc) h0 = some (l1, h0) ∧ tc l1 h0 = some (p d, h0) ∧ (p d = true → me l1 h0 = some (f d, h0))) ∧ Q (.ref h0.length) (h0 ++ [.lst ((ds.filter p).map f)])) : wD (compM mi cs g tc me) loc mh Q := by
  obtain ⟨src, h0, e, ds, p, f, rfl, hz, step, q⟩ := h
  exact ⟨_, _, compM_pure e (le_size hz) step, q⟩
noncomputable def dueZ (t : Tri) : Kd → List (Nat × Int × Tri)
  | .cho a n => (List.range n).map fun c => (c, 0 + 1, upt a (some (c : Int), some (c : Int)) t)
  | s => (resL 0 t s).map fun z => (0, z.1, z.2)
noncomputable def duD (z : Nat × Int × Tri) : D := .tup [natD z.1, triD z.2.2, .int z.2.1]
noncomputable def lead0 : D → D
  | .tup [x, y] => .tup [.int 0, x, y]
  | _ => .non
noncomputable def goodT (t : Tri) : Prop := good t.1 ∧ good t.2.1 ∧ good t.2.2
theorem goodT.sel {t : Tri} (h : goodT t) (a : Nat) : good (sel a t) := match a with
  | 0 => h.1
  | 1 => h.2.1
  | _ + 2 => h.2.2
theorem g_due (k : Nat) (t : Tri) (gt : goodT t) (s : Kd) (ok : s.ok) : Gives (fun h => runF (Gk (k + 3)) fuel f97 [triD t, kdD s] h) ((dueZ t s).map duD) := by
  cases s with
  | put a n => exact Gives.new fun h => by rcases lt3 ok with rfl | rfl | rfl <;> kernel_rfl
  | copy a b => exact Gives.new fun h => by rcases lt3 ok.1 with rfl | rfl | rfl <;> rcases lt3 ok.2 with rfl | rfl | rfl <;> kernel_rfl
  | less a n q =>
    refine Gives.of fun mh => ?_
    refine wV_run (b97_eq (k + 2)) lenP97 lenN97 rfl ?_
    show wS (b97 (k + 2)) [some (triD t), some (.tup [.str "less", .int a, .int n, .int q]), none, none, none, none] mh _
    unfold b97
    repeat walk_at "s"
    refine wV_of (d := .tup [.str "less", .int a]) (h := mh) (by kernel_rfl) ?_
    refine wG_tup rfl ?_
    show wS _ [some (triD t), some (.tup [.str "less", .int a, .int n, .int q]), some (.str "less"), some (.int a), none, none] mh _
    repeat walk_at "s"
    refine ⟨by simp, ?_⟩
    refine in_no (b := true) (fun _ => by kernel_rfl) ?_
    repeat walk_at "s"
    refine wD_compL ?_
    repeat walk_at "s"
    refine (g_pless k ok n q t).w fun j h1 x1 g1 l1 => ?_
    refine ⟨_, src_list g1, j, _, fun _ => true, lead0, rfl, g1, ?_, fun d hd => ?_, ?_⟩
    · rw [List.length_map]
      have := res_len 0 t (.less a n q)
      exact Nat.le_trans this (by decide)
    · obtain ⟨z, _, rfl⟩ := List.mem_map.mp hd
      exact ⟨_, rfl, rfl, fun _ => by kernel_rfl⟩
    · rw [filter_all]
      refine ⟨_, rfl, x1.trans Ext.more, ?_, x1.len⟩
      rw [at_new]
      unfold dueZ resL
      rw [List.map_map, List.map_map]
      rfl
  | bef a n q =>
    refine Gives.of fun mh => ?_
    refine wV_run (b97_eq (k + 2)) lenP97 lenN97 rfl ?_
    show wS (b97 (k + 2)) [some (triD t), some (.tup [.str "before", .int a, .int n, .int q]), none, none, none, none] mh _
    unfold b97
    repeat walk_at "s"
    refine wV_of (d := .tup [.str "before", .int a]) (h := mh) (by kernel_rfl) ?_
    refine wG_tup rfl ?_
    show wS _ [some (triD t), some (.tup [.str "before", .int a, .int n, .int q]), some (.str "before"), some (.int a), none, none] mh _
    repeat walk_at "s"
    refine ⟨by simp, ?_⟩
    refine in_no (b := true) (fun _ => by kernel_rfl) ?_
    repeat walk_at "s"
    refine wD_compL ?_
    repeat walk_at "s"
    refine (g_pbef k ok.1 ok.2 q t (gt.sel n)).w fun j h1 x1 g1 l1 => ?_
    refine ⟨_, src_list g1, j, _, fun _ => true, lead0, rfl, g1, ?_, fun d hd => ?_, ?_⟩
    · rw [List.length_map]
      have := res_len 0 t (.bef a n q)
      exact Nat.le_trans this (by decide)
    · obtain ⟨z, _, rfl⟩ := List.mem_map.mp hd
      exact ⟨_, rfl, rfl, fun _ => by kernel_rfl⟩
    · rw [filter_all]
      refine ⟨_, rfl, x1.trans Ext.more, ?_, x1.len⟩
      rw [at_new]
      unfold dueZ resL
      rw [List.map_map, List.map_map]
      rfl
  | rai a n =>
    have ok : a < 3 := ok
    refine Gives.of fun mh => ?_
    refine wV_run (b97_eq (k + 2)) lenP97 lenN97 rfl ?_
    show wS (b97 (k + 2)) [some (triD t), some (.tup [.str "raise", .int a, .int n]), none, none, none, none] mh _
    unfold b97
    repeat walk_at "s"
    refine wV_of (d := .tup [.str "raise", .int a]) (h := mh) (by kernel_rfl) ?_
    refine wG_tup rfl ?_
    show wS _ [some (triD t), some (.tup [.str "raise", .int a, .int n]), some (.str "raise"), some (.int a), none, none] mh _
    repeat walk_at "s"
    refine ⟨by simp, ?_⟩
    refine in_no (b := false) (fun _ => by kernel_rfl) ?_
    repeat walk_at "s"
    refine eq_no (fun _ => by kernel_rfl) ?_
    repeat walk_at "s"
    refine eq_no (fun _ => by kernel_rfl) ?_
    repeat walk_at "s"
    refine eq_no (fun _ => by kernel_rfl) ?_
    repeat walk_at "s"
    refine wV_ixT (j := 2) (d := .int n) rfl ?_
    repeat walk_at "s"
    refine wV_ixT (j := 2) (d := .int n) rfl ?_
    repeat walk_at "s"
    refine ⟨by simp, ?_⟩
    repeat walk_at "s"
    refine eq_no (fun _ => by kernel_rfl) ?_
    repeat walk_at "s"
    refine wV_ixT (j := a) (tri_at ok t) ?_
    repeat walk_at "s"
    refine wV_ixT (j := 0) (d := ob (sel a t).1) rfl ?_
    repeat walk_at "s"
    refine wV_ixT (j := 0) (d := ob ((some n, some n)).1) rfl ?_
    repeat walk_at "s"
    refine wV_of (e_plus (k + 1) (sel a t).1 ((some n, some n)).1 _) ?_
    repeat walk_at "s"
    refine wV_ixT (j := a) (tri_at ok t) ?_
    repeat walk_at "s"
    refine wV_ixT (j := 1) (d := ob (sel a t).2) rfl ?_
    repeat walk_at "s"
    refine wV_ixT (j := 1) (d := ob ((some n, some n)).2) rfl ?_
    repeat walk_at "s"
    refine wV_of (e_plus (k + 1) (sel a t).2 ((some n, some n)).2 _) ?_
    repeat walk_at "s"
    refine ⟨by simp, ?_⟩
    repeat walk_at "s"
    refine wV_of (e_put (k + 1) ok t (addP (sel a t) (some n, some n)) _) ?_
    repeat walk_at "s"
    refine ⟨by simp, ?_⟩
    repeat walk_at "s"
    exact ⟨by simp, _, rfl, Ext.more, at_new, Nat.le_refl _⟩
  | sum a b =>
    have oa : a < 3 := ok.1
    refine Gives.of fun mh => ?_
    refine wV_run (b97_eq (k + 2)) lenP97 lenN97 rfl ?_
    show wS (b97 (k + 2)) [some (triD t), some (.tup [.str "sum", .int a, .int b]), none, none, none, none] mh _
    unfold b97
    repeat walk_at "s"
    refine wV_of (d := .tup [.str "sum", .int a]) (h := mh) (by kernel_rfl) ?_
    refine wG_tup rfl ?_
    show wS _ [some (triD t), some (.tup [.str "sum", .int a, .int b]), some (.str "sum"), some (.int a), none, none] mh _
    repeat walk_at "s"
    refine ⟨by simp, ?_⟩
    refine in_no (b := false) (fun _ => by kernel_rfl) ?_
    repeat walk_at "s"
    refine eq_no (fun _ => by kernel_rfl) ?_
    repeat walk_at "s"
    refine eq_no (fun _ => by kernel_rfl) ?_
    repeat walk_at "s"
    refine eq_no (fun _ => by kernel_rfl) ?_
    repeat walk_at "s"
    refine wV_ixT (j := 2) (d := .int b) rfl ?_
    repeat walk_at "s"
    refine wV_ixT (j := 2) (d := .int b) rfl ?_
    repeat walk_at "s"
    refine ⟨by simp, ?_⟩
    repeat walk_at "s"
    refine eq_yes (fun _ => by kernel_rfl) ?_
    repeat walk_at "s"
    refine wV_ixT (j := 2) (d := .int b) rfl ?_
    refine wV_ixT (j := b) (tri_at ok.2 t) ?_
    repeat walk_at "s"
    refine wV_ixT (j := a) (tri_at oa t) ?_
    repeat walk_at "s"
    refine wV_ixT (j := 0) (d := ob (sel a t).1) rfl ?_
    repeat walk_at "s"
    refine wV_ixT (j := 0) (d := ob ((sel b t)).1) rfl ?_
    repeat walk_at "s"
    refine wV_of (e_plus (k + 1) (sel a t).1 ((sel b t)).1 _) ?_
    repeat walk_at "s"
    refine wV_ixT (j := a) (tri_at oa t) ?_
    repeat walk_at "s"
    refine wV_ixT (j := 1) (d := ob (sel a t).2) rfl ?_
    repeat walk_at "s"
    refine wV_ixT (j := 1) (d := ob ((sel b t)).2) rfl ?_
    repeat walk_at "s"
    refine wV_of (e_plus (k + 1) (sel a t).2 ((sel b t)).2 _) ?_
    repeat walk_at "s"
    refine ⟨by simp, ?_⟩
    repeat walk_at "s"
    refine wV_of (e_put (k + 1) oa t (addP (sel a t) (sel b t)) _) ?_
    repeat walk_at "s"
    refine ⟨by simp, ?_⟩
    repeat walk_at "s"
    exact ⟨by simp, _, rfl, Ext.more, at_new, Nat.le_refl _⟩
  | cho a n =>
    have ok3 : a < 3 := ok.1
    have okn : n ≤ 20 := ok.2
    refine Gives.of fun mh => ?_
    refine wV_run (b97_eq (k + 2)) lenP97 lenN97 rfl ?_
    show wS (b97 (k + 2)) [some (triD t), some (.tup [.str "choose", .int a, .int n]), none, none, none, none] mh _
    unfold b97
    repeat walk_at "s"
    refine wV_of (d := .tup [.str "choose", .int a]) (h := mh) (by kernel_rfl) ?_
    refine wG_tup rfl ?_
    show wS _ [some (triD t), some (.tup [.str "choose", .int a, .int n]), some (.str "choose"), some (.int a), none, none] mh _
    repeat walk_at "s"
    refine ⟨by simp, ?_⟩
    refine in_no (b := false) (fun _ => by kernel_rfl) ?_
    repeat walk_at "s"
    refine eq_no (fun _ => by kernel_rfl) ?_
    repeat walk_at "s"
    refine eq_no (fun _ => by kernel_rfl) ?_
    repeat walk_at "s"
    refine eq_yes (fun _ => by kernel_rfl) ?_
    repeat walk_at "s"
    refine wD_compS ?_
    repeat walk_at "s"
    refine wV_ixT (j := 2) (d := .int n) rfl ?_
    repeat walk_at "s"
    refine ⟨_, rng1_nat (by omega), rangeL 0 n, fun _ => true, fun d => match d with | .int c => .tup [.int c, triD (upt a (some c, some c) t), .int 1] | _ => .non, rfl, by rw [rangeL_len]; omega, fun d hd => ?_, ?_⟩
    · rw [rangeL_nat] at hd
      obtain ⟨c, _, rfl⟩ := List.mem_map.mp hd
      refine ⟨_, rfl, rfl, fun _ => ?_⟩
      rcases lt3 ok3 with rfl | rfl | rfl <;> kernel_rfl
    · rw [filter_all]
      refine ⟨_, rfl, Ext.more, ?_, Nat.le_refl _⟩
      rw [at_new, rangeL_nat]
      unfold dueZ
      rw [List.map_map, List.map_map]
      rfl
theorem dat_ob (n : Nat) (x : Option Int) : dat n (ob x) = true := by cases x <;> cases n <;> rfl
theorem dat_pr (n : Nat) (p : Pr) : dat (n + 1) (prD p) = true := by
  show (dat n (ob p.1) && (dat n (ob p.2) && true)) = true
  rw [dat_ob, dat_ob]; rfl
theorem dat_tri (n : Nat) (t : Tri) : dat (n + 2) (triD t) = true := by
  show (dat (n + 1) (prD t.1) && (dat (n + 1) (prD t.2.1) && (dat (n + 1) (prD t.2.2) && true))) = true
  rw [dat_pr, dat_pr, dat_pr]; rfl
theorem dats_all {n : Nat} : ∀ {ds : List D}, (∀ d ∈ ds, dat n d = true) → dats n ds = true
  | [], _ => by cases n <;> rfl
  | d :: r, h => by
    have e : dats n (d :: r) = (dat n d && dats n r) := by cases n <;> simp [dats]
    rw [e, h d (.head _), dats_all fun x hx => h x (.tail _ hx)]; rfl
theorem eq_lists {a b : Nat} {ds : List D} {mh : MH} {P : D → MH → Prop} (e1 : mh[a]? = some (.lst ds)) (e2 : mh[b]? = some (.lst ds)) (hd : ∀ d ∈ ds, dat 59 d = true) (h : P (.bl true) mh) : wV (eqD (.ref a) (.ref b) mh) P := by
  obtain ⟨as, e, l⟩ := dats_py mh 59 ds (dats_all hd)
  have p1 : py mh 60 (.ref a) = some (.list as) := by
    show (match mh[a]? with | some o => (match mapO (py mh 59) o.items with | some xs => some (PyData.list xs) | none => none) | none => none) = _
    rw [e1]; dsimp only [MO.items]; rw [e]
  have p2 : py mh 60 (.ref b) = some (.list as) := by
    show (match mh[b]? with | some o => (match mapO (py mh 59) o.items with | some xs => some (PyData.list xs) | none => none) | none => none) = _
    rw [e2]; dsimp only [MO.items]; rw [e]
  refine wV_eq (k := true) ?_ h
  unfold eqB
  rw [p1, p2]
  dsimp only
  rw [SeqAt.eqv_refl _ (by simpa [PyData.canLay0] using l)]
noncomputable def finD (z : Nat × Int × Tri) : D := .tup [doD (.int 0) (natD z.1), oneD (mineD z.2.1 z.2.2)]
theorem dat_fin (z : Nat × Int × Tri) : dat 59 (finD z) = true := by
  have e : dat 59 (finD z) = dat 55 (triD z.2.2) := by
    obtain ⟨c, p, t⟩ := z
    generalize hx : triD t = x
    show dat 59 (.tup [doD (.int 0) (natD c), oneD (.tup [.int p, triD t, .tup [.int (-1), .int 0, .int (-1)], .tup [.int 1, .int 0], .bl true])]) = _
    rw [hx]
    have s1 : PyData.strOk "do" = true := by decide +kernel
    simp only [doD, oneD, natD, dat, dats, s1, Bool.and_true, Bool.true_and]
  rw [e, dat_tri]
noncomputable def outF (t : Tri) (s : Kd) : D → List D
  | .tup [_, _, .int c] => (resL c t s).map fun z => oneD (mineD z.1 z.2)
  | _ => []
theorem spread_due (t : Tri) (s : Kd) : (((([D.int 0] : List D).flatMap fun d => ((chs s).map natD).map (doD d)) ++ [] ++ []).flatMap fun m => (outF t s m).map fun o => D.tup [m, o]) = (dueZ t s).map finD := by
  have one : ∀ s : Kd, chs s = [0] → dueZ t s = (resL 0 t s).map (fun z => (0, z.1, z.2)) → (((([D.int 0] : List D).flatMap fun d => ((chs s).map natD).map (doD d)) ++ [] ++ []).flatMap fun m => (outF t s m).map fun o => D.tup [m, o]) = (dueZ t s).map finD := fun s e1 e2 => by
    rw [e1, e2, List.map_map]
    show ([doD (.int 0) (natD 0)] : List D).flatMap (fun m => (outF t s m).map fun o => D.tup [m, o]) = _
    rw [List.flatMap_cons, List.flatMap_nil, List.append_nil]
    show ((resL ((0 : Nat) : Int) t s).map fun z => oneD (mineD z.1 z.2)).map (fun o => D.tup [doD (.int 0) (natD 0), o]) = _
    rw [List.map_map]
    rfl
  cases s with
  | cho a n =>
    rw [List.append_nil, List.append_nil, List.flatMap_cons, List.flatMap_nil, List.append_nil]
    have e1 : chs (.cho a n) = List.range n := rfl
    have e2 : dueZ t (.cho a n) = (List.range n).map fun c : Nat => ((c, (0 : Int) + 1, upt a (some (c : Int), some (c : Int)) t) : Nat × Int × Tri) := rfl
    rw [e1, e2, List.map_map, List.map_map]
    generalize List.range n = l
    induction l with
    | nil => rfl
    | cons x r ih =>
      rw [List.map_cons, List.flatMap_cons, ih, List.map_cons]
      rfl
  | _ => exact one _ rfl rfl
theorem due_len (t : Tri) (s : Kd) (ok : s.ok) : (dueZ t s).length ≤ 20 := by
  cases s with
  | cho a n => unfold dueZ; rw [List.length_map, List.length_range]; exact ok.2
  | _ => exact Nat.le_trans (by unfold dueZ; rw [List.length_map]; exact res_len _ _ _) (by decide)
theorem g_spread1 (k : Nat) (t : Tri) (s : Kd) (ok : s.ok) : Gives (fun h => runF (Gk (k + 8)) fuel f79 [progD (kdD s), wldD t] h) ((dueZ t s).map finD) := by
  have hl : (chs s).length ≤ 20 := by
    cases s with
    | cho a n => unfold chs; rw [List.length_range]; exact ok.2
    | _ => exact (by decide : 1 ≤ 20)
  have hm := run_moves (k + 6) (pr := progD (kdD s)) (w := wldD t) (cs := fun _ => (chs s).map natD) (g_hands1 (k + 5) t) (fun d hd => by rw [List.mem_singleton.mp hd]; exact g_choices k t s ok) (g_loss1 (k + 5) t) (g_fall1 (k + 5) t) (by
    show (([D.int 0] : List D).flatMap fun d => ((chs s).map natD).map (doD d)).length + 0 + 0 ≤ 1000
    rw [List.flatMap_cons, List.flatMap_nil, List.append_nil, List.length_map, List.length_map]; omega)
  rw [← spread_due]
  refine run_spread (k + 7) (F := outF t s) hm (fun m hmm => ?_) ?_
  · rw [List.append_nil, List.append_nil, List.flatMap_cons, List.flatMap_nil, List.append_nil] at hmm
    obtain ⟨d, hd, rfl⟩ := List.mem_map.mp hmm
    obtain ⟨c, _, rfl⟩ := List.mem_map.mp hd
    exact g_out (k + 1) c t s ok
  · rw [spread_due, List.length_map]
    have := due_len t s ok
    omega
theorem run_reck (k : Nat) (t : Tri) (gt : goodT t) (s : Kd) (ok : s.ok) (mh : MH) {P : D → MH → Prop} (h : ∀ mh', Ext [] mh mh' → P (.bl true) mh') : wV (runF (Gk (k + 9)) fuel f99 [triD t, kdD s] mh) P := by
  refine wV_run (b99_eq (k + 8)) lenP99 lenN99 rfl ?_
  show wS (b99 (k + 8)) [some (triD t), some (kdD s), none, none, none, none, none, none] mh _
  unfold b99
  repeat (first | walk_at "s" | refine and_mk (by simp) ?_)
  refine wS_for ?_
  repeat (first | walk_at "s" | refine and_mk (by simp) ?_)
  refine (g_due (k + 5) t gt s ok).w fun jd h1 x1 g1 l1 => ?_
  have ne : jd ≠ mh.length := by rw [List.length_append, List.length_singleton] at l1; omega
  refine ⟨_, src_list g1, (dueZ t s).map duD, fun i l h => ∃ x5 x6 x7, l = [some (triD t), some (kdD s), some (progD (kdD s)), some (.tup [.tup [.int (-1), .int 0, .int (-1)], .tup [.int 1, .int 0], .bl true]), some (.ref mh.length), x5, x6, x7] ∧ h[jd]? = some (.lst ((dueZ t s).map duD)) ∧ h[mh.length]? = some (.lst (((dueZ t s).take i).map finD)) ∧ Ext [] mh h,
    ⟨none, none, none, rfl, g1, x1.old _ _ (by simp) at_new, Ext.more.trans x1⟩, ?_, ?_, ?_⟩
  · rintro i l h ⟨x5, x6, x7, rfl, g, _⟩
    exact lref_keep g
  · rintro i d l h ed ⟨x5, x6, x7, rfl, g2, g3, x3⟩
    rw [List.getElem?_map] at ed
    cases ez : (dueZ t s)[i]? with
    | none => rw [ez] at ed; cases ed
    | some z =>
      rw [ez] at ed
      cases ed
      have li := (List.getElem?_eq_some_iff.mp ez).1
      have dl := due_len t s ok
      refine wG_tup rfl ?_
      repeat walk_at "s"
      refine ⟨ty_list g3, ?_⟩
      repeat (first | walk_at "s" | refine and_mk (by simp) ?_)
      refine wV_addT (by simp) ?_
      repeat (first | walk_at "s" | refine and_mk (by simp) ?_)
      refine wV_append g3 (by rw [List.length_map, List.length_take]; omega) ?_
      repeat (first | walk_at "s" | refine and_mk (by simp) ?_)
      refine ⟨_, _, _, rfl, ?_, ?_, ?_⟩
      · rw [List.getElem?_set_ne (fun z => ne z.symm)]; exact g2
      · rw [at_set g3, List.take_add_one, ez, List.map_append]
        rfl
      · exact x3.setNew (Nat.le_refl _)
  · rintro l h2 ⟨x5, x6, x7, rfl, g2, g3, x3⟩
    rw [List.length_map, List.take_length] at g3
    repeat (first | walk_at "s" | refine and_mk (by simp) ?_)
    refine wV_addT (by simp) ?_
    repeat (first | walk_at "s" | refine and_mk (by simp) ?_)
    refine (g_spread1 k t s ok).w fun js h4 x4 g4 l4 => ?_
    repeat (first | walk_at "s" | refine and_mk (by simp) ?_)
    refine eq_lists g4 (x4.old _ _ (by simp) g3) (fun d hd => ?_) ?_
    · obtain ⟨z, _, rfl⟩ := List.mem_map.mp hd
      exact dat_fin z
    · exact h _ (x3.trans x4)
noncomputable def sendD (a : Nat) : D := .tup [.str "send", .int 0, .int 5, .int a, .int 1]
noncomputable def lineD (b : Nat) : D := .tup [.int 5, .int b, .int 0, .int 1, .int 2]
noncomputable def takeD (b : Nat) : D := .tup [.str "take", .int (-1), .tup [lineD b]]
noncomputable def prog2 (a b : Nat) : D := .tup [.int 2, .tup [.int 1, .int 1], .tup [.tup [sendD a, takeD b]], .tup [.int 0, .int 0]]
noncomputable def begD (pl : Int) (t : Tri) : D := .tup [.int pl, triD t, .tup [.int 1, .int 0, .int (-1)], .tup [.int 0, .int 0], .bl false]
noncomputable def waiD (t : Tri) : D := .tup [.int 1, triD t, .tup [.int (-1), .int (-1), .int (-1)], .tup [.int 3, .int 0], .bl false]
noncomputable def tkD (t : Tri) : D := .tup [.int 2, triD t, .tup [.int 0, .int 0, .int (-1)], .tup [.int 3, .int 0], .bl false]
noncomputable def letD (p : Pr) : D := .tup [.int 5, prD p, .int 0]
noncomputable def goneD : D := .tup [.int (-1), .tup [.tup [.int 0, .int 0], .tup [.int 0, .int 0], .tup [.int 0, .int 0]], .tup [.int (-1), .int (-1), .int (-1)], .tup [.int 0, .int 0], .bl false]
noncomputable def rowsD (l : List D) : D := .tup [.tup [.tup [], .tup []], .tup [.tup l, .tup []]]
noncomputable def wD2 (x y : D) (l : List D) (m n : Int) : D := .tup [.tup [x, y], rowsD l, .tup [.int m, .int n]]
noncomputable def sentD (t : Tri) (p : Pr) : D := wD2 (begD 0 t) (waiD t) [letD p] 1 1
theorem g_hands2 (k : Nat) (t : Tri) (p : Pr) : Gives (fun h => runF (Gk (k + 1)) fuel f36 [sentD t p] h) [.int 0, .int 1] := Gives.new fun h => by kernel_rfl
theorem g_send0 (k : Nat) (t : Tri) (p : Pr) (a b : Nat) : Gives (fun h => runF (Gk (k + 6)) fuel f45 [prog2 a b, sentD t p, .int 0] h) [.int 0] := Gives.new fun h => by kernel_rfl
theorem g_senders (k : Nat) (t : Tri) (p : Pr) : Gives (fun h => runF (Gk (k + 2)) fuel f49 [sentD t p, .int 1, .int (-1)] h) [.int 0, .int 1] := Gives.new fun h => by kernel_rfl
theorem in_one {n : Nat} {c x : Int} {b : Bool} {mh : MH} {P : D → MH → Prop} (e : mh[n]? = some (.lst [.int c])) (hb : (c == x) = b) (h : P (.bl b) mh) : wV (inD false (.int x) (.ref n) mh) P := by
  refine wV_in (k := b) ?_ h
  have e2 : py mh 60 (.ref n) = some (.list [.int c]) := by
    show (match mh[n]? with | some o => (match mapO (py mh 59) o.items with | some xs => some (PyData.list xs) | none => none) | none => none) = _
    rw [e]; rfl
  have e1 : py mh 60 (.int x) = some (.int x) := rfl
  unfold inB
  rw [e1, e2]
  show some (([PyData.int c].any fun y => PyData.eqv y (.int x))) = some b
  rw [List.any_cons, List.any_nil, Bool.or_false]
  exact congrArg some hb
noncomputable def pick1 : Nat → List D
  | 0 => []
  | _ => [.tup [.int 0, .int 5]]
theorem g_takes (k : Nat) (t : Tri) (p : Pr) (b : Nat) : Gives (fun h => runF (Gk (k + 3)) fuel f48 [sentD t p, .int 1, takeD b] h) [.tup [.int 0, .int 5]] := by
  refine Gives.of fun mh => ?_
  refine wV_run (b48_eq (k + 2)) lenP48 lenN48 rfl ?_
  show wS (b48 (k + 2)) [some (sentD t p), some (.int 1), some (takeD b), none, none, none, none] mh _
  unfold b48
  repeat walk_at "s"
  refine wD_compS ?_
  repeat walk_at "s"
  refine wV_ixT (j := 2) (d := .tup [lineD b]) rfl ?_
  refine ⟨_, rfl, [lineD b], fun _ => true, fun _ => .int 5, rfl, by simp, fun d hd => ?_, ?_⟩
  · rw [List.mem_singleton.mp hd]
    exact ⟨_, rfl, rfl, fun _ => by kernel_rfl⟩
  rw [filter_all, List.map_cons, List.map_nil]
  repeat (first | walk_at "s" | refine and_mk (by simp) ?_)
  have g1 : ∀ {g : MH}, (mh ++ [MO.lst [.int 5]] ++ g)[mh.length]? = some (.lst [.int 5]) := fun {g} => (Ext.more (W := [])).old _ _ (by simp) at_new
  refine in_one (b := false) g1 rfl ?_
  repeat walk_at "s"
  refine wS_for ?_
  repeat walk_at "s"
  refine wV_ixT (j := 1) (d := .int (-1)) rfl ?_
  repeat walk_at "s"
  refine (g_senders k t p).w fun js h2 x2 g2 l2 => ?_
  have l3 : mh.length + 2 ≤ js := by rw [List.length_append, List.length_append] at l2; exact l2
  have eL : (mh ++ [MO.lst [.int 5]]).length = mh.length + 1 := by rw [List.length_append]; rfl
  refine ⟨_, src_list g2, [.int 0, .int 1], fun i l h => ∃ x5 x6, l = [some (sentD t p), some (.int 1), some (takeD b), some (.ref mh.length), some (.ref (mh.length + 1)), x5, x6] ∧ h[js]? = some (.lst [.int 0, .int 1]) ∧ h[mh.length]? = some (.lst [.int 5]) ∧ h[mh.length + 1]? = some (.lst (pick1 i)) ∧ Ext [] mh h,
    ⟨none, none, by rw [eL]; rfl, g2, x2.old _ _ (by simp) g1, x2.old _ _ (by simp) (by rw [← eL]; exact at_new), (Ext.more.trans Ext.more).trans x2⟩, ?_, ?_, ?_⟩
  · rintro i l h ⟨x5, x6, rfl, g, _⟩
    exact lref_keep g
  · rintro i d l h ed ⟨x5, x6, rfl, g3, g4, g5, x3⟩
    match i, ed with
    | 0, ed =>
      cases ed
      repeat walk_at "s"
      refine wV_of (d := .tup [letD p]) (h := h) (by kernel_rfl) ?_
      repeat walk_at "s"
      refine wV_len (by intro z z'; cases z') rfl ?_
      repeat walk_at "s"
      refine wV_ixT (j := 0) (d := letD p) rfl ?_
      repeat walk_at "s"
      refine wV_ixT (j := 0) (d := .int 5) rfl ?_
      repeat walk_at "s"
      refine in_one (b := true) g4 rfl ?_
      repeat walk_at "s"
      refine ⟨ty_list g5, ?_⟩
      repeat walk_at "s"
      refine wV_ixT (j := 0) (d := letD p) rfl ?_
      repeat walk_at "s"
      refine wV_ixT (j := 0) (d := .int 5) rfl ?_
      repeat (first | walk_at "s" | refine and_mk (by simp) ?_)
      refine wV_append g5 (by simp [pick1]) ?_
      repeat walk_at "s"
      refine ⟨_, _, rfl, ?_, ?_, at_set g5, x3.setNew (by omega)⟩
      · rw [List.getElem?_set_ne (by omega)]; exact g3
      · rw [List.getElem?_set_ne (by omega)]; exact g4
    | 1, ed =>
      cases ed
      repeat walk_at "s"
      refine wV_of (d := .tup []) (h := h) (by kernel_rfl) ?_
      repeat walk_at "s"
      refine wV_len (by intro z z'; cases z') rfl ?_
      repeat walk_at "s"
      exact ⟨_, _, rfl, g3, g4, g5, x3⟩
    | n + 2, ed => cases ed
  · rintro l h ⟨x5, x6, rfl, g3, g4, g5, x3⟩
    repeat walk_at "s"
    exact ⟨_, rfl, x3, g5, Nat.le_add_right _ _⟩
theorem e_now2 (k : Nat) (t : Tri) (p : Pr) (a b : Nat) (mh : MH) : runF (Gk (k + 4)) fuel f43 [prog2 a b, sentD t p, .int 1] mh = some (.obj "Step" ["form"] [takeD b], mh) := by kernel_rfl
theorem g_take1 (k : Nat) (t : Tri) (p : Pr) (a b : Nat) : Gives (fun h => runF (Gk (k + 6)) fuel f45 [prog2 a b, sentD t p, .int 1] h) [.tup [.int 0, .int 5]] := by
  refine Gives.of fun mh => ?_
  refine wV_run (b45_eq (k + 5)) lenP45 lenN45 rfl ?_
  show wS (b45 (k + 5)) [some (prog2 a b), some (sentD t p), some (.int 1), none, none] mh _
  unfold b45
  repeat walk_at "s"
  refine wV_of (e_now2 (k + 1) _ _ _ _ _) ?_
  repeat walk_at "s"
  refine wV_of (d := .bl false) (h := mh) rfl ?_
  repeat walk_at "s"
  refine ⟨_, _, _, _, _, rfl, rfl, by decide +kernel, ?_⟩
  repeat walk_at "s"
  refine run_told (k + 4) _ mh ?_
  repeat walk_at "s"
  refine wV_ixT (j := 0) (d := .str "take") rfl ?_
  repeat walk_at "s"
  refine eq_no (fun _ => by kernel_rfl) ?_
  repeat walk_at "s"
  refine wV_ixT (j := 0) (d := .str "take") rfl ?_
  repeat walk_at "s"
  refine eq_no (fun _ => by kernel_rfl) ?_
  repeat walk_at "s"
  refine wV_ixT (j := 0) (d := .str "take") rfl ?_
  repeat walk_at "s"
  refine eq_no (fun _ => by kernel_rfl) ?_
  repeat walk_at "s"
  refine wV_ixT (j := 0) (d := .str "take") rfl ?_
  repeat walk_at "s"
  refine eq_yes (fun _ => by kernel_rfl) ?_
  repeat walk_at "s"
  refine (g_takes (k + 2) t p b).w fun j h' x g l => ?_
  exact ⟨_, rfl, x, g, l⟩
theorem g_falls2 (k : Nat) (t : Tri) (p : Pr) : Gives (fun h => runF (Gk (k + 2)) fuel f66 [sentD t p] h) [.tup [.str "fall", .int 0], .tup [.str "fall", .int 1]] := by
  refine Gives.of fun mh => ?_
  refine wV_run (b66_eq (k + 1)) lenP66 lenN66 rfl ?_
  show wS (b66 (k + 1)) [some (sentD t p)] mh _
  unfold b66
  repeat walk_at "s"
  refine wV_of (d := .tup [.int 1, .int 1]) (h := mh) (by kernel_rfl) ?_
  repeat walk_at "s"
  refine wV_of (d := .int 1) (h := mh) (by kernel_rfl) ?_
  repeat walk_at "s"
  refine wD_compL ?_
  repeat walk_at "s"
  refine (g_hands2 k t p).w fun j h' x g l => ?_
  refine ⟨_, src_list g, j, _, fun _ => true, fun d => .tup [.str "fall", d], rfl, g, by simp, fun d hd => ?_, ?_⟩
  · rcases List.mem_cons.mp hd with rfl | hd
    · exact ⟨_, rfl, by kernel_rfl, fun _ => by kernel_rfl⟩
    · rw [List.mem_singleton.mp hd]
      exact ⟨_, rfl, by kernel_rfl, fun _ => by kernel_rfl⟩
  · rw [filter_all]
    exact ⟨_, rfl, x.trans Ext.more, at_new, x.len⟩
noncomputable def los1 : Nat → List D
  | 0 => []
  | _ => [.tup [.str "lose", .int 0, .int 1]]
noncomputable def los2 : Nat → Nat → List D
  | 0, 0 => []
  | 0, 1 => []
  | _, _ => [.tup [.str "lose", .int 0, .int 1]]
noncomputable def rowL (p : Pr) : Nat → Nat → List D
  | 0, 1 => [letD p]
  | _, _ => []
theorem i01 {d : D} {i : Nat} (ed : ([D.int 0, D.int 1] : List D)[i]? = some d) : (i = 0 ∨ i = 1) ∧ d = natD i := by
  match i, ed with
  | 0, ed => cases ed; exact ⟨.inl rfl, rfl⟩
  | 1, ed => cases ed; exact ⟨.inr rfl, rfl⟩
  | n + 2, ed => cases ed
theorem e_row (k : Nat) (t : Tri) (p : Pr) {i j : Nat} (hi : i = 0 ∨ i = 1) (hj : j = 0 ∨ j = 1) (mh : MH) : runF (Gk (k + 1)) fuel f38 [sentD t p, natD i, natD j] mh = some (.tup (rowL p i j), mh) := by
  rcases hi with rfl | rfl <;> rcases hj with rfl | rfl <;> kernel_rfl
theorem g_losses2 (k : Nat) (t : Tri) (p : Pr) : Gives (fun h => runF (Gk (k + 2)) fuel f65 [sentD t p] h) [.tup [.str "lose", .int 0, .int 1]] := by
  refine Gives.of fun mh => ?_
  refine wV_run (b65_eq (k + 1)) lenP65 lenN65 rfl ?_
  show wS (b65 (k + 1)) [some (sentD t p), none, none, none] mh _
  unfold b65
  repeat (first | walk_at "s" | refine and_mk (by simp) ?_)
  refine wV_ixT (j := 2) (d := .tup [.int 1, .int 1]) rfl ?_
  repeat walk_at "s"
  refine wV_ixT (j := 0) (d := .int 1) rfl ?_
  repeat walk_at "s"
  refine wS_for ?_
  repeat walk_at "s"
  refine (g_hands2 k t p).w fun ja h1 x1 g1 l1 => ?_
  have ne : ja ≠ mh.length := by rw [List.length_append, List.length_singleton] at l1; omega
  refine ⟨_, src_list g1, [.int 0, .int 1], fun i l h => ∃ x2 x3, l = [some (sentD t p), some (.ref mh.length), x2, x3] ∧ h[ja]? = some (.lst [.int 0, .int 1]) ∧ h[mh.length]? = some (.lst (los1 i)) ∧ Ext [] mh h,
    ⟨none, none, rfl, g1, x1.old _ _ (by simp) at_new, Ext.more.trans x1⟩, ?_, ?_, ?_⟩
  · rintro i l h ⟨x2, x3, rfl, g, _⟩
    exact lref_keep g
  · rintro i d l h ed ⟨x2, x3, rfl, g2, g3, y3⟩
    obtain ⟨hi, rfl⟩ := i01 ed
    repeat walk_at "s"
    refine wS_for ?_
    repeat walk_at "s"
    refine (g_hands2 k t p).w fun jb h4 x4 g4 l4 => ?_
    have ne2 : jb ≠ mh.length := by have := lt_len g3; omega
    refine ⟨_, src_list g4, [.int 0, .int 1], fun j l h => ∃ x3, l = [some (sentD t p), some (.ref mh.length), some (natD i), x3] ∧ h[jb]? = some (.lst [.int 0, .int 1]) ∧ h[ja]? = some (.lst [.int 0, .int 1]) ∧ h[mh.length]? = some (.lst (los2 i j)) ∧ Ext [] mh h,
      ⟨x3, rfl, g4, x4.old _ _ (by simp) g2, ?_, y3.trans x4⟩, ?_, ?_, ?_⟩
    · have e : los2 i 0 = los1 i := by rcases hi with rfl | rfl <;> rfl
      rw [e]; exact x4.old _ _ (by simp) g3
    · rintro j l h ⟨x3, rfl, g, _⟩
      exact lref_keep g
    · rintro j d l h ed ⟨x3, rfl, g5, g6, g7, y7⟩
      obtain ⟨hj, rfl⟩ := i01 ed
      repeat walk_at "s"
      refine wV_of (e_row k t p hi hj h) ?_
      repeat walk_at "s"
      refine wV_len (by intro z z'; cases z') rfl ?_
      repeat walk_at "s"
      by_cases c : i = 0 ∧ j = 1
      · obtain ⟨rfl, rfl⟩ := c
        refine when_tt rfl ?_
        repeat walk_at "s"
        refine ⟨ty_list g7, ?_⟩
        repeat (first | walk_at "s" | refine and_mk (by simp) ?_)
        refine wV_append g7 (by simp [los2]) ?_
        repeat walk_at "s"
        refine ⟨_, rfl, ?_, ?_, at_set g7, y7.setNew (Nat.le_refl _)⟩
        · rw [List.getElem?_set_ne (fun z => ne2 z.symm)]; exact g5
        · rw [List.getElem?_set_ne (fun z => ne z.symm)]; exact g6
      · have e1 : rowL p i j = [] := by rcases hi with rfl | rfl <;> rcases hj with rfl | rfl <;> first | rfl | exact absurd ⟨rfl, rfl⟩ c
        have e2 : los2 i (j + 1) = los2 i j := by rcases hi with rfl | rfl <;> rcases hj with rfl | rfl <;> first | rfl | exact absurd ⟨rfl, rfl⟩ c
        refine when_ff (by rw [e1]; rfl) ?_
        repeat walk_at "s"
        exact ⟨_, rfl, g5, g6, by rw [e2]; exact g7, y7⟩
    · rintro l h ⟨x3, rfl, g5, g6, g7, y7⟩
      repeat walk_at "s"
      refine ⟨_, _, rfl, g6, ?_, y7⟩
      have e : los2 i 2 = los1 (i + 1) := by rcases hi with rfl | rfl <;> rfl
      rw [← e]; exact g7
  · rintro l h ⟨x2, x3, rfl, g2, g3, y3⟩
    repeat walk_at "s"
    exact ⟨_, rfl, y3, g3, Nat.le_refl _⟩
noncomputable def takenD (t : Tri) (p : Pr) (b : Nat) : D := wD2 (begD 0 t) (tkD (upt b p t)) [] 1 1
noncomputable def mvT : D := .tup [.str "do", .int 1, .tup [.int 0, .int 5]]
theorem run_taken (k : Nat) (t : Tri) (p : Pr) {b : Nat} (hb : b < 3) (mh : MH) {P : D → MH → Prop} (h : ∀ mh', Ext [] mh mh' → P (takenD t p b) mh') : wV (runF (Gk (k + 4)) fuel f62 [sentD t p, .int 1, takeD b, .tup [.int 0, .int 5]] mh) P := by
  refine wV_run (b62_eq (k + 3)) lenP62 lenN62 rfl ?_
  show wS (b62 (k + 3)) [some (sentD t p), some (.int 1), some (takeD b), some (.tup [.int 0, .int 5]), none, none, none, none] mh _
  unfold b62
  repeat walk_at "s"
  refine wD_compS ?_
  repeat walk_at "s"
  refine wV_ixT (j := 2) (d := .tup [lineD b]) rfl ?_
  refine ⟨_, rfl, [lineD b], fun _ => true, fun d => d, rfl, by simp, fun d hd => ?_, ?_⟩
  · rw [List.mem_singleton.mp hd]
    exact ⟨_, rfl, by kernel_rfl, fun _ => by kernel_rfl⟩
  rw [filter_all, List.map_cons, List.map_nil]
  repeat walk_at "s"
  refine wV_ixL (j := 0) at_new rfl ?_
  generalize hm : mh ++ [MO.lst [lineD b]] = m1
  have x1 : Ext [] mh m1 := by rw [← hm]; exact Ext.more
  repeat walk_at "s"
  refine wV_of (d := waiD t) (h := m1) (by kernel_rfl) ?_
  repeat walk_at "s"
  refine wV_ixT (j := 4) (d := .int 2) rfl ?_
  repeat walk_at "s"
  refine wV_of (d := .tup [.int 2, triD t, .tup [.int (-1), .int (-1), .int (-1)], .tup [.int 3, .int 0], .bl false]) (h := m1) (by kernel_rfl) ?_
  repeat walk_at "s"
  refine eq_no (fun _ => by kernel_rfl) ?_
  repeat walk_at "s"
  refine wV_ixT (j := 0) (d := .int 0) rfl ?_
  repeat walk_at "s"
  refine wV_of (e_row (k + 2) t p (.inl rfl) (.inr rfl) m1) ?_
  repeat walk_at "s"
  refine wV_ixT (j := 1) (d := .int b) rfl ?_
  repeat walk_at "s"
  refine wV_ixT (j := 0) (d := letD p) rfl ?_
  repeat walk_at "s"
  refine wV_ixT (j := 1) (d := prD p) rfl ?_
  repeat walk_at "s"
  refine wV_of (d := .tup [.int 2, triD (upt b p t), .tup [.int (-1), .int (-1), .int (-1)], .tup [.int 3, .int 0], .bl false]) (h := m1) (by rcases lt3 hb with rfl | rfl | rfl <;> kernel_rfl) ?_
  repeat walk_at "s"
  refine wV_ixT (j := 2) (d := .int 0) rfl ?_
  repeat walk_at "s"
  refine wV_ixT (j := 0) (d := letD p) rfl ?_
  repeat walk_at "s"
  refine wV_ixT (j := 2) (d := .int 0) rfl ?_
  repeat walk_at "s"
  refine wV_of (d := .tup [.int 2, triD (upt b p t), .tup [.int 0, .int (-1), .int (-1)], .tup [.int 3, .int 0], .bl false]) (h := m1) (by kernel_rfl) ?_
  repeat walk_at "s"
  refine wV_ixT (j := 3) (d := .int 1) rfl ?_
  repeat walk_at "s"
  refine wV_of (d := tkD (upt b p t)) (h := m1) (by kernel_rfl) ?_
  repeat walk_at "s"
  refine wV_of (d := .tup []) (h := m1) (by kernel_rfl) ?_
  repeat walk_at "s"
  refine wV_of (d := wD2 (begD 0 t) (waiD t) [] 1 1) (h := m1) (by kernel_rfl) ?_
  repeat walk_at "s"
  exact wV_of (d := takenD t p b) (h := m1) (by kernel_rfl) (h _ x1)
theorem run_amove (k : Nat) (t : Tri) (p : Pr) {a b : Nat} (hb : b < 3) (mh : MH) {P : D → MH → Prop} (h : ∀ mh', Ext [] mh mh' → P (takenD t p b) mh') : wV (runF (Gk (k + 6)) fuel f67 [prog2 a b, sentD t p, mvT] mh) P := by
  refine wV_run (b67_eq (k + 5)) lenP67 lenN67 rfl ?_
  show wS (b67 (k + 5)) [some (prog2 a b), some (sentD t p), some mvT, none] mh _
  unfold b67
  repeat walk_at "s"
  refine wV_ixT (j := 0) (d := .str "do") rfl ?_
  repeat walk_at "s"
  refine eq_no (fun _ => by kernel_rfl) ?_
  repeat walk_at "s"
  refine wV_ixT (j := 0) (d := .str "do") rfl ?_
  repeat walk_at "s"
  refine eq_no (fun _ => by kernel_rfl) ?_
  repeat walk_at "s"
  refine wV_ixT (j := 1) (d := .int 1) rfl ?_
  repeat walk_at "s"
  refine wV_of (e_now2 (k + 1) _ _ _ _ _) ?_
  refine ⟨_, _, _, _, _, rfl, rfl, by decide +kernel, ?_⟩
  repeat walk_at "s"
  refine run_told (k + 4) _ mh ?_
  repeat walk_at "s"
  refine wV_ixT (j := 1) (d := .int 1) rfl ?_
  repeat walk_at "s"
  refine wV_ixT (j := 2) (d := .tup [.int 0, .int 5]) rfl ?_
  repeat walk_at "s"
  refine wV_run (b54_eq (k + 4)) lenP54 lenN54 rfl ?_
  show wS (b54 (k + 4)) [some (prog2 a b), some (sentD t p), some (.int 1), some (takeD b), some (.tup [.int 0, .int 5])] mh _
  unfold b54
  repeat walk_at "s"
  refine wV_ixT (j := 0) (d := .str "take") rfl ?_
  repeat walk_at "s"
  refine eq_no (fun _ => by kernel_rfl) ?_
  repeat walk_at "s"
  refine wV_ixT (j := 0) (d := .str "take") rfl ?_
  repeat walk_at "s"
  refine eq_yes (fun _ => by kernel_rfl) ?_
  repeat walk_at "s"
  exact run_taken k t p hb mh h
theorem g_outT (k : Nat) (t : Tri) (p : Pr) {a b : Nat} (hb : b < 3) : Gives (fun h => runF (Gk (k + 7)) fuel f80 [prog2 a b, sentD t p, mvT] h) [takenD t p b] := by
  refine Gives.of fun mh => ?_
  refine wV_run (b80_eq (k + 6)) lenP80 lenN80 rfl ?_
  show wS (b80 (k + 6)) [some (prog2 a b), some (sentD t p), some mvT, none, none, none, none] mh _
  unfold b80
  repeat walk_at "s"
  refine wV_ixT (j := 0) (d := .str "do") rfl ?_
  repeat walk_at "s"
  refine eq_yes (fun _ => by kernel_rfl) ?_
  repeat walk_at "s"
  refine wV_ixT (j := 1) (d := .int 1) rfl ?_
  repeat walk_at "s"
  refine wV_of (e_now2 (k + 2) _ _ _ _ _) ?_
  refine ⟨_, _, _, _, _, rfl, rfl, by decide +kernel, ?_⟩
  repeat walk_at "s"
  refine run_told (k + 5) _ mh ?_
  repeat walk_at "s"
  refine wV_ixT (j := 0) (d := .str "take") rfl ?_
  repeat (first | walk_at "s" | refine and_mk (by simp) ?_)
  refine in_no (b := false) (fun _ => by kernel_rfl) ?_
  repeat walk_at "s"
  refine wV_ixT (j := 0) (d := .str "take") rfl ?_
  repeat walk_at "s"
  refine in_no (b := false) (fun _ => by kernel_rfl) ?_
  repeat walk_at "s"
  refine run_amove k t p hb mh fun m1 x1 => ?_
  repeat walk_at "s"
  refine wV_ixT (j := 0) (d := .str "do") rfl ?_
  repeat walk_at "s"
  refine eq_no (fun _ => by kernel_rfl) ?_
  repeat walk_at "s"
  refine ⟨by simp, ?_⟩
  exact ⟨_, rfl, x1.trans Ext.more, at_new, x1.len⟩
noncomputable def mv2 : List D := [.tup [.str "do", .int 0, .int 0], mvT, .tup [.str "lose", .int 0, .int 1], .tup [.str "fall", .int 0], .tup [.str "fall", .int 1]]
noncomputable def out2 (t : Tri) (p : Pr) (b : Nat) : D → List D
  | .tup [_, .int 0, .int 0] => [wD2 (begD 1 t) (waiD t) [letD p, letD p] 1 1]
  | .tup [_, .int 1, .tup _] => [takenD t p b]
  | .tup [_, .int 0, .int 1] => [wD2 (begD 0 t) (waiD t) [] 0 1]
  | .tup [_, .int 0] => [wD2 goneD (waiD t) [letD p] 1 0]
  | .tup [_, .int 1] => [wD2 (begD 0 t) goneD [] 1 0]
  | _ => []
noncomputable def due2 (t : Tri) (p : Pr) (b : Nat) : List D := [.tup [.tup [.str "do", .int 0, .int 0], wD2 (begD 1 t) (waiD t) [letD p, letD p] 1 1], .tup [mvT, takenD t p b], .tup [.tup [.str "lose", .int 0, .int 1], wD2 (begD 0 t) (waiD t) [] 0 1], .tup [.tup [.str "fall", .int 0], wD2 goneD (waiD t) [letD p] 1 0], .tup [.tup [.str "fall", .int 1], wD2 (begD 0 t) goneD [] 1 0]]
theorem g_spread2 (k : Nat) (t : Tri) {a b : Nat} (ha : a < 3) (hb : b < 3) : Gives (fun h => runF (Gk (k + 9)) fuel f79 [prog2 a b, sentD t (sel a t)] h) (due2 t (sel a t) b) := by
  have hm : Gives (fun h => runF (Gk (k + 8)) fuel f64 [prog2 a b, sentD t (sel a t)] h) mv2 := by
    refine run_moves (k + 7) (hs := [.int 0, .int 1]) (cs := fun d => match d with | .int 0 => [.int 0] | _ => [.tup [.int 0, .int 5]]) (g_hands2 (k + 6) t _) (fun d hd => ?_) (g_losses2 (k + 5) t _) (g_falls2 (k + 5) t _) (by decide)
    rcases List.mem_cons.mp hd with rfl | hd
    · exact g_send0 (k + 1) t _ a b
    · rw [List.mem_singleton.mp hd]
      exact g_take1 (k + 1) t _ a b
  refine run_spread (k + 8) (F := out2 t (sel a t) b) hm (fun m hmm => ?_) (show 5 ≤ 1000 by decide)
  simp only [mv2, List.mem_cons, List.mem_nil_iff, or_false] at hmm
  rcases hmm with rfl | rfl | rfl | rfl | rfl
  · exact Gives.new fun h => by rcases lt3 ha with rfl | rfl | rfl <;> kernel_rfl
  · exact g_outT (k + 1) t _ hb
  · exact Gives.new fun h => by kernel_rfl
  · exact Gives.new fun h => by kernel_rfl
  · exact Gives.new fun h => by kernel_rfl
theorem and_len {ds : List D} {q : Prop} (h : ds.length ≤ 1000000) (hq : q) : ds.length ≤ 1000000 ∧ q := ⟨h, hq⟩
theorem dat_due2 (t : Tri) (p : Pr) (b : Nat) : ∀ d ∈ due2 t p b, dat 59 d = true := by
  have s1 : PyData.strOk "do" = true := by decide +kernel
  have s2 : PyData.strOk "lose" = true := by decide +kernel
  have s3 : PyData.strOk "fall" = true := by decide +kernel
  have t1 := fun n => dat_tri n t
  have t2 := fun n => dat_tri n (upt b p t)
  have p1 := fun n => dat_pr n p
  generalize hx : triD t = x at t1
  generalize hy : triD (upt b p t) = y at t2
  generalize hz : prD p = z at p1
  intro d hd
  simp only [due2, List.mem_cons, List.mem_nil_iff, or_false] at hd
  rcases hd with rfl | rfl | rfl | rfl | rfl <;> simp only [mvT, takenD, wD2, begD, waiD, tkD, rowsD, letD, goneD, hx, hy, hz, dat, dats, s1, s2, s3, t1, t2, p1, Bool.and_true, Bool.true_and]
theorem run_carried (k : Nat) (t : Tri) {a b : Nat} (ha : a < 3) (hb : b < 3) (mh : MH) {P : D → MH → Prop} (h : ∀ mh', Ext [] mh mh' → P (.bl true) mh') : wV (runF (Gk (k + 10)) fuel f100 [triD t, .int a, .int b] mh) P := by
  refine wV_run (b100_eq (k + 9)) lenP100 lenN100 rfl ?_
  show wS (b100 (k + 9)) [some (triD t), some (.int a), some (.int b), none, none, none, none, none, none, none, none, none, none, none, none] mh _
  unfold b100
  repeat (first | walk_at "s" | with_reducible refine and_len (by simp) ?_)
  refine wV_ixT (j := a) (tri_at ha t) ?_
  repeat (first | walk_at "s" | with_reducible refine and_len (by simp) ?_)
  refine wV_ixT (j := a) (tri_at ha t) ?_
  repeat (first | walk_at "s" | with_reducible refine and_len (by simp) ?_)
  refine wV_of (e_put (k + 8) hb t (sel a t) _) ?_
  repeat (first | walk_at "s" | with_reducible refine and_len (by simp) ?_)
  refine ⟨ty_list at_new, ?_⟩
  repeat (first | walk_at "s" | with_reducible refine and_len (by simp) ?_)
  refine wV_append at_new (by simp) ?_
  rw [set_new]
  repeat (first | walk_at "s" | with_reducible refine and_len (by simp) ?_)
  refine ⟨ty_list at_new, ?_⟩
  repeat (first | walk_at "s" | with_reducible refine and_len (by simp) ?_)
  refine wV_append at_new (by simp) ?_
  rw [set_new]
  repeat (first | walk_at "s" | with_reducible refine and_len (by simp) ?_)
  refine ⟨ty_list at_new, ?_⟩
  repeat (first | walk_at "s" | with_reducible refine and_len (by simp) ?_)
  refine wV_ixT (j := 1) (d := rowsD [letD (sel a t)]) rfl ?_
  repeat (first | walk_at "s" | with_reducible refine and_len (by simp) ?_)
  refine wV_append at_new (by simp) ?_
  rw [set_new]
  repeat (first | walk_at "s" | with_reducible refine and_len (by simp) ?_)
  refine ⟨ty_list at_new, ?_⟩
  repeat (first | walk_at "s" | with_reducible refine and_len (by simp) ?_)
  refine wV_append at_new (by simp) ?_
  rw [set_new]
  repeat (first | walk_at "s" | with_reducible refine and_len (by simp) ?_)
  refine (g_spread2 k t ha hb).w fun js h1 x1 g1 l1 => ?_
  repeat (first | walk_at "s" | with_reducible refine and_len (by simp) ?_)
  refine eq_lists g1 (x1.old _ _ (by simp) at_new) (dat_due2 _ _ _) ?_
  exact h _ (Ext.more.trans x1)
theorem run_cell (k : Nat) (ns : List Int) (i : Nat) (mh : MH) {P : D → MH → Prop} (h : ∀ v : Int, P (.int v) mh) : wV (runF (Gk (k + 1)) fuel f86 [.rol (ns.map D.int), .int i] mh) P := by
  refine wV_run (b86_eq k) lenP86 lenN86 rfl ?_
  show wS (b86 k) [some (.rol (ns.map D.int)), some (.int i)] mh _
  unfold b86
  repeat walk_at "s"
  refine wV_len (by intro z; simp) rfl ?_
  repeat walk_at "s"
  refine when_of (fun hk => ?_) fun hk => ?_
  · repeat walk_at "s"
    rw [decide_eq_true_iff, List.length_map] at hk
    have hi : i < ns.length := by omega
    refine wV_ixR (d := .int ns[i]) (by rw [List.getElem?_map, List.getElem?_eq_getElem hi]; rfl) ?_
    exact h _
  · repeat walk_at "s"
    exact h _
theorem fm_lo (i : Int) {j : Int} (h : 0 < j) : 0 ≤ i.fmod j := Int.fmod_nonneg_of_pos i h
theorem fm_hi (i : Int) {j : Int} (h : 0 < j) : i.fmod j < j := Int.fmod_lt_of_pos i h
theorem fm_nat (i : Int) (n : Nat) (h : 0 < n) : ∃ r : Nat, r < n ∧ i.fmod (n : Int) = (r : Int) := by
  have l1 := fm_lo i (j := (n : Int)) (by omega)
  have l2 := fm_hi i (j := (n : Int)) (by omega)
  exact ⟨(i.fmod n).toNat, by omega, by omega⟩
theorem run_mixed (k : Nat) (c i : Int) (mh : MH) {P : D → MH → Prop} (h : ∀ v : Int, 0 ≤ v → v < 2147483647 → P (.int v) mh) : wV (runF (Gk (k + 1)) fuel f87 [.int c, .int i] mh) P := by
  refine wV_run (b87_eq k) lenP87 lenN87 rfl ?_
  show wS (b87 k) [some (.int c), some (.int i), none] mh _
  unfold b87
  repeat walk_at "s"
  refine wV_mod (by decide) ?_
  repeat walk_at "s"
  refine wV_mul (.inl ⟨by decide, by decide⟩) ?_
  repeat walk_at "s"
  refine wV_mul (.inr ⟨by decide, by decide⟩) ?_
  repeat walk_at "s"
  refine wV_mod (by decide) ?_
  generalize ((c.fmod 2147483647 + 7919 * i + 1) * 48271) = y
  have l1 := fm_lo y (j := 2147483647) (by decide)
  have l2 := fm_hi y (j := 2147483647) (by decide)
  generalize y.fmod 2147483647 = z at l1 l2
  repeat walk_at "s"
  refine wV_fdiv (by decide) (by decide) ?_
  repeat walk_at "s"
  refine wV_mul (.inl ⟨by omega, by omega⟩) ?_
  repeat walk_at "s"
  refine wV_mod (by decide) ?_
  exact h _ (fm_lo _ (by decide)) (fm_hi _ (by decide))
theorem run_draws (k : Nat) (c : Int) (n : Nat) (hn : n ≤ 20) (B : Int) (hB : 0 < B) (hB2 : B.natAbs < 10889035741470030830827987437816582766592) (mh : MH) {P : D → MH → Prop} (h : ∀ (vs : List Int) (j : Nat) (h' : MH), vs.length = n → (∀ v ∈ vs, 0 ≤ v) → Ext [] mh h' → h'[j]? = some (.lst (vs.map D.int)) → P (.ref j) h') :
    wV (runF (Gk (k + 2)) fuel f88 [.int c, .int n, .int B] mh) P := by
  refine wV_run (b88_eq (k + 1)) lenP88 lenN88 rfl ?_
  show wS (b88 (k + 1)) [some (.int c), some (.int n), some (.int B), none, none, none, none] mh _
  unfold b88
  repeat (first | walk_at "s" | with_reducible refine and_len (by simp) ?_)
  refine wV_fdiv (by decide) (by decide) ?_
  repeat walk_at "s"
  refine wS_for ?_
  repeat walk_at "s"
  refine ⟨_, rng1_nat (by omega), rangeL 0 n, fun i l h => ∃ (r : Int) (x5 x6 : Option D) (vs : List Int), l = [some (.int c), some (.int n), some (.int B), some (.ref mh.length), some (.int r), x5, x6] ∧ vs.length = i ∧ (∀ v ∈ vs, 0 ≤ v) ∧ h[mh.length]? = some (.lst (vs.map D.int)) ∧ Ext [] mh h,
    ⟨_, none, none, [], rfl, rfl, fun _ z => absurd z (by simp), at_new, Ext.more⟩, fun _ _ _ _ => ⟨rfl, rfl⟩, ?_, ?_⟩
  · rintro i d l h ed ⟨r, x5, x6, vs, rfl, hl, hv, g, x⟩
    have li := (List.getElem?_eq_some_iff.mp ed).1
    rw [rangeL_len] at li
    rw [rangeL_nat] at ed
    obtain ⟨i', _, rfl⟩ := List.mem_map.mp (List.mem_of_getElem? ed)
    have add : ∀ (v r : Int) (x5 x6 : Option D), 0 ≤ v → ∃ (r' : Int) (x5' x6' : Option D) (vs' : List Int), [some (D.int c), some (D.int n), some (D.int B), some (D.ref mh.length), some (D.int r), x5, x6] = [some (D.int c), some (D.int n), some (D.int B), some (D.ref mh.length), some (D.int r'), x5', x6'] ∧ vs'.length = i + 1 ∧ (∀ v ∈ vs', 0 ≤ v) ∧ (h.set mh.length (.lst (vs.map D.int ++ [.int v])))[mh.length]? = some (.lst (vs'.map D.int)) ∧ Ext [] mh (h.set mh.length (.lst (vs.map D.int ++ [.int v]))) := fun v r x5 x6 h0 => by
      refine ⟨r, x5, x6, vs ++ [v], rfl, by rw [List.length_append, hl]; rfl, fun w hw => ?_, ?_, x.setNew (Nat.le_refl _)⟩
      · rcases List.mem_append.mp hw with z | z
        · exact hv w z
        · rw [List.mem_singleton.mp z]; exact h0
      · rw [at_set g, List.map_append]; rfl
    have mixed : wS (seqS (asgS (calM (runF (Gk (k + 1)) fuel f87) (dCons (vr 0) (dCons (vr 5) (DM.ret [])))) (gSet 6))
      (seqS (dropS (methM "list" appendD (vr 3) (dCons (dop modD (dop mulD (vr 6) (dop addD (dop fdivD (vr 6) (DM.ret (.int 613))) (DM.ret (.int 40692)))) (DM.ret (.int 2147483399))) (DM.ret []))))
      SM.nxt)) [some (.int c), some (.int n), some (.int B), some (.ref mh.length), some (.int r), some (natD i'), x6] h fun f l h' => f = .nx ∧ ∃ (r : Int) (x5 x6 : Option D) (vs : List Int), l = [some (.int c), some (.int n), some (.int B), some (.ref mh.length), some (.int r), x5, x6] ∧ vs.length = i + 1 ∧ (∀ v ∈ vs, 0 ≤ v) ∧ h'[mh.length]? = some (.lst (vs.map D.int)) ∧ Ext [] mh h' := by
      repeat walk_at "s"
      refine run_mixed k _ _ _ fun w w1 w2 => ?_
      repeat walk_at "s"
      refine ⟨ty_list g, ?_⟩
      repeat walk_at "s"
      refine wV_fdiv (by decide) (by decide) ?_
      repeat walk_at "s"
      refine wV_mul (.inl ⟨by omega, by omega⟩) ?_
      repeat walk_at "s"
      refine wV_mod (by decide) ?_
      repeat walk_at "s"
      refine wV_append g (by rw [List.length_map]; omega) ?_
      repeat walk_at "s"
      exact ⟨rfl, add _ _ _ _ (fm_lo _ (by decide))⟩
    have mixed' := wS_mono mixed (Q := seqK SM.nxt (forK (fun l h => ∃ (r : Int) (x5 x6 : Option D) (vs : List Int), l = [some (D.int c), some (D.int n), some (D.int B), some (D.ref mh.length), some (D.int r), x5, x6] ∧ vs.length = i + 1 ∧ (∀ v ∈ vs, 0 ≤ v) ∧ h[mh.length]? = some (.lst (vs.map D.int)) ∧ Ext [] mh h) (seqK (seqS (retS (vr 3)) SM.nxt) (retK P)))) (by
      rintro f l h' ⟨rfl, q⟩
      exact seqK_nx (wS_nxt q))
    repeat walk_at "s"
    refine wV_mod (by decide) ?_
    repeat walk_at "s"
    refine when_of (fun e1 => ?_) fun e1 => ?_
    · repeat walk_at "s"
      refine when_of (fun e2 => ?_) fun e2 => ?_
      · repeat walk_at "s"
        refine ⟨ty_list g, ?_⟩
        repeat walk_at "s"
        refine wV_mod (by omega) ?_
        repeat walk_at "s"
        refine wV_append g (by rw [List.length_map]; omega) ?_
        repeat walk_at "s"
        refine wV_fdiv (by omega) hB2 ?_
        repeat walk_at "s"
        exact add _ _ _ _ (fm_lo _ hB)
      · exact mixed'
    · exact when_f mixed'
  · rintro l h2 ⟨r, x5, x6, vs, rfl, hl, hv, g, x⟩
    rw [rangeL_len] at hl
    repeat walk_at "s"
    exact h vs _ _ hl hv x g
theorem e_pow39 : (10 : Int) ^ (39 : Int).toNat = 1000000000000000000000000000000000000000 := by decide +kernel
theorem lt5 {a : Nat} (h : a < 5) : a = 0 ∨ a = 1 ∨ a = 2 ∨ a = 3 ∨ a = 4 := by omega
theorem lt8 {a : Nat} (h : a < 8) : a = 0 ∨ a = 1 ∨ a = 2 ∨ a = 3 ∨ a = 4 ∨ a = 5 ∨ a = 6 ∨ a = 7 := by omega
theorem run_far (k : Nat) (v : Int) (mh : MH) {P : D → MH → Prop} (h : ∀ w mh', Ext [] mh mh' → P (.int w) mh') : wV (runF (Gk (k + 1)) fuel f89 [.int v] mh) P := by
  refine wV_run (b89_eq k) lenP89 lenN89 rfl ?_
  show wS (b89 k) [some (.int v)] mh _
  unfold b89
  repeat walk_at "s"
  refine wV_mod (by decide) ?_
  repeat walk_at "s"
  refine wV_mod (by decide) ?_
  repeat walk_at "s"
  refine wV_pow (by decide) (by decide) (by decide) ?_
  repeat (first | walk_at "s" | with_reducible refine and_len (by simp) ?_)
  refine wV_fdiv (by decide) (by decide) ?_
  repeat walk_at "s"
  refine wV_mod (by decide) ?_
  obtain ⟨r, hr, er⟩ := fm_nat (v.fdiv 9) 3 (by decide)
  have er : (v.fdiv 9).fmod 3 = (r : Int) := er
  rw [er]
  rcases lt3 hr with rfl | rfl | rfl
  · exact wV_ixL (j := 0) at_new rfl (h _ _ Ext.more)
  · exact wV_ixL (j := 1) at_new rfl (h _ _ Ext.more)
  · exact wV_ixL (j := 2) at_new rfl (h _ _ Ext.more)
theorem run_pair (k : Nat) (v w : Int) (hw : 0 ≤ w) (mh : MH) {P : D → MH → Prop} (h : ∀ p mh', good p → Ext [] mh mh' → P (prD p) mh') : wV (runF (Gk (k + 2)) fuel f90 [.int v, .int w] mh) P := by
  refine wV_run (b90_eq (k + 1)) lenP90 lenN90 rfl ?_
  show wS (b90 (k + 1)) [some (.int v), some (.int w), none, none] mh _
  unfold b90
  repeat walk_at "s"
  refine run_far k v mh fun lo h1 x1 => ?_
  repeat walk_at "s"
  refine wV_mod (by decide) ?_
  repeat (first | walk_at "s" | with_reducible refine and_len (by simp) ?_)
  refine wV_fdiv (by decide) (by decide) ?_
  repeat walk_at "s"
  refine wV_mod (by decide) ?_
  obtain ⟨r, hr, er⟩ := fm_nat (w.fdiv 5) 3 (by decide)
  have er : (w.fdiv 5).fmod 3 = (r : Int) := er
  rw [er]
  refine wV_mono (P := fun d h' => ∃ e, d = .int e ∧ 0 ≤ e ∧ Ext [] mh h') ?_ ?_
  · rcases lt3 hr with rfl | rfl | rfl
    · exact wV_ixL (j := 0) at_new rfl ⟨_, rfl, Int.le_refl _, x1.trans Ext.more⟩
    · exact wV_ixL (j := 1) at_new rfl ⟨_, rfl, fm_lo _ (by decide), x1.trans Ext.more⟩
    · exact wV_ixL (j := 2) at_new rfl ⟨_, rfl, hw, x1.trans Ext.more⟩
  rintro d h2 ⟨e, rfl, he, x2⟩
  repeat (first | walk_at "s" | with_reducible refine and_len (by simp) ?_)
  refine wV_fdiv (by decide) (by decide) ?_
  repeat walk_at "s"
  refine wV_mod (by decide) ?_
  obtain ⟨q, hq, eq⟩ := fm_nat (w.fdiv 15) 5 (by decide)
  have eq : (w.fdiv 15).fmod 5 = (q : Int) := eq
  rw [eq]
  have gd : good (some lo, some (lo + e)) := vd_f.mpr (by omega)
  rcases lt5 hq with rfl | rfl | rfl | rfl | rfl
  · exact wV_ixL (j := 0) at_new rfl (h (some lo, some (lo + e)) _ gd (x2.trans Ext.more))
  · exact wV_ixL (j := 1) at_new rfl (h (some lo, some (lo + e)) _ gd (x2.trans Ext.more))
  · exact wV_ixL (j := 2) at_new rfl (h (none, some (lo + e)) _ rfl (x2.trans Ext.more))
  · exact wV_ixL (j := 3) at_new rfl (h (some lo, none) _ rfl (x2.trans Ext.more))
  · exact wV_ixL (j := 4) at_new rfl (h (none, none) _ rfl (x2.trans Ext.more))
theorem run_step (k : Nat) (v0 v1 v2 v3 : Int) (j : Nat) (mh : MH) (g : mh[j]? = some (.lst [.int v0, .int v1, .int v2, .int v3])) {P : D → MH → Prop} (h : ∀ s mh', Kd.ok s → Ext [] mh mh' → P (kdD s) mh') : wV (runF (Gk (k + 2)) fuel f98 [.ref j] mh) P := by
  obtain ⟨a, ha, ea⟩ := fm_nat v0 3 (by decide)
  obtain ⟨b, hb, eb⟩ := fm_nat v1 3 (by decide)
  obtain ⟨n, hn, en⟩ := fm_nat v1 20 (by decide)
  obtain ⟨q, hq, eq⟩ := fm_nat v2 3 (by decide)
  obtain ⟨c, hc, ec⟩ := fm_nat ((a : Int) + 1) 3 (by decide)
  obtain ⟨i, hi, ei⟩ := fm_nat v3 8 (by decide)
  have ea : v0.fmod 3 = (a : Int) := ea
  have eb : v1.fmod 3 = (b : Int) := eb
  have en : v1.fmod 20 = (n : Int) := en
  have eq : v2.fmod 3 = (q : Int) := eq
  have ec : ((a : Int) + 1).fmod 3 = (c : Int) := ec
  have ei : v3.fmod 8 = (i : Int) := ei
  refine wV_run (b98_eq (k + 1)) lenP98 lenN98 rfl ?_
  show wS (b98 (k + 1)) [some (.ref j), none, none, none, none] mh _
  unfold b98
  repeat walk_at "s"
  refine wV_ixL (j := 0) g rfl ?_
  repeat walk_at "s"
  refine wV_mod (by decide) ?_
  rw [ea]
  repeat walk_at "s"
  refine wV_ixL (j := 1) g rfl ?_
  repeat walk_at "s"
  refine wV_mod (by decide) ?_
  rw [eb]
  repeat walk_at "s"
  refine wV_ixL (j := 2) g rfl ?_
  repeat walk_at "s"
  refine run_far k v2 mh fun w h1 x1 => ?_
  have g1 := x1.old _ _ (by simp) g
  repeat (first | walk_at "s" | with_reducible refine and_len (by simp) ?_)
  refine wV_ixL (j := 1) g1 rfl ?_
  repeat walk_at "s"
  refine wV_mod (by decide) ?_
  rw [en]
  have en1 : (1 : Int) + (n : Int) = ((n + 1 : Nat) : Int) := by omega
  repeat (first | walk_at "s" | with_reducible refine and_len (by simp) ?_)
  rw [en1]
  have g2 : ∀ o : MO, (h1 ++ [o])[j]? = some (.lst [.int v0, .int v1, .int v2, .int v3]) := fun o => (Ext.more (W := [])).old _ _ (by simp) g1
  have g3 : ∀ o p q : MO, (h1 ++ [o] ++ [p] ++ [q])[j]? = some (.lst [.int v0, .int v1, .int v2, .int v3]) := fun o p q => ((Ext.more (W := [])).trans Ext.more).old _ _ (by simp) (g2 o)
  have xe : ∀ {o p q : MO}, Ext [] mh (h1 ++ [o] ++ [p] ++ [q]) := fun {o p q} => x1.trans ((Ext.more.trans Ext.more).trans Ext.more)
  repeat (first | walk_at "s" | with_reducible refine and_len (by simp) ?_)
  refine wV_ixL (j := 1) (g2 _) rfl ?_
  repeat walk_at "s"
  refine wV_mod (by decide) ?_
  rw [eb]
  repeat (first | walk_at "s" | with_reducible refine and_len (by simp) ?_)
  refine wV_ixL (j := 2) (g2 _) rfl ?_
  repeat walk_at "s"
  refine wV_mod (by decide) ?_
  rw [eq]
  repeat (first | walk_at "s" | with_reducible refine and_len (by simp) ?_)
  refine wV_mod (by decide) ?_
  rw [ec]
  repeat (first | walk_at "s" | with_reducible refine and_len (by simp) ?_)
  refine wV_addL ((Ext.more (W := [])).old _ _ (by simp) at_new) at_new (by simp) ?_
  repeat walk_at "s"
  refine wV_ixL (j := 3) (g3 _ _ _) rfl ?_
  repeat walk_at "s"
  refine wV_mod (by decide) ?_
  rw [ei]
  rcases lt8 hi with rfl | rfl | rfl | rfl | rfl | rfl | rfl | rfl
  · exact wV_ixL (j := 0) at_new rfl (h (.put a w) _ ha xe)
  · exact wV_ixL (j := 1) at_new rfl (h (.copy a b) _ ⟨ha, hb⟩ xe)
  · exact wV_ixL (j := 2) at_new rfl (h (.rai a w) _ ha xe)
  · exact wV_ixL (j := 3) at_new rfl (h (.sum a b) _ ⟨ha, hb⟩ xe)
  · exact wV_ixL (j := 4) at_new rfl (h (.cho a (n + 1)) _ ⟨ha, hn⟩ xe)
  · exact wV_ixL (j := 5) at_new rfl (h (.less a w b) _ ha xe)
  · exact wV_ixL (j := 6) at_new rfl (h (.bef a b q) _ ⟨ha, hb⟩ xe)
  · exact wV_ixL (j := 7) at_new rfl (h (.bef a c 2) _ ⟨ha, hc⟩ xe)
theorem box_at (s : Kd) : ∃ w r, kdD s = .tup (w :: .int s.box :: r) := by
  cases s <;> exact ⟨_, _, rfl⟩
theorem four {vs : List Int} (h : vs.length = 4) : ∃ a b c d, vs = [a, b, c, d] := by
  match vs, h with
  | [a, b, c, d], _ => exact ⟨a, b, c, d, rfl⟩
theorem main_w (ns : List Int) (hns : ns.length ≤ 63) : wV (runF (Gk (11 + 1)) fuel f101 [.rol (ns.map D.int)] []) fun d _ => d = .bl true := by
  refine wV_run (b101_eq 11) lenP101 lenN101 rfl ?_
  show wS (b101 11) [some (.rol (ns.map D.int)), none, none, none, none] [] _
  unfold b101
  repeat walk_at "s"
  refine wS_for ?_
  repeat walk_at "s"
  refine wV_len (by intro z z'; cases z') rfl ?_
  repeat walk_at "s"
  rw [List.length_map]
  refine wV_of (d := .int (minI 62 [(ns.length : Int)])) (h := []) rfl ?_
  repeat walk_at "s"
  refine wV_of (d := .int (maxI 2 [minI 62 [(ns.length : Int)]])) (h := []) rfl ?_
  repeat walk_at "s"
  generalize hM : maxI 2 [minI 62 [(ns.length : Int)]] = M
  have bM : 2 ≤ M ∧ M ≤ 62 := by
    rw [minI2, maxI2] at hM
    subst hM
    split <;> split <;> omega
  have eR : rng3 [.int 0, .int M, .int 2] = some (.seq (rangeS 0 2 (rngN 0 M 2))) := by
    show (if (0 < (2 : Int) ∧ (2 : Int) < 1000) ∧ (-1000000 ≤ (0 : Int) ∧ (0 : Int) ≤ 1000000) ∧ (-1000000 ≤ M ∧ M ≤ 1000000) then some (Src.seq (rangeS 0 2 (rngN 0 M 2))) else none) = _
    rw [if_pos ⟨⟨by decide, by decide⟩, ⟨by decide, by decide⟩, by omega, by omega⟩]
  refine ⟨_, eR, rangeS 0 2 (rngN 0 M 2), fun _ l _ => ∃ x1 x2 x3 x4, l = [some (.rol (ns.map D.int)), x1, x2, x3, x4], ⟨_, _, _, _, rfl⟩, fun _ _ _ _ => ⟨rfl, rfl⟩, ?_, ?_⟩
  · rintro i d l h ed ⟨x1, x2, x3, x4, rfl⟩
    obtain ⟨i', _, rfl⟩ := List.mem_map.mp (List.mem_of_getElem? ed)
    have ei : (0 : Int) + (i' : Int) * 2 = ((i' * 2 : Nat) : Int) := by omega
    have ei1 : ((i' * 2 : Nat) : Int) + 1 = ((i' * 2 + 1 : Nat) : Int) := by omega
    rw [ei]
    repeat walk_at "s"
    refine run_cell 10 ns _ h fun c1 => ?_
    repeat walk_at "s"
    refine wV_pow (by decide) (by decide) (by decide) ?_
    rw [e_pow39]
    refine wV_mul (.inl ⟨by decide, by decide⟩) ?_
    repeat walk_at "s"
    refine run_draws 9 c1 6 (by decide) _ (by decide) (by decide) h fun vs jd h1 l1 p1 y1 g1 => ?_
    repeat walk_at "s"
    refine wD_comp ?_
    repeat walk_at "s"
    refine ⟨_, rng1_nat (B := 3) (by decide), rangeL 0 3, fun j acc h' => ∃ ps : List Pr, acc = ps.map prD ∧ ps.length = j ∧ (∀ p ∈ ps, good p) ∧ Ext [] h1 h', by rw [rangeL_len]; decide, ⟨[], rfl, rfl, fun _ z => absurd z (by simp), Ext.refl⟩, fun _ _ _ _ => ⟨rfl, rfl⟩, ?_, ?_, ?_⟩
    · rintro j acc h' ⟨ps, rfl, hl, _⟩
      rw [List.length_map, hl]; exact Nat.le_refl _
    · rintro j d acc h' ed2 ⟨ps, rfl, hl, hg, y2⟩
      have lj := (List.getElem?_eq_some_iff.mp ed2).1
      rw [rangeL_len] at lj
      rw [rangeL_nat] at ed2
      obtain ⟨j', hj', rfl⟩ := List.mem_map.mp (List.mem_of_getElem? ed2)
      have hj' := List.mem_range.mp hj'
      have e3 : (j' : Int) + 3 = ((j' + 3 : Nat) : Int) := by omega
      have g2 := y2.old _ _ (by simp) g1
      repeat walk_at "s"
      refine wV_ixL (j := j') (d := .int (vs[j']'(by omega))) g2 (by rw [List.getElem?_map, List.getElem?_eq_getElem (by omega)]; rfl) ?_
      repeat walk_at "s"
      rw [e3]
      refine wV_ixL (j := j' + 3) (d := .int (vs[j' + 3]'(by omega))) g2 (by rw [List.getElem?_map, List.getElem?_eq_getElem (by omega)]; rfl) ?_
      repeat walk_at "s"
      refine run_pair 9 _ _ (p1 _ (List.getElem_mem _)) h' fun p h3 gp y3 => ?_
      refine ⟨ps ++ [p], by rw [List.map_append]; rfl, by rw [List.length_append, hl]; rfl, fun z hz => ?_, y2.trans y3⟩
      rcases List.mem_append.mp hz with z' | z'
      · exact hg _ z'
      · rw [List.mem_singleton.mp z']; exact gp
    · rintro acc h2 ⟨ps, rfl, hl, hg, y2⟩
      rw [rangeL_len] at hl
      obtain ⟨t, et, gt⟩ : ∃ t : Tri, ps.map prD = triL t ∧ goodT t := by
        match ps, hl, hg with
        | [a, b, c], _, hg => exact ⟨(a, b, c), rfl, hg _ (by simp), hg _ (by simp), hg _ (by simp)⟩
      rw [et]
      repeat walk_at "s"
      refine wV_tupOf (seq_new _ _) ?_
      repeat walk_at "s"
      rw [ei1]
      refine run_cell 10 ns _ _ fun c2 => ?_
      repeat walk_at "s"
      refine wV_pow (by decide) (by decide) (by decide) ?_
      rw [e_pow39]
      refine wV_mul (.inl ⟨by decide, by decide⟩) ?_
      repeat walk_at "s"
      refine run_draws 9 c2 4 (by decide) _ (by decide) (by decide) _ fun vs2 j2 h3 l3 p3 y3 g3 => ?_
      repeat walk_at "s"
      obtain ⟨v0, v1, v2, v3, rfl⟩ := four l3
      refine run_step 9 v0 v1 v2 v3 j2 h3 g3 fun s h4 ok y4 => ?_
      repeat walk_at "s"
      refine run_reck 2 t gt s ok h4 fun h5 y5 => ?_
      repeat walk_at "s"
      obtain ⟨w0, rr, ek⟩ := box_at s
      obtain ⟨a, ha, ea⟩ := fm_nat (s.box : Int) 3 (by decide)
      obtain ⟨b, hb, eb⟩ := fm_nat (vs[0]'(by omega)) 3 (by decide)
      have ea : (s.box : Int).fmod 3 = (a : Int) := ea
      have eb : (vs[0]'(by omega)).fmod 3 = (b : Int) := eb
      rw [ek]
      refine wV_ixT (j := 1) (d := .int s.box) rfl ?_
      repeat walk_at "s"
      refine wV_mod (by decide) ?_
      rw [ea]
      repeat walk_at "s"
      have g5 := ((((y2.trans Ext.more).trans y3).trans y4).trans y5).old _ _ (by simp) g1
      refine wV_ixL (j := 0) (d := .int (vs[0]'(by omega))) g5 (by rw [List.getElem?_map, List.getElem?_eq_getElem (by omega)]; rfl) ?_
      repeat walk_at "s"
      refine wV_mod (by decide) ?_
      rw [eb]
      repeat walk_at "s"
      refine run_carried 1 t ha hb h5 fun h6 y6 => ?_
      repeat walk_at "s"
      exact ⟨_, _, _, _, rfl⟩
  · rintro l h ⟨x1, x2, x3, x4, rfl⟩
    repeat walk_at "s"
    exact rfl
noncomputable def depth : Nat := 12
theorem main (ns : List Int) (h : ns.length ≤ 63) : ∃ mh', runF (GkN Tt depth) fuel f101 [.rol (ns.map D.int)] [] = some (.bl true, mh') := by
  obtain ⟨d, h', e, rfl⟩ := main_w ns h
  exact ⟨h', e⟩
end Lw
open PySem PySem.W PyProof.Rows
def PySem.W.Fast.tw4800381004879333815 : Unit := ()
def PySem.W.Fast.tw13790826840984929493 : Unit := ()
def PySem.W.Fast.tw9946981906818253022 : Unit := ()
def PySem.W.Fast.tw7518125298509678888 : Unit := ()
def PySem.W.Fast.tw6126788445743255016 : Unit := ()
def PySem.W.Fast.tw4957491056114622463 : Unit := ()
def PySem.W.Fast.tw11433074637692312679 : Unit := ()
def PySem.W.Fast.tw13579208761068828662 : Unit := ()
def PySem.W.Fast.tw9498421567384710601 : Unit := ()
def PySem.W.Fast.tw7768928048399039483 : Unit := ()
def PySem.W.Fast.tw15710814685843779551 : Unit := ()
def PySem.W.Fast.tw15656820081620194075 : Unit := ()
def PySem.W.Fast.tw531717246341514719 : Unit := ()
def PySem.W.Fast.tw8084990839173467960 : Unit := ()
def PySem.W.Fast.tw641476649052287706 : Unit := ()
def PySem.W.Fast.tw7979036729559821921 : Unit := ()
def PySem.W.Fast.tw10069386281039040346 : Unit := ()
def PySem.W.Fast.tw7822028634056637941 : Unit := ()
def PySem.W.Fast.tw1360897906712010318 : Unit := ()
def PySem.W.Fast.tw15448113968564252565 : Unit := ()
def PySem.W.Fast.tw232852148184677237 : Unit := ()
def PySem.W.Fast.tw6438546169205361940 : Unit := ()
def PySem.W.Fast.tw10282885884907412148 : Unit := ()
def PySem.W.Fast.tw15689314717400420946 : Unit := ()
def PySem.W.Fast.tw8931814367646779637 : Unit := ()
def PySem.W.Fast.tw5369159132200659441 : Unit := ()
def PySem.W.Fast.tw1914539475175710920 : Unit := ()
def PySem.W.Fast.tw67806666980644075 : Unit := ()
set_option maxRecDepth 100000 in
set_option maxHeartbeats 0 in
theorem PySem.Challenge.cw_letterall_k53_pairs_reckoned_holds : PySem.Challenge.rw_letterall_k53_pairs_reckoned.Holds := by
  w_on; o_law; z_head; (case hw => w_witness2)
  k_fill
  refine DL.walkX_of (fun _ => by kernel_rfl) (DL.walk (l := PySem.Challenge.rw_letterall_k53_pairs_reckoned) (Tt := Lw.Tt) (I := Lw.f101) (x := "_law_script") Lw.depth rfl rfl (fun w h Y => Y) ⟨rfl, by decide, by decide⟩ (by kernel_rfl) (by decide +kernel) ?T Lw.main)
  case T =>
    intro w mg h KX G
    refine' Lw.tbok KX G ?a14 ?l14 ?c14 ?k14 ?a15 ?l15 ?c15 ?k15 ?a16 ?l16 ?c16 ?k16 ?a17 ?l17 ?c17 ?k17 ?a18 ?l18 ?c18 ?k18 ?a20 ?l20 ?c20 ?k20 ?a21 ?l21 ?c21 ?k21 ?a22 ?l22 ?c22 ?k22 ?a30 ?l30 ?c30 ?k30 ?a31 ?l31 ?c31 ?k31 ?a36 ?l36 ?c36 ?k36 ?a37 ?l37 ?c37 ?k37 ?a38 ?l38 ?c38 ?k38 ?a39 ?l39 ?c39 ?k39 ?a40 ?l40 ?c40 ?k40 ?a43 ?l43 ?c43 ?k43 ?a45 ?l45 ?c45 ?k45 ?a47 ?l47 ?c47 ?k47 ?a48 ?l48 ?c48 ?k48 ?a49 ?l49 ?c49 ?k49 ?a54 ?l54 ?c54 ?k54 ?a61 ?l61 ?c61 ?k61 ?a62 ?l62 ?c62 ?k62 ?a64 ?l64 ?c64 ?k64 ?a65 ?l65 ?c65 ?k65 ?a66 ?l66 ?c66 ?k66 ?a67 ?l67 ?c67 ?k67 ?a68 ?l68 ?c68 ?k68 ?a69 ?l69 ?c69 ?k69 ?a71 ?l71 ?c71 ?k71 ?a72 ?l72 ?c72 ?k72 ?a73 ?l73 ?c73 ?k73 ?a74 ?l74 ?c74 ?k74 ?a75 ?l75 ?c75 ?k75 ?a76 ?l76 ?c76 ?k76 ?a77 ?l77 ?c77 ?k77 ?a79 ?l79 ?c79 ?k79 ?a80 ?l80 ?c80 ?k80 ?a81 ?l81 ?c81 ?k81 ?a82 ?l82 ?c82 ?k82 ?a83 ?l83 ?c83 ?k83 ?a84 ?l84 ?c84 ?k84 ?a86 ?l86 ?c86 ?k86 ?a87 ?l87 ?c87 ?k87 ?a88 ?l88 ?c88 ?k88 ?a89 ?l89 ?c89 ?k89 ?a90 ?l90 ?c90 ?k90 ?a91 ?l91 ?c91 ?k91 ?a92 ?l92 ?c92 ?k92 ?a93 ?l93 ?c93 ?k93 ?a94 ?l94 ?c94 ?k94 ?a95 ?l95 ?c95 ?k95 ?a96 ?l96 ?c96 ?k96 ?a97 ?l97 ?c97 ?k97 ?a98 ?l98 ?c98 ?k98 ?a99 ?l99 ?c99 ?k99 ?a100 ?l100 ?c100 ?k100 ?a101 ?l101 ?c101 ?k101 ?z0 ?z1 ?z2 ?z3 ?z4 ?z5 ?z6 ?z7 ?z8 ?z9 ?z10 ?z11 ?z12 ?z13 ?z14 ?z15 ?z16 ?n0 ?n1 ?n2 ?n3 ?n4 ?n5 ?n6 ?n7 ?n8 ?n9 ?n10 ?n11 ?n12 ?qt0 ?qtr0 ?qt1 ?qtr1 ?C24a ?C24b ?C24c ?C24d ?C24e ?C24f ?a24_1 ?b24_1 ?l24_1 ?c24_1 ?k24_1 ?a24_0 ?b24_0 ?l24_0 ?c24_0 ?k24_0 ?C24m ?C24k
    (case a14 | l14 | c14 | k14 | a15 | l15 | c15 | k15 | a16 | l16 | c16 | k16 | a17 | l17 | c17 | k17 | a18 | l18 | c18 | k18 | a20 | l20 | c20 | k20 | a21 | l21 | c21 | k21 | a22 | l22 | c22 | k22 | a30 | l30 | c30 | k30 | a31 | l31 | c31 | k31 | a36 | l36 | c36 | k36 | a37 | l37 | c37 | k37 | a38 | l38 | c38 | k38 | a39 | l39 | c39 | k39 | a40 | l40 | c40 | k40 | a43 | l43 | c43 | k43 | a45 | l45 | c45 | k45 | a47 | l47 | c47 | k47 | a48 | l48 | c48 | k48 | a49 | l49 | c49 | k49 | a54 | l54 | c54 | k54 | a61 | l61 | c61 | k61 | a62 | l62 | c62 | k62 | a64 | l64 | c64 | k64 | a65 | l65 | c65 | k65 | a66 | l66 | c66 | k66 | a67 | l67 | c67 | k67 | a68 | l68 | c68 | k68 | a69 | l69 | c69 | k69 | a71 | l71 | c71 | k71 | a72 | l72 | c72 | k72 | a73 | l73 | c73 | k73 | a74 | l74 | c74 | k74 | a75 | l75 | c75 | k75 | a76 | l76 | c76 | k76 | a77 | l77 | c77 | k77 | a79 | l79 | c79 | k79 | a80 | l80 | c80 | k80 | a81 | l81 | c81 | k81 | a82 | l82 | c82 | k82 | a83 | l83 | c83 | k83 | a84 | l84 | c84 | k84 | a86 | l86 | c86 | k86 | a87 | l87 | c87 | k87 | a88 | l88 | c88 | k88 | a89 | l89 | c89 | k89 | a90 | l90 | c90 | k90 | a91 | l91 | c91 | k91 | a92 | l92 | c92 | k92 | a93 | l93 | c93 | k93 | a94 | l94 | c94 | k94 | a95 | l95 | c95 | k95 | a96 | l96 | c96 | k96 | a97 | l97 | c97 | k97 | a98 | l98 | c98 | k98 | a99 | l99 | c99 | k99 | a100 | l100 | c100 | k100 | a101 | l101 | c101 | k101 | z0 | z1 | z2 | z3 | z4 | z5 | z6 | z7 | z8 | z9 | z10 | z11 | z12 | z13 | z14 | z15 | z16 | n0 | n1 | n2 | n3 | n4 | n5 | n6 | n7 | n8 | n9 | n10 | n11 | n12 | qt0 => k_is)
    (case qtr0 => kernel_rfl)
    (case qt1 => k_is)
    (case qtr1 => kernel_rfl)
    (case C24a | C24b | C24c | C24d | C24e | C24f | a24_1 | b24_1 | l24_1 | c24_1 | k24_1 | a24_0 | b24_0 | l24_0 | c24_0 | k24_0 | C24m | C24k => k_is)
#print axioms PySem.Challenge.cw_letterall_k53_pairs_reckoned_holds
